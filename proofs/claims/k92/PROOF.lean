import PyProof.Rows.All
import Wide.All
import OpenK.AllK
import Wide.FinOn
import Lean
import PyProof.EqAt
import PyProof.EqKinds
import PyProof.TupleCall
import PyProof.NeKinds
import KE.KIntText
import PySem.Challenge.RW_twoforone_k92_desk_done
set_option bootstrap.genMatcherCode false
set_option compiler.extract_closed false
set_option Elab.async false
set_option linter.all false
set_option maxRecDepth 100000
set_option maxHeartbeats 4000000
local macro_rules|`($a≈$b)=>`($a=some $b)
local macro_rules|`(⋯)=>`(by decide)
local macro_rules|`(∅)=>`(by omega)
def Bo:=@Array.getElem?_eq_getElem
def QX:=@Array.getElem?_eq_some_iff
def Hg:=@Array.getElem?_toList
def i9:=@Array.length_toList
def QW:=@Array.perm_iff_toList_perm
def j7:=@Bool.and_eq_true
def iR:=@Bool.and_false
def Am:=@Bool.and_true
def pG:=@Bool.eq_iff_iff
def Gi:=@Bool.false_and
def my:=@Bool.false_eq_true
def u7:=@Bool.false_ne_true
def pO:=@Bool.not_eq_true'
def Gm:=@Bool.or_eq_true
def pD:=@Bool.or_true
def Bu:=@PySem.Calls.callWith_builtin
def Ht:=@PySem.Calls.evalArgs_plain
def Gs:=@PySem.Calls.spliced_cons
def Gq:=@PySem.Code.quiet_builtin
def Gp:=@PySem.F.args_str_split_2
def Gn:=@PySem.F.args_tuple_mul_2
def GK:=@PySem.F.entry_str_split
def GJ:=@PySem.F.entry_tuple_mul
def Ak:=@PySem.F.slot_int_rmul
def Bp:=@PySem.F.slot_tuple_iterator_next
def pL:=@PySem.F.slot_tuple_mul
def Aj:=@PySem.F.slot_zip_next
def Ar:=@PySem.Heap.SameBut.update
def u6:=@PySem.Heap.get?_push_of_some
def j5:=@PySem.Heap.get?_push_size
def i7:=@PySem.Heap.get?_update_other
def h9:=@PySem.Heap.get?_update_self
def q7:=@PySem.Heap.lt_size
def p9:=@PySem.Heap.size_push
def Bl:=@Int.eq_ofNat_of_zero_le
def Ae:=@Int.not_lt
def mj:=@Int.toNat_natCast
def Bc:=@PyProof.Rows.KeyOrd.kle_of_klt
def iU:=@PyProof.Rows.KeyOrd.kle_refl
def Bj:=@PyProof.Rows.KeyOrd.kle_trans
def Hd:=@List.Perm.eq_of_pairwise
def Aq:=@List.Perm.refl
def jD:=@List.all_cons
def o5:=@List.all_eq_true
def lU:=@List.all_map
def lO:=@List.any_cons
def pN:=@List.append_assoc
def r9:=@List.append_nil
def iM:=@List.cons.inj
def Bh:=@List.cons_ne_nil
def Hs:=@List.dropLast_concat
def i5:=@List.drop_eq_getElem_cons
def mF:=@List.drop_length
def Gh:=@List.drop_zero
def Gz:=@List.filterMap_cons
def mC:=@List.find?_cons
def lZ:=@List.flatten_cons
def pW:=@List.forIn_cons
def Ao:=@List.forIn_nil
def l4:=@List.getD_eq_getElem?_getD
def g6:=@List.getElem?_append_left
def g9:=@List.getElem?_append_right
def l5:=@List.getElem?_cons_succ
def o6:=@List.getElem?_eq_getElem
def j3:=@List.getElem?_eq_some_iff
def k8:=@List.getElem?_map
def lY:=@List.getElem?_replicate
def iI:=@List.getElem?_set
def u9:=@List.getElem?_set_ne
def r8:=@List.getElem?_set_self
def Bg:=@List.getElem_map
def jK:=@List.getElem_mem
def iK:=@List.getElem_of_mem
def Q5:=@List.getLast?_eq_some_iff
def k7:=@List.length_append
def r4:=@List.length_cons
def pK:=@List.length_drop
def qb:=@List.length_eq_zero_iff
def u8:=@List.length_map
def Ai:=@List.length_nil
def Br:=@List.length_replicate
def Gk:=@List.length_set
def gW:=@List.length_take
def g5:=@List.map_append
def Gy:=@List.map_congr_left
def o4:=@List.map_cons
def iV:=@List.map_map
def lQ:=@List.mem_append
def Hr:=@List.mem_append_left
def o8:=@List.mem_append_right
def q5:=@List.mem_cons
def r0:=@List.mem_cons_of_mem
def o7:=@List.mem_cons_self
def Gj:=@List.mem_filter
def Bf:=@List.mem_filterMap
def dX:=@List.mem_map
def o0:=@List.mem_of_getElem?
def iQ:=@List.mem_range
def j6:=@List.mem_singleton
def Gx:=@List.mergeSort_perm
def GF:=@List.nodup_append
def iT:=@List.nodup_cons
def pP:=@List.nodup_nil
def n0:=@List.not_mem_nil
def pU:=@List.of_mem_zip
def jE:=@List.pairwise_cons
def Hn:=@List.pairwise_mergeSort
def Hm:=@List.pairwise_singleton
def jG:=@List.replicate_succ
def t9:=@List.size_toArray
def pJ:=@List.take_length
def Bt:=@List.take_of_length_le
def Gw:=@List.take_succ_cons
def G8:=@List.zipIdx_cons
def G5:=@List.zip_cons_cons
def pZ:=@Nat.add_le_add_left
def gV:=@Nat.le_add_right
def Ah:=@Nat.le_antisymm
def p6:=@Nat.le_of_lt
def fW:=@Nat.le_of_lt_succ
def jJ:=@Nat.le_of_not_lt
def t7:=@Nat.le_refl
def Ax:=@Nat.le_sub_one_of_lt
def gU:=@Nat.le_succ
def r6:=@Nat.le_trans
def dY:=@Nat.lt_irrefl
def i8:=@Nat.lt_of_le_of_lt
def G4:=@Nat.lt_of_le_of_ne
def j0:=@Nat.lt_of_lt_of_le
def jM:=@Nat.lt_succ_of_lt
def pI:=@Nat.lt_succ_self
def pR:=@Nat.min_eq_left
def G7:=@Nat.min_eq_right
def gZ:=@Nat.ne_of_gt
def j9:=@Nat.ne_of_lt
def Hq:=@Nat.sub_le_sub_right
def pH:=@Nat.succ_le_succ
def l0:=@Nat.zero_add
def cX:=@Nat.zero_le
def GD:=@Nat.zero_lt_of_lt
def bw:=@Ne.symm
def Be:=@PySem.Obj.data_mapFields
def u4:=@Option.bind_eq_some_iff
def k6:=@Option.bind_some
def Q3:=@Option.isSome_iff_exists
def Bb:=@Option.isSome_map
def t4:=@Option.map_eq_some_iff
def g0:=@Option.some.inj
def Al:=@PySem.Paired.length
def Ag:=@PySem.PassesOwn.never
def gQ:=@Prod.ext
def pY:=@PyProof.Rows.callWith_type1
def p8:=@PyProof.Rows.slot_tuple_getitem
def Q7:=@PySem.F.args_dict_keyiterator_next_1
def Q4:=@PySem.F.args_list_index_2
def Hc:=@PySem.F.args_tuple_add_2
def QZ:=@PySem.F.attrBase_ValueError
def Q6:=@PySem.F.entry_dict_keyiterator_next
def Q0:=@PySem.F.entry_list_index
def Hk:=@PySem.F.entry_tuple_add
def pX:=@PySem.F.excBase_ValueError
def l6:=@PySem.F.plainAttrs_list
def p7:=@PySem.F.plainAttrs_str
def i4:=@PySem.F.slot_dict_keyiterator_next
def Ha:=@PySem.F.slot_list_append
def Bk:=@PySem.F.slot_list_index
def lX:=@PySem.F.slot_str_join
def Hj:=@PySem.F.slot_tuple_add
def G9:=@PySem.F.type_list_append
def lW:=@PySem.F.type_str_join
def Bd:=@PySem.W.callWith_K
def Bs:=@PySem.W.cellsFrom_some
def GZ:=@PySem.W.codeRec_of
def jF:=@PySem.W.hideAll_get
def Ho:=@PySem.W.hideAll_none
def GX:=@PySem.W.isNs_of_in
def l8:=@PySem.W.kia_one
def Ba:=@PySem.W.kitx_dict
def Gv:=@PySem.W.looks_clsIn
def Aw:=@PySem.W.looks_findIn
def f7:=@PySem.W.mg_of
def GR:=@PySem.W.of_hideAll
def Gu:=@PySem.W.plainGet_of
def iJ:=@PySem.mem_of_lookup
def GQ:=@PySem.SeqAt.EqAt.int_int
def GP:=@PySem.SeqAt.EqAt.of_refs
def jH:=@PySem.StrLaws.glued_eq_join
def g8:=@beq_eq_false_iff_ne
def dz:=@beq_iff_eq
def mD:=@beq_self_eq_true
def dw:=@PySem.call_meets
def Av:=@PySem.codeAny_call_builtin
def Hf:=@PySem.codeAny_call_function
def jB:=@PySem.codeAny_mono
def bN:=@congrArg
def G6:=@decide_eq_decide
def t6:=@decide_eq_false
def p4:=@decide_eq_false_iff_not
def t8:=@decide_eq_true
def j8:=@decide_eq_true_eq
def fB:=@if_false
def j4:=@if_neg
def q4:=@if_pos
def dW:=@if_true
def Az:=@not_false_eq_true
def fu:=@not_or
def k9:=@of_decide_eq_true
def bT:=@or_false
def pF:=@PyProof.Rows.pairsOf_size
def Q8:=@PySem.plainObj_wpAny_Assign_Attribute
def fC:=@PySem.sizeLine_eq
def Hi:=@PyProof.Rows.subscriptTail_builtinR
def pC:=@PySem.typeIs_int
def lN:=@PySem.typeIs_str
def mq:=@PySem.wpAny_Call_Name_kw
def Hh:=@PySem.wpAny_Call_method_late
def ie:=@PySem.wpAny_attempt
def u5:=@PySem.wpAny_bind
def gR:=@PySem.wpAny_call
def p5:=@PySem.wpAny_callSpecial?_slot
def l9:=@PySem.wpAny_call_entry
def GC:=@PySem.wpAny_dictEntries
def Af:=@PySem.wpAny_execs_nil
def cW:=@PySem.wpAny_field
def o9:=@PySem.wpAny_holding
def mz:=@PySem.wpAny_loadPart'
def pM:=@PySem.wpAny_loadPart_at
def p0:=@PySem.wpAny_mono
def i6:=@PySem.wpAny_newObj_type
def pQ:=@PySem.wpAny_passesOwn
def t5:=@PySem.wpAny_pure
def Ay:=@PySem.wpAny_pyIter_enum
def jL:=@PySem.wpAny_pyIter_list
def gY:=@PySem.wpAny_pyIter_tuple
def iH:=@PySem.wpAny_rule
def jN:=@PySem.wpAny_seqItems
def An:=@PySem.wpAny_setField
def qd:=@PySem.wpAny_setField_rec
def jC:=@PySem.wpAny_standAt
def fV:=@PySem.wpAny_truthy_bool
def Bq:=@PySem.wpAny_typeNameOfWhole_keyiter
def Bm:=@PySem.wpAny_typeNameOf_keyiter
def lR:=@PySem.wpAny_typeOf
def l7:=@PyProof.Rows.wpS_bind
def lV:=@PyProof.Rows.wpS_forRange
def bR:=@PyProof.Rows.wpS_pure
noncomputable section
abbrev yI:=PySem.Value->PySem.Shared->Prop
abbrev xv:=List (PySem.Addr × PySem.Obj)
abbrev wm:=PySem.Str->Option PySem.Value
abbrev Vh:=List (PySem.Str × PySem.Addr)
abbrev Z2:=List (List Int)
abbrev wb:=Array PySem.Value
abbrev zB:=List Int
abbrev zz:=List PySem.Value
abbrev zG:=List PySem.Str
abbrev Zx:=List Nat
abbrev yO:=List PySem.Expr
abbrev vu:=List PySem.Stmt
abbrev xW:=List PySem.Addr
abbrev yN:=Option PySem.Addr
abbrev yG:=Option Int
abbrev zx:=PySem.W.Frag
abbrev wL:=PySem.FuncData
abbrev zM:=PySem.Program
abbrev zn:=PySem.Shared
abbrev zN:=PySem.Around
namespace L2
open PySem PySem.Spec PyProof.Rows
abbrev aD:=Sum Int Str
def lC:aD->Value->Bool
 |.inl k,v=>Value.isInt k v
 |.inr x,v=>Value.isStrOf x v
def Ig (w:World):aD->Int
 |.inl k=>hashInt k
 |.inr x=>hashStr w x
def yQ:∀ {k:aD} {v:Value},lC k v=true->(∃ i t,k=Sum.inl i/\v=Value.int i t)\/(∃ x t,k=Sum.inr x/\v=Value.str x t)
 |.inl i,v,h=>by
  obtain⟨t,e⟩:=Value.isInt_shape (k:=i) (v:=v) h
  exact .inl ⟨i,t,rfl,e⟩
 |.inr x,v,h=>by
  obtain⟨t,e⟩:=Value.isStrOf_shape (x:=x) (v:=v) h
  exact .inr ⟨x,t,rfl,e⟩
def zhG (i:Int)(t:Tok):lC (.inl i) (.int i t)=true:=by simp[lC,Value.isInt]
def zhd (x:Str)(t:Tok):lC (.inr x) (.str x t)=true:=by simp[lC,Value.isStrOf]
def Uu (a b:Int):decide ((Sum.inl a:aD)=Sum.inl b)=(a == b):=by
 by_cases e:a=b
 .subst e;simp
 .have h:¬ (Sum.inl a:aD)=Sum.inl b:=λq=>e (Sum.inl.inj q)
  rw[t6 h]
  exact(g8.mpr e).symm
def zoK (a b:Str):decide ((Sum.inr a:aD)=Sum.inr b)=decide (a=b):=by
 by_cases e:a=b
 .subst e;simp
 .have h:¬ (Sum.inr a:aD)=Sum.inr b:=λq=>e (Sum.inr.inj q)
  rw[t6 h,t6 e]
def Ux (a:Int)(b:Str):decide ((Sum.inl a:aD)=Sum.inr b)=false:=t6 (λq=>nomatch q)
def zo4 (a:Str)(b:Int):decide ((Sum.inr a:aD)=Sum.inl b)=false:=t6 (λq=>nomatch q)
def wt (prog:zM)(w:World):PySem.KeyKind prog w aD where
 is:=lC
 hash:=Ig w
 inj:=λv a b ha hb=>by
  rcases yQ ha with ⟨i,t,rfl,rfl⟩|⟨x,t,rfl,rfl⟩
  .rcases yQ hb with ⟨j,u,rfl,e⟩|⟨y,u,rfl,e⟩
   .injection e with e1 _;rw[e1]
   .exact nomatch e
  .rcases yQ hb with ⟨j,u,rfl,e⟩|⟨y,u,rfl,e⟩
   .exact nomatch e
   .injection e with e1 _;rw[e1]
 byValue:=λk v h=>by
  rcases yQ h with ⟨i,t,rfl,rfl⟩|⟨x,t,rfl,rfl⟩ <;> rfl
 pyHash:=λhv h=>by
  rcases yQ hv with ⟨i,t,rfl,rfl⟩|⟨x,t,rfl,rfl⟩
  .exact wpAny_pyHash_int h
  .exact wpAny_pyHash_str h
 eqBool:=λhu hv h=>by
  rcases yQ hu with ⟨i,t,rfl,rfl⟩|⟨x,t,rfl,rfl⟩
  .rcases yQ hv with ⟨j,u,rfl,rfl⟩|⟨y,u,rfl,rfl⟩
   .rw[Uu]at h;exact wpAny_eqBool_int h
   .rw[Ux]at h;exact SeqAt.EqAt.int_str i t y u _ _ _ _ h
  .rcases yQ hv with ⟨j,u,rfl,rfl⟩|⟨y,u,rfl,rfl⟩
   .rw[zo4]at h;exact SeqAt.EqAt.str_int x t j u _ _ _ _ h
   .rw[zoK]at h;exact wpAny_eqBool_str h
 «strs»:=λk x t v h=>by
  rcases yQ h with ⟨i,u,rfl,e⟩|⟨y,u,rfl,e⟩
  .exact nomatch e
  .injection e with e1 _
   subst e1
   cases v <;> rfl
def zc8 (a:zM)(w:World)(i:Int)(t:Tok):(wt a w).is (.inl i) (.int i t)=true:=zhG i t
def zdJ (a:zM)(w:World)(x:Str)(t:Tok):(wt a w).is (.inr x) (.str x t)=true:=zhd x t
inductive V where
 |non|bl (b:Bool)|int (i:Int)|str (x:Str)|byt (b:Array UInt8)|flt (b:UInt64)|ref (a:Addr)|ty (n:String)
 deriving DecidableEq
abbrev gO:=List (List aD × V)
abbrev zy:=List V
def y0:V->Value->Prop
 |.non,u=>u=Value.none
 |.bl b,u=>u=Value.bool b
 |.int i,u=>∃ t,u=Value.int i t
 |.str x,u=>∃ t,u=Value.str x t
 |.byt b,u=>∃ t,u=Value.bytes b t
 |.flt b,u=>∃ t,u=Value.float b t
 |.ref a,u=>u=Value.ref a
 |.ty n,u=>u=Value.type n
abbrev ym:zy->zz->Prop:=Paired y0
def ym.length {b:zy}{a:zz}(r:ym b a):b.length=a.length:=Al r
def ym.get:∀ {a:zy} {b:zz} {i:Nat} {x:V},ym a b->a[i]?≈x->∃ u,b[i]?≈u/\y0 x u
 |_,_,_,_,.nil,e=>by simp at e
 |_,_,0,_,.cons r _,e=>by simp at e;subst e;exact⟨_,rfl,r⟩
 |_,_,i+1,x,.cons _ t,e=>by
  obtain⟨u,d,c⟩:=ym.get (i:=i) (x:=x) t (by simpa using e)
  exact⟨u,by simpa using d,c⟩
def ym.set (r:y0 x u):∀ {b:zy} {a:zz} (i:Nat),ym b a->ym (b.set i x) (a.set i u)
 |_,_,_,.nil=>.nil
 |_,_,0,.cons _ t=>.cons r t
 |_,_,i+1,.cons q t=>.cons q (ym.set r i t)
def ym.append:∀ {a c:zy} {b d:zz},ym a b->ym c d->ym (a++c) (b++d):=by
 intro a c b d h s
 induction h with
 |nil=>exact s
 |cons r t e=>exact .cons r e
def ym.take:∀ {b:zy} {a:zz} (n:Nat),ym b a->ym (b.take n) (a.take n)
 |_,_,0,_=>.nil
 |_,_,_+1,.nil=>.nil
 |_,_,n+1,.cons r t=>.cons r (ym.take n t)
def ym.drop:∀ {b:zy} {a:zz} (n:Nat),ym b a->ym (b.drop n) (a.drop n)
 |_,_,0,r=>r
 |_,_,_+1,.nil=>.nil
 |_,_,n+1,.cons _ t=>ym.drop n t
def cV:Option V->Option Value->Prop
 |some v,some u=>y0 v u
 |none,none=>True
 |_,_=>False
def KV {a:Type}:List (a × V)->List (a × Value)->Prop:=Paired λ(p:a × V) (q:a × Value)=>p.1=q.1/\y0 p.2 q.2
def kV:aD->V
 |.inl i=>.int i
 |.inr x=>.str x
inductive HO where
 |lst (xs:zy)
 |tup (xs:zy)
 |dK (kvs:List (aD × V))|dT (kvs:gO)
 |set (S:Int->Bool) (n:Nat)
 |ins (C dx:Addr) (fs:List (Str × V))
 |own (x:Addr)
 |xd (fs:List (Str × V))
 |met (f x:Addr)
 |rng (lo hi:Int)
 |frz (o:Obj) (u:HO)
 |tbl (ps:wb)
 |ext (φ:Heap->Prop)
abbrev Hp:=Addr->Option HO
def aA (H:Hp)(a:Addr)(o:HO):Hp:=λb=>if b=a then some o else H b
def zl:aA H a o a≈o:=by unfold aA;rw[q4 rfl]
def zj {H:Hp}(h:b≠a):aA H a o b=H b:=by unfold aA;rw[j4 h]
def Mx:aA (aA H a o) a u=aA H a u:=by
 funext b;unfold aA;split <;> rfl
def sU {H:Hp}(h:H a≈o)(c:H b≈u)(d:o≠u):a≠b:=by
 intro e;subst e;rw[h]at c;exact d (g0 c)
def zf {H:Hp}(h:H a≈o)(c:H b=none):a≠b:=by
 intro e;subst e;rw[h]at c;cases c
section
variable (P:zM)(w:World)
def yM (H:Hp)(h:Heap)(a:Addr):HO->Prop
 | .lst d=>d.length<=sizeLine/\∃ (c:zz) (n:Nat),ym d c/\h.get? a≈{ cls:=.type "list",data:=.seq c.toArray n }
 |.tup d=>d.length<=sizeLine/\∃ c:zz,ym d c/\IsTup h a c.toArray
 |.dK b=>b.length<=sizeLine/\(a == sysModules)=false/\∃ k,KV b k/\h.DictOf (wt P w) a k
 |.dT b=>b.length<=sizeLine/\(a == sysModules)=false/\∃ d:List (List aD × Addr × Value),
  Paired (λ(p:List aD × V) (q:List aD × Addr × Value)=>p.1=q.1/\H q.2.1≈(.tup (p.1.map kV))/\y0 p.2 q.2.2) b d /\
  ∃ o m z,h.get? a≈o/\o.ExactDict/\o.data=.dict m z/\m.toList=d.map (entryOfKey (tupleKind (wt P w)))/\(d.map (·.1)).Nodup
 |.set S n=>h.SetOf (intKind P w) a S n
 |.ins C i g=>H i≈(.own a)/\g.length<=1000/\i≠a/\h.get? a≈(W.instObj C i) /\
  ∃ e,h.Ns1 i e/\(∀ f,cV (g.lookup f) (e f))/\PySem.Within e (g.map (·.1))
 |.own _=>∃ o,h.get? a≈o
 |.xd g=>∃ e,h.Ns1 a e/\∀ f,cV (g.lookup f) (e f)
 | .rng s y=>∃ t u v,h.get? a≈{ cls:=.type "range",data:=.fields #[.int s t,.int y u,.int 1 v] }
 |.frz o u=>h.get? a≈o/\yM H h a u
 |.tbl A=>h.get? a≈{ cls:=.none,data:=.fields A }
 |.met f x=>h.get? a≈(W.methodObj (.ref f) (.ref x))
 |.ext j=>j h/\(∃ o,h.get? a≈o)/\∀ r l:Heap,j r->(∀ o,r.get? a≈o->l.get? a≈o)->j l
def bj (H:Hp)(h:Heap):Prop:=∀ a o,H a≈o->yM P w H h a o
end
section
variable {P:zM}{w:World}{H H':Hp}{h h':Heap}{a:Addr}{o:HO}
def yM.lt (x:yM P w H h a o):a<h.objs.size:=by
 cases o with
 |lst d=>obtain⟨_,_,_,_,e⟩:=x;exact q7 e
 |tup d=>obtain⟨_,_,_,p⟩:=x;exact p.lt
 |dK b=>obtain⟨_,_,_,_,o,_,_,e,_⟩:=x;exact q7 e
 |dT b=>obtain⟨_,_,_,_,o,_,_,e,_⟩:=x;exact q7 e
 |set S n=>obtain⟨o,_,_,_,e,_⟩:=x;exact q7 e
 |ins C k c=>obtain⟨_,_,_,e,_⟩:=x;exact q7 e
 |own y=>obtain⟨_,e⟩:=x;exact q7 e
 |xd c=>obtain⟨_,⟨_,_,_,e,_⟩,_⟩:=x;exact q7 e
 |rng g m=>obtain⟨_,_,_,e⟩:=x;exact q7 e
 |frz j u=>obtain⟨e,_⟩:=x;exact q7 e
 |tbl i=>exact q7 (show h.get? a≈_ from x)
 |met f y=>exact q7 (show h.get? a≈_ from x)
 |ext l=>obtain⟨_,⟨_,e⟩,_⟩:=x;exact q7 e
def Paired.mapP {e g:Type}{F G:e->g->Prop}:∀ {d:List e} {c:List g},Paired F d c->(∀ a b,F a b->G a b)->Paired G d c:=by
 intro k j h f
 induction h with
 |nil=>exact .nil
 |cons r t i=>exact .cons (f _ _ r) i
def yM.stay (x:yM P w H h a o)(k:∀ b u,(b=a\/H b≈(.own a))->h.get? b≈u->h'.get? b≈u)
 (I:∀ b,H b≈(.own a)->H' b≈(.own a)) (L:∀ b m,H b≈(.tup m)->H' b≈(.tup m)):yM P w H' h' a o:=by
 induction o with
 |lst m=>obtain⟨z,l,n,r,e⟩:=x;exact⟨z,l,n,r,k _ _ (.inl rfl) e⟩
 |tup m=>obtain⟨z,l,r,g,e,c⟩:=x;exact⟨z,l,r,g,k _ _ (.inl rfl) e,c⟩
 |dK s=>obtain⟨z,y,J,r,g,i,j,e,c⟩:=x;exact⟨z,y,J,r,g,i,j,k _ _ (.inl rfl) e,c⟩
 |dT s =>
  obtain⟨z,y,m,r,g,i,j,e,c⟩:=x
  exact⟨z,y,m,Paired.mapP r λp q z=>⟨z.1,L _ _ z.2.1,z.2.2⟩,g,i,j,k _ _ (.inl rfl) e,c⟩
 |set S n=>obtain⟨g,i,j,t,e,c⟩:=x;exact⟨g,i,j,t,k _ _ (.inl rfl) e,c⟩
 |ins C O F =>
  obtain⟨d,z,G,e,A,⟨B,i,j,K,c⟩,r⟩:=x
  exact⟨I _ d,z,G,k _ _ (.inl rfl) e,A,⟨B,i,j,k _ _ (.inr d) K,c⟩,r⟩
 |own y=>obtain⟨g,e⟩:=x;exact⟨g,k _ _ (.inl rfl) e⟩
 |xd F=>obtain⟨A,⟨B,i,j,e,c⟩,r⟩:=x;exact⟨A,⟨B,i,j,k _ _ (.inl rfl) e,c⟩,r⟩
 |rng N Q=>obtain⟨t,u,v,e⟩:=x;exact⟨t,u,v,k _ _ (.inl rfl) e⟩
 |frz g u M=>obtain⟨e,q⟩:=x;exact⟨k _ _ (.inl rfl) e,M q⟩
 |tbl E =>
  have e:h.get? a≈{ cls:=.none,data:=.fields E }:=x
  show h'.get? a≈{ cls:=.none,data:=.fields E }
  exact k a _ (.inl rfl) e
 |met f y =>
  have e:h.get? a≈(W.methodObj (.ref f) (.ref y)):=x
  show h'.get? a≈(W.methodObj (.ref f) (.ref y))
  exact k a _ (.inl rfl) e
 |ext R=>obtain⟨p,⟨o,e⟩,D⟩:=x;exact⟨D _ _ p λo q=>k _ _ (.inl rfl) q,⟨o,k _ _ (.inl rfl) e⟩,D⟩
def bj.lt (x:bj P w H h)(e:H a≈o):a<h.objs.size:=(x a o e).lt
def bj.fresh (x:bj P w H h)(e:h.objs.size<=a):H a=none:=by
 cases q:H a with
 |none=>rfl
 |some u=>exact absurd (j0 (x.lt q) e) (dY _)
def bj.kept (x:bj P w H h)(k:∀ b u,h.get? b≈u->h'.get? b≈u):bj P w H h':=λa o e =>
 (x a o e).stay (λb u _ q=>k b u q) (λ_ q=>q) λ_ _ q=>q
def bj.laid (x:bj P w H h)(k:∀ b u,h.get? b≈u->h'.get? b≈u)(i:h.objs.size<=a)(d:yM P w (aA H a o) h' a o):bj P w (aA H a o) h':=λb u e=>by
 have f:=x.fresh i
 by_cases g:b=a
 .subst g;rw[zl]at e;cases e;exact d
 .rw[zj g]at e
  exact(x b u e).stay (λc v _ q=>k c v q) (λc q=>by rw[zj (zf q f)];exact q) λc j q=>by rw[zj (zf q f)];exact q
end
def Rd (H:Hp)(a:Addr)(u:HO):Prop:=H a≈u\/∃ o,H a≈(.frz o u)
def Rd.ok {w:World}(r:Rd H a u)(x:bj P w H h):yM P w H h a u:=by
 rcases r with r|⟨o,r⟩
 .exact x a u r
 .obtain⟨_,q⟩:=x a _ r
  exact q
def mO:Option HO->Prop
 |some (.lst _)=>True
 |some (.dK _)=>True
 |some (.dT _)=>True
 |some (.set _ _)=>True
 |some (.ins _ _ _)=>True
 |some (.ext _)=>True
 |_=>False
section
variable {P:zM}{w:World}{H:Hp}{h h':Heap}{x e:Addr}{o':HO}
def bj.write (ok:bj P w H h)(l:mO (H x))(p:e=x\/H e≈(.own x))(k:∀ b u,b≠e->h.get? b≈u->h'.get? b≈u)(n:∃ u,h'.get? e≈u)
 (m:yM P w (aA H x o') h' x o'):bj P w (aA H x o') h':=λb u q=>by
 have d:∀ c y,H c≈(.own y)->c≠x:=λc y r z=>by subst z;rw[r]at l;exact l
 have f:∀ c g,H c≈(.tup g)->c≠x:=λc g r z=>by subst z;rw[r]at l;exact l
 by_cases j:b=x
 .subst j;rw[zl]at q;cases q;exact m
 .rw[zj j]at q
  by_cases a:b=e
  .have o:H b≈(.own x):=by
    rcases p with z|z
    .exact absurd (a.trans z) j
    .rw[a];exact z
   rw[q]at o;cases o
   obtain⟨v,s⟩:=n
   exact⟨v,by rw[a];exact s⟩
  .refine(ok b u q).stay (λc v i r=>k c v ?_ r) (λc r=>by rw[zj (d c b r)];exact r) λc g r=>by rw[zj (f c g r)];exact r
   rcases i with rfl|i
   .exact a
   .rintro rfl
    rcases p with z|z
    .exact d c b i z
    .rw[i]at z;cases z;exact j rfl
end
structure Un (fs ex:xW) (H H':Hp) (h h':Heap):Prop where
 keep:∀ b o,h.get? b≈o->H b=none->b∉fs->b∉ex->h'.get? b≈o
 slot:∀ b o,h.get? b≈o->H b=none->b∈fs->b∉ex->∃ sl,h'.get? b≈{ o with slots:=sl }
 free:∀ b o,h.get? b≈o->H b=none->b∉ex->H' b=none
 there:∀ b o,h.get? b≈o->b∉ex->∃ o',h'.get? b≈o'
 tups:∀ b xs,H b≈(.tup xs)->H' b≈(.tup xs)
 frzs:∀ b o u,H b≈(.frz o u)->H' b≈(.frz o u)
 tbls:∀ b ps,H b≈(.tbl ps)->∃ more,H' b≈(.tbl (ps++more))
section
variable {fs fs' ex ex':xW}{H H1 H2:Hp}{h h1 h2 h':Heap}{a x e:Addr}{o:HO}
def Un.any (u:Un fs ex H H1 h h1){a:Obj}(q:h.get? b≈a)(n:H b=none)(c:b∉ex):∃ e,h1.get? b≈{ a with slots:=e }:=by
 by_cases d:b∈fs
 .exact u.slot b a q n d c
 .exact⟨a.slots,u.keep b a q n d c⟩
def Un.kept (k:∀ b u,h.get? b≈u->h'.get? b≈u):Un fs ex H H h h' :=
 ⟨λb a q _ _ _=>k b a q,λb a q _ _ _=>⟨a.slots,k b a q⟩,λ_ _ _ n _=>n,λb a q _=>⟨a,k b a q⟩,λ_ _ q=>q,λ_ _ _ q=>q,λ_ c q=>⟨#[],by rw[q];simp⟩⟩
def Un.refl:Un fs ex H H h h:=Un.kept λ_ _ q=>q
def Un.laid (k:∀ b u,h.get? b≈u->h'.get? b≈u)(hp:h.objs.size<=a)(hn:H a=none):Un fs ex H (aA H a o) h h' where
 keep:=λb u q _ _ _=>k b u q
 slot:=λb u q _ _ _=>⟨u.slots,k b u q⟩
 free:=λb u q n _=>by rw[zj (j9 (j0 (q7 q) hp))];exact n
 there:=λb u q _=>⟨u,k b u q⟩
 tups:=λb xs q=>by rw[zj (zf q hn)];exact q
 frzs:=λb u xs q=>by rw[zj (zf q hn)];exact q
 tbls:=λb ps q=>⟨#[],by rw[zj (zf q hn),q];simp⟩
def Un.write (c:mO (H x))(m:e=x\/H e≈(.own x))(k:∀ b u,b≠e->h.get? b≈u->h'.get? b≈u)(f:∃ u,h'.get? e≈u):Un fs ex H (aA H x o) h h':=by
 have g:∀ b,H b=none->b≠x:=λb n z=>by subst z;rw[n]at c;exact c
 have i:∀ b,H b=none->b≠e:=λb n z=>by
  subst z
  rcases m with r|r
  .exact g b n r
  .rw[n]at r;cases r
 have d:∀ b u,H b≈u->¬ mO (some u)->b≠x:=λb u q j z=>by subst z;rw[q]at c;exact j c
 refine⟨λb u q n _ _=>k b u (i b n) q,λb u q n _ _=>⟨u.slots,k b u (i b n) q⟩,λb u q n _=>by rw[zj (g b n)];exact n,λb u q _=>?_,
  λb l q=>by rw[zj (d b _ q λz=>z)];exact q,λb u l q=>by rw[zj (d b _ q λz=>z)];exact q,λb p q=>⟨#[],by rw[zj (d b _ q λz=>z),q];simp⟩⟩
 by_cases a:b=e
 .subst a;exact f
 .exact⟨u,k b u a q⟩
end
def Bw (h:Heap)(H:Hp):xW:=(List.range h.objs.size).filter λa=>(H a).isSome
def gq (h:Heap)(H:Hp):Heap:=W.hideAll h (Bw h H)
def zha (h:Heap)(H:Hp):(gq h H).objs.size=h.objs.size:=W.hideAll_size _ _
def zk9 {h:Heap}{H:Hp}(e:h.get? b≈o)(n:H b=none):(gq h H).get? b≈o :=
 jF _ e λa=>by
  have q:(H b).isSome=true:=(Gj.mp a).2
  rw[n]at q;simp at q
def zmk {h:Heap}{H:Hp}(e:(gq h H).get? b≈o):h.get? b≈o/\H b=none:=by
 have a:h.get? b≈o:=GR (Bw h H) e
 refine⟨a,?_⟩
 cases q:H b with
 |none=>rfl
 |some x =>
  have c:b∈Bw h H:=Gj.mpr ⟨iQ.mpr (q7 a),by simp[q]⟩
  have z:(gq h H).get? b=none:=Ho (Bw h H) c
  rw[z]at e;cases e
def zm9 (g h:Heap)(L:Addr):xv:=(List.range h.objs.size).filterMap λa=>if a=L\/(g.get? a).isSome then none else (h.get? a).map λo=>(a,o)
def rest (g h:Heap)(L d:Addr):xv:=(zm9 g h L).filter λp=>decide (p.1≠d)
structure Mod (K:zx) (mg:wm) (base:Heap):Prop where
 kin:K.In base
 glob:base.Ns mainGlobals mg
 blt:∃ mb,base.Ns builtinsNs mb/\∀ x:Str,x≠"__name__"->mb x=bootBuiltins x
 nolimit:base.NoLimit
structure Cx where
 prog:Program
 w:World
 K:W.Frag
 mg:wm
 base:Heap
 A:Around
 N:zG
 s₀:Shared
 H₀:Hp
 env:Env
 outer:List Env
 stack:List Env
 ex:xW
 fn:Str->Bool
 calm:Bool
 pn:xv
 xe:yI
def bH (l:List Env):xW:=l.filterMap (·.frame)
abbrev Cx.fs (X:Cx):xW:=bH X.outer
def eY (sc:Scope)(x:Str):Prop:=sc.names.lookup x≈.local\/sc.names.lookup x≈.cell\/sc.names.lookup x≈.free
def bY (sc:Scope)(x:Str):Prop:=sc.names.lookup x≈.local\/sc.names.lookup x≈.cell
def IV (env:Env)(h:Heap)(m:wm)(x:Str)(u:Value):Prop :=
 (env.kindOf x≈.local/\m x≈u)\/((env.kindOf x≈.cell\/env.kindOf x≈.free)/\∃ c,env.cells.lookup x≈c/\h.IsCell c (some u))
structure Cx.Ok (X:Cx):Prop where
 mod:Mod X.K X.mg X.base
 kind:X.env.scope.kind=.function
 glob:X.env.globals=mainGlobals
 blt:X.env.builtins=builtinsNs
 above:X.s₀.heap.objs.size<=X.env.locals
 inj:∀ x y c,X.env.cells.lookup x≈c->X.env.cells.lookup y≈c->x=y
 has:∀ x,(X.env.kindOf x≈.cell\/X.env.kindOf x≈.free)->∃ c,X.env.cells.lookup x≈c
 cab:∀ x c,X.fn x=true->X.env.cells.lookup x≈c->X.s₀.heap.objs.size<=c
 hd:X.calm=true->X.A.handled=none
 frames:X.A.frames≈X.stack
 stk:X.stack=X.outer\/(X.stack=X.env::X.outer/\X.env.frame≈X.env.locals)
 exf:∀ b∈X.ex,b≠X.env.locals/\∀ x c,X.env.cells.lookup x≈c->c≠b
 bs:∀ b o,X.base.get? b≈o->X.s₀.heap.get? b≈o/\X.H₀ b=none
 bsz:X.base.objs.size<=X.s₀.heap.objs.size
 noex:∀ b o,X.base.get? b≈o->b∉X.ex
 exfs:∀ b∈X.ex,b∉X.fs
 funs:X.s₀.heap.FunFrames X.base X.outer
 frf:∀ b∈X.fs,X.H₀ b=none
structure aa (X:Cx) (pins:xv) (σ:List (Option V)) (H:Hp) (s:zn):Prop where
 ok:X.Ok
 os:s.os=X.s₀.os
 bare:AllBare s.gens
 base:Un X.fs X.ex X.H₀ H X.s₀.heap s.heap
 loc:∃ m,s.heap.Ns X.env.locals m/\∀ (i:Nat) (x:Str) (v:V),X.N[i]?≈x->σ[i]?≈(some v)->eY X.env.scope x->∃ u,y0 v u/\IV X.env s.heap m x u
 cell:∀ x c,X.env.cells.lookup x≈c->∃ v,s.heap.IsCell c v
 free:H X.env.locals=none
 freeC:∀ x c,X.env.cells.lookup x≈c->H c=none
 pin:∀ p∈X.pn++pins,s.heap.get? p.1≈p.2/\H p.1=none/\p.1≠X.env.locals/\p.1∉X.fs/\∀ v,p.2.data≠.cell v
 hok:bj X.prog X.w H s.heap
 len:σ.length=X.N.length
section
variable {X:Cx}{pins:xv}{σ:List (Option V)}{H H':Hp}{s:zn}{h':Heap}
def Cx.Ok.nofr (ok:X.Ok)(e:X.base.get? b≈o):b∉X.fs:=λa=>by
 have:=(ok.funs.mem a).1
 rw[e]at this;cases this
def aa.bs (I:aa X pins σ H s):∀ b o,X.base.get? b≈o->s.heap.get? b≈o/\H b=none:=λb o e =>
 ⟨I.base.keep b o (I.ok.bs b o e).1 (I.ok.bs b o e).2 (I.ok.nofr e) (I.ok.noex b o e),I.base.free b o (I.ok.bs b o e).1 (I.ok.bs b o e).2 (I.ok.noex b o e)⟩
def aa.bk (I:aa X pins σ H s):∀ b o,X.base.get? b≈o->s.heap.get? b≈o:=λb o e=>(I.bs b o e).1
def aa.mod (I:aa X pins σ H s):Mod X.K X.mg X.base:=I.ok.mod
def aa.kIn (I:aa X pins σ H s):X.K.In s.heap:=I.ok.mod.kin.keeps I.bk
def aa.lt (I:aa X pins σ H s):X.env.locals<s.heap.objs.size:=let ⟨_,hn,_⟩:=I.loc;hn.lt
def aa.sz (I:aa X pins σ H s):X.s₀.heap.objs.size<=s.heap.objs.size:=r6 I.ok.above (p6 I.lt)
def aa.nofs (I:aa X pins σ H s)(h:s.heap.objs.size<=a):a∉X.fs:=λb=>by
 obtain⟨_,o,c,_⟩:=I.ok.funs.mem b
 exact absurd (j0 (q7 c) (r6 I.sz h)) (dY _)
def aa.cne (I:aa X pins σ H s):∀ x c,X.env.cells.lookup x≈c->c≠X.env.locals:=λx c e z=>by
 obtain⟨v,o,f,d⟩:=I.cell x c e
 obtain⟨m,⟨i,g,h,a,b,_⟩,_⟩:=I.loc
 rw[z,a]at f;cases f;rw[b]at d;cases d
def aa.funs (I:aa X pins σ H s):s.heap.FunFrames X.base X.outer:=by
 have c:∀ (l:List Env),(∀ b∈bH l,b∈X.fs)->X.s₀.heap.FunFrames X.base l->s.heap.FunFrames X.base l:=by
  intro l
  induction l with
  |nil=>intro _ _;trivial
  |cons env r p =>
   intro g j
   obtain⟨m,⟨L,o,a,k,i,h⟩,n⟩:=j
   have f:L∈X.fs:=g L (by unfold bH;rw[Gz,a];exact o7)
   obtain⟨q,e⟩:=I.base.slot L o i (I.ok.frf L f) f λz=>I.ok.exfs L z f
   exact⟨m,⟨L,_,a,k,e,h⟩,p (λb d=>g b (by unfold bH;rw[Gz,a];exact r0 _ d)) n⟩
 exact c X.outer (λ_ d=>d) I.ok.funs
def aa.stack (I:aa X pins σ H s):s.heap.FunFrames X.base X.stack:=by
 rcases I.ok.stk with e|⟨e,b⟩
 .rw[e];exact I.funs
 .rw[e]
  obtain⟨m,a,_⟩:=I.loc
  refine .cons (by rw[I.ok.kind];decide) b a ?_ I.funs
  exact Heap.get?_none_of_le (r6 I.ok.bsz I.ok.above)
def aa.stkSub (I:aa X pins σ H s):∀ b∈bH X.stack,b∈X.env.locals::X.fs:=λb a=>by
 rcases I.ok.stk with e|⟨e,c⟩
 .rw[e]at a;exact r0 _ a
 .rw[e]at a
  unfold bH at a
  rw[Gz,c]at a
  exact a
def aa.stkFree (I:aa X pins σ H s):∀ b∈bH X.stack,H b=none:=λb a=>by
 rcases q5.mp (I.stkSub b a)with e|a
 .rw[e];exact I.free
 .obtain⟨_,o,c,_⟩:=I.ok.funs.mem a
  exact I.base.free b o c (I.ok.frf b a) λz=>I.ok.exfs b z a
def aa.step {g':Array GenState}{t':Nat}{d':Drawn}{ch:xW}(I:aa X pins σ H s)
 (g:∀ b∈ch,(b∈X.ex\/X.s₀.heap.objs.size<=b)/\b≠X.env.locals/\(∀ x c,X.env.cells.lookup x≈c->c≠b)/\∀ p∈X.pn++pins,p.1≠b)
 (keep:∀ b o,b≠X.env.locals->b∉X.fs->b∉ch->s.heap.get? b≈o->H b=none->h'.get? b≈o)
 (A:∀ b o,b≠X.env.locals->b∈X.fs->b∉ch->s.heap.get? b≈o->H b=none->∃ Q,h'.get? b≈{ o with slots:=Q }) (f:∀ b o,b∉ch->s.heap.get? b≈o->H b=none->H' b=none)
 (B:∀ b o,b∉ch->s.heap.get? b≈o->∃ J,h'.get? b≈J)
 (F:∀ b y,H b≈(.tup y)->H' b≈(.tup y)) (K:∀ b o u,H b≈(.frz o u)->H' b≈(.frz o u)) (G:∀ b N,H b≈(.tbl N)->∃ E,H' b≈(.tbl (N++E)))
 (ns:∀ m,s.heap.Ns X.env.locals m->h'.Ns X.env.locals m) (O:bj X.prog X.w H' h') (Y:AllBare g') :
 aa X pins σ H' { s with heap:=h',gens:=g',drawn:=d',toks:=t' }:=by
 have L:∀ b o,X.s₀.heap.get? b≈o->b≠X.env.locals:=λb o e=>j9 (j0 (q7 e) I.ok.above)
 have w:∀ b o,X.s₀.heap.get? b≈o->b∉X.ex->b∉ch:=λb o e a C=>by
  rcases(g b C).1 with z|z
  .exact a z
  .exact absurd (j0 (q7 e) z) (dY _)
 have h:∀ x c,X.env.cells.lookup x≈c->∀ v,s.heap.IsCell c v->h'.IsCell c v:=λx c e v ⟨o,D,P⟩=>by
  have j:c∉ch:=λz=>(g c z).2.2.1 x c e rfl
  by_cases U:c∈X.fs
  .obtain⟨Q,q⟩:=A c o (I.cne x c e) U j D (I.freeC x c e)
   exact⟨_,q,P⟩
  .exact⟨o,keep c o (I.cne x c e) U j D (I.freeC x c e),P⟩
 refine⟨I.ok,I.os,Y,⟨λb o e n C a=>?_,λb o e n C a=>?_,λb o e n a=>?_,λb o e a=>?_,λb y e=>F b y (I.base.tups b y e),λb o y e=>K b o y (I.base.frzs b o y e),λb N e=>?_⟩,?_,λx c e=>?_,?_,λx c e=>?_,λp T=>?_,O,I.len⟩
 .exact keep b o (L b o e) C (w b o e a) (I.base.keep b o e n C a) (I.base.free b o e n a)
 .obtain⟨Q,t⟩:=I.base.slot b o e n C a
  obtain⟨R,M⟩:=A b _ (L b o e) C (w b o e a) t (I.base.free b o e n a)
  exact⟨R,M⟩
 .obtain⟨J,t⟩:=I.base.there b o e a
  exact f b J (w b o e a) t (I.base.free b o e n a)
 .obtain⟨J,t⟩:=I.base.there b o e a
  exact B b J (w b o e a) t
 .obtain⟨m1,t⟩:=I.base.tbls b N e
  obtain⟨W,M⟩:=G b _ t
  exact⟨m1++W,by rw[M,Array.append_assoc]⟩
 .obtain⟨m,hn,hl⟩:=I.loc
  refine⟨m,ns m hn,λi x v t M Z=>?_⟩
  obtain⟨u,r,l⟩:=hl i x v t M Z
  refine⟨u,r,?_⟩
  rcases l with l|⟨k,c,e,z⟩
  .exact .inl l
  .exact .inr ⟨k,c,e,h x c e _ z⟩
 .obtain⟨v,z⟩:=I.cell x c e
  exact⟨v,h x c e v z⟩
 .obtain⟨m,⟨o,_,_,D,_⟩,_⟩:=I.loc
  exact f _ o (λz=>(g _ z).2.1 rfl) D I.free
 .obtain⟨v,o,D,P⟩:=I.cell x c e
  exact f c o (λz=>(g c z).2.2.1 x c e rfl) D (I.freeC x c e)
 .obtain⟨e,n,S,V,d⟩:=I.pin p T
  have j:p.1∉ch:=λz=>(g p.1 z).2.2.2 p T rfl
  exact⟨keep p.1 p.2 S V j e n,f p.1 p.2 j e n,S,V,d⟩
def aa.un {t':Nat}(I:aa X pins σ H s)(u:Un X.fs [] H H' s.heap h')(c:bj X.prog X.w H' h'):aa X pins σ H' { s with heap:=h',toks:=t' }:=by
 obtain⟨m,⟨o,p,v,h,r⟩,_⟩:=id I.loc
 obtain⟨q,k⟩:=u.any h I.free (by simp)
 exact I.step (g':=s.gens) (d':=s.drawn) (ch:=[]) (λ_ z=>nomatch z) (λb o _ g _ e n=>u.keep b o e n g (by simp)) (λb o _ g _ e n=>u.slot b o e n g (by simp)) (λb o _ e n=>u.free b o e n (by simp)) (λb o _ e=>u.there b o e (by simp)) u.tups u.frzs u.tbls (λt j=>by
  obtain⟨l,d,f,a,i⟩:=j
  rw[h]at a;cases a
  exact⟨_,d,f,k,i⟩) c I.bare
def aa.call {t':Nat}(I:aa X pins σ H s)(u:Un (bH X.stack) ch H H' s.heap h')(h:bj X.prog X.w H' h')(q:AllBare g')(d:∀ b∈ch,(b∈X.ex\/X.s₀.heap.objs.size<=b)/\b≠X.env.locals/\(∀ x c,X.env.cells.lookup x≈c->c≠b)/\∀ p∈X.pn++pins,p.1≠b) :
 aa X pins σ H' { s with heap:=h',gens:=g',drawn:=d',toks:=t' }:=by
 obtain⟨m,⟨o,w,A,k,r⟩,_⟩:=id I.loc
 obtain⟨C,g⟩:=u.any k I.free λz=>(d _ z).2.1 rfl
 exact I.step (ch:=ch) d (λb o g v a e n=>u.keep b o e n (λz=>(q5.mp (I.stkSub b z)).elim g v) a) (λb o _ _ a e n=>u.any e n a) (λb o a e n=>u.free b o e n a) (λb o a e=>u.there b o e a) u.tups u.frzs u.tbls (λy t=>by
  obtain⟨B,i,j,f,l⟩:=t
  rw[k]at f;cases f
  exact⟨_,i,j,g,l⟩) h q
def aa.turned {t':Nat}(I:aa X pins σ H s)(k:∀ b o,b≠a->s.heap.get? b≈o->h'.get? b≈o)(A:H a=none)(g:a≠X.env.locals)(y:a∈X.ex\/X.s₀.heap.objs.size<=a)(i:∀ x c,X.env.cells.lookup x≈c->c≠a)(w:∀ p∈X.pn++pins,p.1≠a):aa X pins σ H { s with heap:=h',toks:=t' }:=by
 have f:∀ b u,H b≈u->b≠a:=λb u e z=>by rw[z,A]at e;cases e
 refine I.step (g':=s.gens) (d':=s.drawn) (ch:=[a]) (λb B=>?_) (λb o _ _ d e _=>k b o (λz=>d (by simp[z])) e) (λb o _ _ d e _=>⟨o.slots,k b o (λz=>d (by simp[z])) e⟩) (λ_ _ _ _ n=>n)
  (λb o d e=>⟨o,k b o (λz=>d (by simp[z])) e⟩) (λ_ _ e=>e) (λ_ _ _ e=>e) (λb C e=>⟨#[],by rw[e];simp⟩) (λm t=>?_) (λb u e=>?_) I.bare
 .have e:b=a:=by simpa using B
  subst e
  exact⟨y,g,i,w⟩
 .obtain⟨o,j,l,h,r⟩:=t
  exact⟨o,j,l,k _ o (bw g) h,r⟩
 .refine(I.hok b u e).stay (λc v d q=>k c v ?_ q) (λ_ q=>q) λ_ _ q=>q
  rcases d with z|z
  .rw[z];exact f b u e
  .exact f c _ z
def aa.tok (I:aa X pins σ H s)(t:Nat):aa X pins σ H { s with toks:=t }:=I.un (h':=s.heap) (t':=t) Un.refl I.hok
def aa.kept {t':Nat}(I:aa X pins σ H s)(k:∀ b u,s.heap.get? b≈u->h'.get? b≈u):aa X pins σ H { s with heap:=h',toks:=t' }:=I.un (Un.kept k) (I.hok.kept k)
def aa.laid {t':Nat}(I:aa X pins σ H s)(k:∀ b u,s.heap.get? b≈u->h'.get? b≈u)(d:s.heap.objs.size<=a)(c:yM X.prog X.w (aA H a o) h' a o) :
 aa X pins σ (aA H a o) { s with heap:=h',toks:=t' }:=I.un (Un.laid k d (I.hok.fresh d)) (I.hok.laid k d c)
def aa.write {t':Nat}(I:aa X pins σ H s)(f:mO (H x))(d:e=x\/H e≈(.own x))(k:∀ b u,b≠e->s.heap.get? b≈u->h'.get? b≈u)(a:∃ u,h'.get? e≈u)(c:yM X.prog X.w (aA H x o) h' x o):aa X pins σ (aA H x o) { s with heap:=h',toks:=t' }:=I.un (Un.write f d k a) (I.hok.write f d k a c)
def aa.weak {a:List (Option V)}(I:aa X pins σ H s)(c:a.length=σ.length)(w:∀ (i:Nat) v,a[i]?≈(some v)->σ[i]?≈(some v)):aa X pins a H s :=
 ⟨I.ok,I.os,I.bare,I.base,let ⟨m,hn,hl'⟩:=I.loc;⟨m,hn,λi x v d e b=>hl' i x v d (w i v e) b⟩,I.cell,I.free,I.freeC,I.pin,I.hok,c.trans I.len⟩
def aa.pins_of (I:aa X pins σ H s)(h:∀ p∈a,s.heap.get? p.1≈p.2/\H p.1=none/\p.1≠X.env.locals/\p.1∉X.fs/\∀ v,p.2.data≠.cell v):aa X a σ H s :=
 ⟨I.ok,I.os,I.bare,I.base,I.loc,I.cell,I.free,I.freeC,λp b=>(lQ.mp b).elim (λz=>I.pin p (Hr _ z)) (h p),I.hok,I.len⟩
def Ft {N:zG}(e:N.Nodup){i j:Nat}(a:N[i]?≈x)(b:N[j]?≈x):i=j:=by
 obtain⟨g,c⟩:=j3.mp a
 obtain⟨f,d⟩:=j3.mp b
 exact(List.getElem_inj e).mp (c.trans d.symm)
def ziK {i:Nat}{Q:Unit->Shared->Prop}(I:aa X pins σ H s)(hN:X.N.Nodup)(O:X.N[i]?≈x)(w:bY X.env.scope x)(r:y0 v u)(h:∀ s',aa X pins (σ.set i (some v)) H s'->(∃ a,Heap.SameBut a s.heap s'.heap/\(a=X.env.locals\/X.env.cells.lookup x≈a))->Q () s')(hf:X.fn x=true\/X.env.scope.names.lookup x≈.local:=by first|exact .inl rfl|exact .inr rfl|assumption):wpAny M A (storeName X.env x u) Q E s:=by
 obtain⟨m,hn,hl⟩:=id I.loc
 have R:(X.env.scope.kind == .class||(X.env.scope.kind == .module&&X.env.locals != X.env.globals))=false:=by rw[I.ok.kind];rfl
 have D:i<σ.length:=by rw[I.len];exact(j3.mp O).1
 have J:=I.cne
 have g:∀ {a:Addr} {h':Heap},(∃ o,s.heap.get? a≈o/\H a=none)->Heap.SameBut a s.heap h'->bj X.prog X.w H h':=λ{a h'} ha f b ob e=>by
  obtain⟨_,_,B⟩:=ha
  refine(I.hok b ob e).stay (λc Y t q=>(f.2 c ?_).trans q) (λ_ q=>q) λ_ _ q=>q
  rintro rfl
  rcases t with rfl|t
  .rw[B]at e;cases e
  .rw[B]at t;cases t
 rcases w with F|F
 .refine wpAny_storeName_local F hn (λh' a1 f=>?_) R
  obtain⟨oL,_,_,a0,_⟩:=id hn
  refine h _ ⟨I.ok,I.os,I.bare,⟨λb o e n L w=>?_,λb o e n L w=>?_,I.base.free,λb o e w=>?_,I.base.tups,I.base.frzs,I.base.tbls⟩,⟨_,a1,λj y v' l C e3=>?_⟩,λy c e=>?_,I.free,I.freeC,λp hp=>?_,g ⟨oL,a0,I.free⟩ f,by simpa using I.len⟩ ⟨_,f,.inl rfl⟩
  .exact(f.2 b (j9 (j0 (q7 e) I.ok.above))).trans (I.base.keep b o e n L w)
  .obtain⟨sl,l⟩:=I.base.slot b o e n L w
   exact⟨sl,(f.2 b (j9 (j0 (q7 e) I.ok.above))).trans l⟩
  .obtain⟨o',l⟩:=I.base.there b o e w
   exact⟨o',(f.2 b (j9 (j0 (q7 e) I.ok.above))).trans l⟩
  .by_cases K:j=i
   .subst K
    rw[O]at l;cases l
    rw[r8 D]at C
    cases C
    exact⟨u,r,.inl ⟨F,by simp⟩⟩
   .rw[u9 (bw K)]at C
    obtain⟨u',Z,q⟩:=hl j y v' l C e3
    refine⟨u',Z,?_⟩
    rcases q with ⟨k,e⟩|⟨k,c,e,z⟩
    .refine .inl ⟨k,?_⟩
     have:y≠x:=λe=>K (Ft hN l (e ▸ O))
     simp[this,e]
    .exact .inr ⟨k,c,e,z.sameBut f (J y c e)⟩
  .obtain⟨Y,z⟩:=I.cell y c e
   exact⟨Y,z.sameBut f (J y c e)⟩
  .obtain⟨e,n,U,nf,d⟩:=I.pin p hp
   exact⟨(f.2 p.1 U).trans e,n,U,nf,d⟩
 .have G:X.fn x=true:=by
   rcases hf with z|z
   .exact z
   .rw[z]at F;cases F
  obtain⟨c,t⟩:=I.ok.has x (.inl F)
  obtain⟨Y,z⟩:=I.cell x c t
  refine wpAny_storeName_cell I.ok.kind F t z (λh' S f=>?_)
  obtain⟨oc,P,T⟩:=id z
  refine h { s with heap:=h' } ⟨I.ok,I.os,I.bare,⟨λb o e n L w=>?_,λb o e n L w=>?_,I.base.free,λb o e w=>?_,I.base.tups,I.base.frzs,I.base.tbls⟩,⟨m,hn.sameBut f (bw (J x c t)),λj y v' l C e3=>?_⟩,λy W e=>?_,I.free,I.freeC,λp hp=>?_,g ⟨oc,P,I.freeC x c t⟩ f,by simpa using I.len⟩ ⟨c,f,.inr t⟩
  .exact(f.2 b (j9 (j0 (q7 e) (I.ok.cab x c G t)))).trans (I.base.keep b o e n L w)
  .obtain⟨sl,l⟩:=I.base.slot b o e n L w
   exact⟨sl,(f.2 b (j9 (j0 (q7 e) (I.ok.cab x c G t)))).trans l⟩
  .obtain⟨o',l⟩:=I.base.there b o e w
   exact⟨o',(f.2 b (j9 (j0 (q7 e) (I.ok.cab x c G t)))).trans l⟩
  .by_cases K:j=i
   .subst K
    rw[O]at l;cases l
    rw[r8 D]at C
    cases C
    exact⟨u,r,.inr ⟨.inl F,c,t,S⟩⟩
   .rw[u9 (bw K)]at C
    obtain⟨u',Z,q⟩:=hl j y v' l C e3
    refine⟨u',Z,?_⟩
    rcases q with q|⟨k,W,e,z'⟩
    .exact .inl q
    .refine .inr ⟨k,W,e,z'.sameBut f ?_⟩
     rintro rfl
     exact K (Ft hN l (I.ok.inj _ _ _ e t ▸ O))
  .by_cases N:W=c
   .subst N;exact⟨_,S⟩
   .obtain⟨w2,z2⟩:=I.cell y W e
    exact⟨w2,z2.sameBut f N⟩
  .obtain⟨e,n,U,nf,d⟩:=I.pin p hp
   refine⟨(f.2 p.1 ?_).trans e,n,U,nf,d⟩
   intro q
   rw[q,P]at e
   have q':oc=p.2:=g0 e
   exact d Y (by rw[<-q'];exact T)
def Fo {i:Nat}{Q:Unit->Shared->Prop}(I:aa X pins σ H s)(d:X.N.Nodup)(c:X.N[i]?≈x)(e:bY X.env.scope x)(r:y0 v u)(h:∀ a,aa X pins (σ.set i (some v)) H a->Q () a)(b:X.fn x=true\/X.env.scope.names.lookup x≈.local:=by first|exact .inl rfl|exact .inr rfl|assumption):wpAny M A (storeName X.env x u) Q E s :=
 ziK I d c e r (λa I' _=>h a I') b
def aa.call' {s':zn}(I:aa X pins σ H s)(k:s'.os=s.os)(u:Un (bH X.stack) ch H H' s.heap s'.heap)(a:bj X.prog X.w H' s'.heap)(i:AllBare s'.gens)(d:∀ b∈ch,(b∈X.ex\/X.s₀.heap.objs.size<=b)/\b≠X.env.locals/\(∀ x c,X.env.cells.lookup x≈c->c≠b)/\∀ p∈X.pn++pins,p.1≠b):aa X pins σ H' s':=by
 obtain⟨h',f,h,g,j⟩:=s'
 have e:j=s.os:=k
 subst e
 exact I.call (g':=f) (t':=g) (d':=h) u a i d
end
abbrev XK:=Value->yN->Hp->Prop
abbrev St:=List (Option V)
abbrev Ya:=St->Hp->Prop
abbrev VK:=V->Hp->Prop
abbrev lB:=List V->Hp->VK->Prop
abbrev TE:=St->Hp->VK->Prop
abbrev TT:=St->Hp->(Bool->Hp->Prop)->Prop
abbrev TA:=St->Hp->(zy->Hp->Prop)->Prop
structure VN where
 nx:Ya
 rt:VK
 bk:Ya:=λ_ _=>False
 ct:Ya:=λ_ _=>False
abbrev TS:=VN->St->Hp->Prop
def EP (X:Cx)(a:xv)(b:St)(Q:VK)(u:Value)(c:zn):Prop:=∃ v H',aa X a b H' c/\y0 v u/\Q v H'
def TP (X:Cx)(a:xv)(c:St)(Q:Bool->Hp->Prop)(b:Bool)(d:zn):Prop:=∃ H',aa X a c H' d/\Q b H'
def AP (X:Cx)(a:xv)(c:St)(Q:zy->Hp->Prop)(d:zz)(e:zn):Prop:=∃ b H',aa X a c H' e/\ym b d/\Q b H'
def SP (X:Cx)(b:xv)(D:VN)(f:Flow)(c:zn):Prop :=
 match f with
 |.next=>∃ a H',aa X b a H' c/\D.nx a H'
 |.brk=>∃ a H',aa X b a H' c/\D.bk a H'
 |.cont=>∃ a H',aa X b a H' c/\D.ct a H'
 |.ret u=>∃ v a H',aa X b a H' c/\y0 v u/\D.rt v H'
def PE (X:Cx)(e:Expr)(t:TE):Prop :=
 ∀ (a:xv) (s:zn) (b:St) (H:Hp) (Q:VK),aa X a b H s->t b H Q->wpAny (model X.prog X.w) X.A (eval e X.env) (EP X a b Q) X.xe s
def PT (X:Cx)(e:Expr)(t:TT):Prop :=
 ∀ (a:xv) (s:zn) (b:St) (H:Hp) (Q:Bool->Hp->Prop),aa X a b H s->t b H Q->wpAny (model X.prog X.w) X.A (isTrue e X.env (eval e X.env)) (TP X a b Q) X.xe s
def PW (X:Cx)(e:Expr)(t:TT):Prop :=
 ∀ (b:Sem Value) (a:xv) (s:zn) (c:St) (H:Hp) (Q:Bool->Hp->Prop),aa X a c H s->t c H Q->wpAny (model X.prog X.w) X.A (isTrue e X.env b) (TP X a c Q) X.xe s
def PW.pt {t:TT}(h:PW X e t):PT X e t:=h _
def PA (X:Cx)(d:yO)(t:TA):Prop :=
 ∀ (c:Pos) (a:xv) (s:zn) (b:St) (H:Hp) (Q:zy->Hp->Prop),aa X a b H s->t b H Q->wpAny (model X.prog X.w) X.A (spliced (backTo c (starEach d X.env))) (AP X a b Q) X.xe s
def PS (X:Cx)(c:Stmt)(t:TS):Prop :=
 ∀ (a:xv) (s:zn) (b:St) (H:Hp) (D:VN),aa X a b H s->t D b H->wpAny (model X.prog X.w) X.A (exec c X.env) (SP X a D) X.xe s
def bF (X:Cx)(c:vu)(t:TS):Prop :=
 ∀ (a:xv) (s:zn) (b:St) (H:Hp) (D:VN),aa X a b H s->t D b H->wpAny (model X.prog X.w) X.A (execs c X.env) (SP X a D) X.xe s
def aC {b:Type}{t:Sem b}{Q Q':b->Shared->Prop}(h:wpAny M A t Q E s)(c:∀ a s,Q a s->Q' a s):wpAny M A t Q' E s:=p0 h c λ_ _ x=>x
section
variable {X:Cx}
def Zh (i:Nat):TE:=λa H Q=>∃ v,a[i]?≈(some v)/\Q v H
def tC (v:V):TE:=λ_ H Q=>Q v H
def U5 {i:Nat} (o:X.N[i]?≈x) (p:eY X.env.scope x) (f:(x == ("__debug__":Str))=false:=by decide) (g:(x == ("__classdict__":Str))=false:=by decide):PE X (.Name x j) (Zh i):=by
 intro d s t H Q I h
 obtain⟨v,e,h⟩:=h
 obtain⟨m,w,q⟩:=I.loc
 obtain⟨u,r,l⟩:=q i x v o e p
 have fin:EP X d t Q u s:=⟨v,H,I,r,h⟩
 rcases l with ⟨b,n⟩|⟨b,c,k,a⟩
 .exact wpAny_Name (wpAny_loadName_local I.ok.kind b w n fin) f
 .rcases b with b|b
  .exact wpAny_Name (wpAny_loadName_cell I.ok.kind b k a fin) f
  .exact wpAny_Name (wpAny_loadName_free I.ok.kind b k a fin g) f
def zv {i j pos}:PE X (.Constant (.int i) j pos) (tC (.int i)):=λ_ _ _ H _ I h=>wpAny_Constant_int ⟨.int i,H,I.tok _,⟨_,rfl⟩,h⟩
def lE {b j pos}:PE X (.Constant (.bool b) j pos) (tC (.bl b)):=λ_ _ _ H _ I h=>Constant_bool ⟨.bl b,H,I,rfl,h⟩
def lK {j pos}:PE X (.Constant .none j pos) (tC .non):=λ_ _ _ H _ I h=>Constant_none ⟨.non,H,I,rfl,h⟩
def zQ {x j pos}:PE X (.Constant (.str x) j pos) (tC (.str x)):=λ_ _ _ H _ I h=>Calls.Constant_str ⟨.str x,H,I.tok _,⟨_,rfl⟩,h⟩
def Gl (X:Cx)(x:Str):Prop:=X.env.kindOf x≈.globalImplicit
def vS {Q:yI} (I:aa X a c H s) (d:Gl X x) (f:X.mg x≈u) (h:Q u s) (e:(x == ("__debug__":Str))=false:=by decide):wpAny (model X.prog X.w) X.A (eval (.Name x b) X.env) Q E s :=
 Calls.Name_function_global I.ok.kind d (Calls.loadGlobal_global (by rw[I.ok.glob];exact I.mod.glob.keeps I.bk) f h) e
def Vi {Q:yI} (I:aa X a i H s) (c:Gl X x) (e:X.mg x=none) (f:bootBuiltins x≈u) (h:Q u s) (k:x≠"__name__":=by decide) (d:(x == ("__debug__":Str))=false:=by decide):wpAny (model X.prog X.w) X.A (eval (.Name x b) X.env) Q E s:=by
 obtain⟨l,g,j⟩:=I.mod.blt
 exact Calls.Name_function_global I.ok.kind c (Calls.loadGlobal_builtin (by rw[I.ok.glob];exact I.mod.glob.keeps I.bk) e (by rw[I.ok.blt];exact g.keeps I.bk) ((j x k).trans f) h) d
def y6 (b:Gl X x) (d:X.mg x≈u) (r:y0 v u) (c:(x == ("__debug__":Str))=false:=by decide):PE X (.Name x a) (tC v) :=
 λ_ _ _ H _ I h=>vS I b d ⟨v,H,I,r,h⟩ c
def vg (b:Gl X x) (e:X.mg x=none) (f:bootBuiltins x≈u) (r:y0 v u) (d:x≠"__name__":=by decide) (c:(x == ("__debug__":Str))=false:=by decide):PE X (.Name x a) (tC v) :=
 λ_ _ _ H _ I h=>Vi I b e f ⟨v,H,I,r,h⟩ d c
variable {a b:Expr}{ta tb:TE}{pos:Pos}
def tB (t:TE):TT:=λa H Q=>t a H λx H1=>∃ c,x=.bl c/\Q c H1
def KQ {e:Expr}{t:TE}(h:PE X e t)(g:∀ a,isTrue e X.env a=(do let v<-a;standAt e.pos;holding [v] (truthy v)):=by intro _;rfl):PT X e (tB t):=by
 intro b s c H Q I hw
 refine isTrue_plain (aC (h b s c H _ I hw) λv j hh9=>?_) (g _)
 obtain⟨x,H1,I1,f,i⟩:=hh9
 obtain⟨d,rfl,q⟩:=i
 cases f
 exact fV ⟨H1,I1,q⟩
variable {tA tB':TT}{rest:yO}
def HF (t u:TT):TT:=λa H Q=>t a H λc H1=>if c then u a H1 Q else Q false H1
def Rb (t u:TT):TT:=λa H Q=>t a H λc H1=>if c then Q true H1 else u a H1 Q
def ql (t:TT):TT:=λa H Q=>t a H λc H1=>Q (!c) H1
def znn (f:PT X a tA):PW X (.BoolOp .And [a] pos) tA:=by
 intro g b s d H Q I h
 refine isTrue_and (aC (f b s d H Q I h) λc i e=>?_)
 cases c with
 |true=>exact isTrue_and_nil e
 |false=>exact e
def Kq (f:PT X a tA):PW X (.BoolOp .Or [a] pos) tA:=by
 intro g b s d H Q I h
 refine isTrue_or (aC (f b s d H Q I h) λc i e=>?_)
 cases c with
 |false=>exact isTrue_or_nil e
 |true=>exact e
def zoH (g:PT X a tA)(k:PW X (.BoolOp .And (b::rest) pos) tB'):PW X (.BoolOp .And (a::b::rest) pos) (HF tA tB'):=by
 intro i d s e H Q I h
 refine isTrue_and (aC (g d s e H _ I h) λc j hh9=>?_)
 obtain⟨H1,I1,f⟩:=hh9
 cases c with
 |true=>exact k i d j e H1 Q I1 f
 |false=>exact⟨H1,I1,f⟩
def Jk (g:PT X a tA)(k:PW X (.BoolOp .Or (b::rest) pos) tB'):PW X (.BoolOp .Or (a::b::rest) pos) (Rb tA tB'):=by
 intro i d s e H Q I h
 refine isTrue_or (aC (g d s e H _ I h) λc j hh9=>?_)
 obtain⟨H1,I1,f⟩:=hh9
 cases c with
 |true=>exact⟨H1,I1,f⟩
 |false=>exact k i d j e H1 Q I1 f
def Lb (e:PT X a tA):PT X (.UnaryOp .Not a pos) (ql tA):=by
 intro b s d H Q I h
 exact isTrue_not (e b s d H (λc H1=>Q (!c) H1) I h)
def Th (ta tb:TE):TE:=λa H Q=>ta a H λx H1=>∃ c,x=.bl c/\if c then tb a H1 Q else Q (.bl false) H1
def Hy (ta tb:TE):TE:=λa H Q=>ta a H λx H1=>∃ c,x=.bl c/\if c then Q (.bl true) H1 else tb a H1 Q
def R0 (ta:TE):TE:=λa H Q=>ta a H λx H1=>∃ c,x=.bl c/\Q (.bl (!c)) H1
def Uh {op}{t:TE}(h:PE X a t):PE X (.BoolOp op [a] pos) t:=λb s c H Q I hw=>BoolOp_one (h b s c H Q I hw)
def Tn (g:PE X a ta)(k:PE X (.BoolOp .And (b::rest) pos) tb):PE X (.BoolOp .And (a::b::rest) pos) (Th ta tb):=by
 intro d s f H Q I h
 refine BoolOp_and (aC (g d s f H _ I h) λv j hh9=>?_)
 obtain⟨x,H1,I1,i,e⟩:=hh9
 obtain⟨c,rfl,e⟩:=e
 cases i
 refine fV ?_
 cases c with
 |true=>exact k d j f H1 Q I1 e
 |false=>exact⟨.bl false,H1,I1,rfl,e⟩
def S7 (g:PE X a ta)(k:PE X (.BoolOp .Or (b::rest) pos) tb):PE X (.BoolOp .Or (a::b::rest) pos) (Hy ta tb):=by
 intro d s f H Q I h
 refine BoolOp_or (aC (g d s f H _ I h) λv j hh9=>?_)
 obtain⟨x,H1,I1,i,e⟩:=hh9
 obtain⟨c,rfl,e⟩:=e
 cases i
 refine fV ?_
 cases c with
 |false=>exact k d j f H1 Q I1 e
 |true=>exact⟨.bl true,H1,I1,rfl,e⟩
def zp2 (f:PE X a ta):PE X (.UnaryOp .Not a pos) (R0 ta):=by
 intro b s e H Q I h
 refine UnaryOp_ (aC (f b s e H _ I h) λv i hh9=>?_)
 obtain⟨x,H1,I1,g,d⟩:=hh9
 obtain⟨c,rfl,d⟩:=d
 cases g
 exact not_of (fV ⟨.bl (!c),H1,I1,rfl,d⟩)
def tIf (t:TT)(ta tb:TE):TE:=λa H Q=>t a H λc H1=>if c then ta a H1 Q else tb a H1 Q
def zjC (k:PT X c tA)(j:PE X a ta)(l:PE X b tb):PE X (.IfExp c a b pos) (tIf tA ta tb):=by
 intro e s f H Q I h
 refine wpAny_IfExp (aC (k e s f H _ I h) λd i hh9=>?_)
 obtain⟨H1,I1,g⟩:=hh9
 cases d with
 |true=>exact j e i f H1 Q I1 g
 |false=>exact l e i f H1 Q I1 g
end
def aK (K:zx)(H:Hp)(a:Addr)(c:zy):Prop :=
 Rd H a (.lst c) \/
  ∃ (o:Obj) (b:wb) (n:Nat),K.lookup a≈o/\o.cls=.type "list"/\o.dict=none/\o.data=.seq b n/\b.size<=sizeLine/\ym c b.toList
def aJ (K:zx)(H:Hp)(a:Addr)(c:zy):Prop :=
 Rd H a (.tup c) \/
  ∃ (o:Obj) (b:wb) (n:Nat),K.lookup a≈o/\o.cls=.type "tuple"/\o.data=.seq b n/\b.size<=sizeLine/\ym c b.toList
def Iw:Value->Option V
 |.none=>some .non
 |.bool b=>some (.bl b)
 |.int i _=>some (.int i)
 |.str x _=>some (.str x)
 |.bytes b _=>some (.byt b)
 |.float b _=>some (.flt b)
 |.ref a=>some (.ref a)
 |.type n=>some (.ty n)
 |_=>none
def y0.abs (r:y0 x u):Iw u≈x:=by
 cases x with
 |non=>cases r;rfl
 |bl _=>cases r;rfl
 |int _=>obtain⟨t,rfl⟩:=r;rfl
 |str _=>obtain⟨t,rfl⟩:=r;rfl
 |byt _=>obtain⟨t,rfl⟩:=r;rfl
 |flt _=>obtain⟨t,rfl⟩:=r;rfl
 |ref _=>cases r;rfl
 |ty _=>cases r;rfl
def y0.inj (r:y0 x u)(q:y0 y u):x=y:=g0 (r.abs.symm.trans q.abs)
def ym.inj:∀ {c a:zy} {d:zz},ym c d->ym a d->c=a:=by
 intro c a d h
 induction h generalizing a with
 |nil=>intro b;cases b;rfl
 |cons r t f=>intro b;cases b with|cons e g=>rw[r.inj e,f g]
section
variable {X:Cx}{pins:xv}{σ:St}{H:Hp}{s:zn}{a:Addr}{xs ys:zy}
def aK.of {K:zx}(h:H a≈(.lst xs)):aK K H a xs:=.inl (.inl h)
def aJ.of {K:zx}(h:H a≈(.tup xs)):aJ K H a xs:=.inl (.inl h)
def aa.list (I:aa X pins σ H s)(h:aK X.K H a xs):∃ b:zz,ym xs b/\PlainL s.heap a b.toArray/\xs.length<=sizeLine:=by
 rcases h with h|⟨o,b,n,g,f,d,c,i,r⟩
 .obtain⟨z,b,n,r,e⟩:=h.ok I.hok
  exact⟨b,r,⟨_,n,e,rfl,rfl,rfl⟩,z⟩
 .refine⟨b.toList,r,⟨o,n,I.kIn a o g,f,d,by simpa using c⟩,?_⟩
  have e:=r.length
  simp only[i9]at e
  omega
def aa.tuple (I:aa X pins σ H s)(h:aJ X.K H a xs):∃ b:zz,ym xs b/\IsTup s.heap a b.toArray/\xs.length<=sizeLine:=by
 rcases h with h|⟨o,b,n,f,d,c,g,r⟩
 .obtain⟨z,b,r,p⟩:=h.ok I.hok
  exact⟨b,r,p,z⟩
 .refine⟨b.toList,r,⟨o,I.kIn a o f,d,n,by simpa using c⟩,?_⟩
  have e:=r.length
  simp only[i9]at e
  omega
def aa.list_inj (I:aa X pins σ H s)(h:aK X.K H a xs)(i:aK X.K H a ys):xs=ys:=by
 obtain⟨c,r,⟨o,n,e,_,_,d⟩,_⟩:=I.list h
 obtain⟨b,j,⟨l,k,f,_,_,g⟩,_⟩:=I.list i
 rw[e]at f;cases f
 rw[d]at g
 injection g with d1 _
 have:c=b:=by simpa using bN Array.toList d1
 subst this
 exact r.inj j
def aa.tuple_inj (I:aa X pins σ H s)(h:aJ X.K H a xs)(i:aJ X.K H a ys):xs=ys:=by
 obtain⟨c,r,⟨o,e,_,n,d⟩,_⟩:=I.tuple h
 obtain⟨b,j,⟨l,f,_,k,g⟩,_⟩:=I.tuple i
 rw[e]at f;cases f
 rw[d]at g
 injection g with d1 _
 have:c=b:=by simpa using bN Array.toList d1
 subst this
 exact r.inj j
end
abbrev Cx.wish (X:Cx)(E:yI):Cx:={ X with xe:=E }
abbrev Cx.nox (X:Cx):Cx:=X.wish λ_ _=>False
def Cx.Ok.wish {X:Cx}(ok:X.Ok)(E:yI):(X.wish E).Ok :=
 ⟨ok.mod,ok.kind,ok.glob,ok.blt,ok.above,ok.inj,ok.has,ok.cab,ok.hd,ok.frames,ok.stk,ok.exf,ok.bs,ok.bsz,ok.noex,ok.exfs,ok.funs,ok.frf⟩
def Cx.Ok.unwish {X:Cx}(ok:(X.wish E).Ok):X.Ok :=
 ⟨ok.mod,ok.kind,ok.glob,ok.blt,ok.above,ok.inj,ok.has,ok.cab,ok.hd,ok.frames,ok.stk,ok.exf,ok.bs,ok.bsz,ok.noex,ok.exfs,ok.funs,ok.frf⟩
section
variable {X:Cx}{pins:xv}{σ:St}{H:Hp}{s:zn}{E:yI}
def aa.wish (I:aa X pins σ H s)(E:yI):aa (X.wish E) pins σ H s:=⟨I.ok.wish E,I.os,I.bare,I.base,I.loc,I.cell,I.free,I.freeC,I.pin,I.hok,I.len⟩
def aa.unwish (I:aa (X.wish E) pins σ H s):aa X pins σ H s:=⟨I.ok.unwish,I.os,I.bare,I.base,I.loc,I.cell,I.free,I.freeC,I.pin,I.hok,I.len⟩
def SP.unwish {D:VN}{f:Flow}(h:SP (X.wish E) pins D f b):SP X pins D f b:=by
 cases f with
 |next=>obtain⟨a,H',I,q⟩:=h;exact⟨a,H',I.unwish,q⟩
 |brk=>obtain⟨a,H',I,q⟩:=h;exact⟨a,H',I.unwish,q⟩
 |cont=>obtain⟨a,H',I,q⟩:=h;exact⟨a,H',I.unwish,q⟩
 |ret u=>obtain⟨v,a,H',I,r,q⟩:=h;exact⟨v,a,H',I.unwish,r,q⟩
def bF.nox {t:TS}(h:bF X.nox a t):bF X a t:=λpins s σ H D I hw =>
 p0 (h pins s σ H D (I.wish _) hw) (λ_ _ q=>q.unwish) λ_ _ z=>False.elim z
end
section
variable {X:Cx}{st:Stmt}{rest:vu}{t u:TS}{e:Expr}{te:TE}{pos:Pos}
def Dq:TS:=λD a H=>D.nx a H
def mV (t u:TS):TS:=λD a H=>t { D with nx:=u D } a H
def WX:bF X [] Dq:=λ_ _ a H _ I h=>Af ⟨a,H,I,h⟩
def yV (g:PS X st t)(c:bF X rest u):bF X (st::rest) (mV t u):=by
 intro a s d H D I h
 refine wpAny_execs_cons (aC (g a s d H { D with nx:=u D } I h) λf e q=>?_)
 cases f with
 |next =>
  obtain⟨b,H',I',q⟩:=q
  exact c a e b H' D I' q
 |ret v=>exact q
 |brk=>exact q
 |cont=>exact q
def x4 (c:PS X st t):bF X [st] t:=by
 intro a s b H D I h
 refine wpAny_execs_cons (aC (c a s b H D I h) λf d q=>?_)
 cases f with
 |next=>exact Af q
 |ret v=>exact q
 |brk=>exact q
 |cont=>exact q
def aa.quiet (I:aa X a b H s):interactive X.env=false:=by simp[interactive,I.ok.kind]
def RJ (te:TE):TS:=λD a H=>te a H λ_ H1=>D.nx a H1
def Xd (d:PE X e te)(c:swapsWith e none pos.line X.env=pure false:=by rfl):PS X (.Expr e pos) (RJ te):=by
 intro a s b H D I h
 exact wpAny_Expr_any (aC (d a s b H _ I h) λv i ⟨x,H1,I1,g,f⟩=>⟨b,H1,I1,f⟩) I.quiet c
def Cg (te:TE):TS:=λD a H=>te a H D.rt
def Ys (d:PE X e te):PS X (.Return (some e) pos) (Cg te):=by
 intro a s b H D I h
 exact wpAny_Return_some (aC (d a s b H _ I h) λv g ⟨x,H1,I1,c,f⟩=>⟨x,b,H1,I1,c,f⟩)
def Cw (c:TT)(t u:TS):TS:=λD a H=>c a H λb H1=>if b then t D a H1 else u D a H1
def lG {g:TT}(l:PT X c g)(k:bF X a t)(m:bF X b u):PS X (.If c a b pos) (Cw g t u):=by
 intro e s f H D I h
 refine wpAny_If (aC (l e s f H _ I h) λd j hh9=>?_)
 obtain⟨H1,I1,i⟩:=hh9
 cases d with
 |true=>exact k e j f H1 D I1 i
 |false=>exact m e j f H1 D I1 i
def Ko:TS:=λ_ _ _=>False
def PP:PS X st Ko:=λ_ _ _ _ _ _ h=>h.elim
def zhM:bF X a Ko:=λ_ _ _ _ _ _ h=>h.elim
end
abbrev TG:=V->St->Hp->Ya->Prop
abbrev ir:=zy->St->Hp->Ya->Prop
def PG (X:Cx)(a:Expr)(t:TG):Prop :=
 ∀ (b:xv) (s:zn) (d:St) (H:Hp) (v:V) (u:Value) (Q:Ya),aa X b d H s->y0 v u->t v d H Q ->
  wpAny (model X.prog X.w) X.A (assign a X.env u) (λ_ e=>∃ c H',aa X b c H' e/\Q c H') X.xe s
def mL (X:Cx)(f:yO)(t:ir):Prop :=
 ∀ (a:xv) (s:zn) (c:St) (H:Hp) (e:zy) (d:zz) (Q:Ya),aa X a c H s->ym e d->t e c H Q ->
  wpAny (model X.prog X.w) X.A (assignInOrder ((assignEach f X.env).map (·.2)) d) (λ_ g=>∃ b H',aa X a b H' g/\Q b H') X.xe s
abbrev Cu:=V->V->V->Hp->(Hp->Prop)->Prop
def qQ (X:Cx)(t:Cu):Prop :=
 ∀ (a:xv) (s:zn) (b:St) (H:Hp) (o i v:V) (c d u:Value) (Q:Hp->Prop),aa X a b H s->y0 o c->y0 i d->y0 v u->t o i v H Q ->
  wpAny (model X.prog X.w) X.A (setItem c d u) (λ_ e=>∃ H',aa X a b H' e/\Q H') X.xe s
section
variable {X:Cx}{pos:Pos}
def VH (i:Nat):TG:=λv a H Q=>Q (a.set i (some v)) H
def yi {i:Nat}(b:X.N.Nodup)(e:X.N[i]?≈x)(c:bY X.env.scope x)(d:X.fn x=true\/X.env.scope.names.lookup x≈.local:=by first|exact .inl rfl|exact .inr rfl|assumption):PG X (.Name x pos) (VH i):=by
 intro a s f H v u Q I r h
 exact wpAny_assign_Name (Fo I b e c r (λg I'=>⟨_,H,I',h⟩) d)
def Im:ir:=λb a H Q=>b=[]/\Q a H
def SN (t:TG)(u:ir):ir:=λc b H Q=>∃ v r,c=v::r/\t v b H λa H'=>u r a H' Q
def zni:mL X [] Im:=by
 intro a s b H d c Q I r h
 obtain⟨e,h⟩:=h
 subst e
 cases r
 exact assignInOrder_nil ⟨b,H,I,h⟩
def zkl {t:TG}(f:PG X e t)(g:mL X b u)(d:(assignEach (e::b) X.env).map (·.2)=assign e X.env::(assignEach b X.env).map (·.2):=by rfl):mL X (e::b) (SN t u):=by
 intro a s i H p n Q I r h
 obtain⟨v,o,j,h⟩:=h
 subst j
 cases r with
 |cons r m =>
  rw[d]
  refine assignInOrder_cons (aC (f a s i H _ _ _ I r h) λ_ l hh9=>?_)
  obtain⟨c,H1,I1,k⟩:=hh9
  exact g a l c H1 _ _ Q I1 m k
def Ik (K:zx)(n:Nat)(t:ir):TG:=λv c H Q=>∃ a b,v=.ref a/\aJ K H a b/\b.length=n/\t b c H Q
def UW {d:yO}{k:Nat}{t:ir}{n:Nat}(x:X.calm=true)(h:mL X d t)
 (y:(assignEach d X.env).length=n:=by rfl) (f:(assignEach d X.env).findIdx? (·.1)=none:=by rfl):PG X (.Tuple d k pos) (Ik X.K n t):=by
 intro c s i H v u Q I r hw
 obtain⟨a,l,w,p,q,hw⟩:=hw
 subst w
 cases r
 obtain⟨z,g,A,B⟩:=I.tuple p
 refine assign_Tuple_tuple (I.ok.hd x) A (by simp[y,<- q,g.length]) f λj m=>?_
 have I1:aa X c i H { s with heap:=j }:=I.kept (t':=s.toks) λb o e=>m b o (j9 (q7 e)) e
 exact h c _ i H l _ Q I1 (by simpa using g) hw
def Il (c b:TE)(t:Cu):TG:=λv a H Q=>c a H λo H1=>b a H1 λi H2=>t o i v H2 λH3=>Q a H3
def Sg {f:TE}{t:Cu}(g:PE X o e)(k:PE X i f)(p:qQ X t) (j:∀ v,assign (.Subscript o i pos) X.env v=(do
 let b<-holding [v] (eval o X.env)
 let c<-holding [v,b] (eval i X.env)
 standAt pos
 holding [v,b,c] (setItem b c v)
 release [v,b,c] []):=by intro _;rfl):PG X (.Subscript o i pos) (Il e f t):=by
 intro a s d H v u Q I r h
 rw[j]
 refine u5 (o9 (aC (g a s d H _ I h) λb A hh9=>?_))
 obtain⟨x,H1,I1,m,z⟩:=hh9
 refine u5 (o9 (aC (k a A d H1 _ I1 z) λc w hh9=>?_))
 obtain⟨y,H2,I2,n,l⟩:=hh9
 refine u5 (jC (u5 (o9 (aC (p a w d H2 x y v b c u _ I2 m n r l) λ_ B hh9=>?_))))
 obtain⟨H3,I3,q⟩:=hh9
 exact wpAny_release ⟨d,H3,I3,q⟩
def kh (b:TE)(g:TG):TS:=λD a H=>b a H λx H1=>g x a H1 D.nx
def Kz {g:TG}(l:PE X e c)(i:PG X b g)(f:swapsWithSole [b] e pos.line X.env=pure false:=by rfl)(hw:swappedStores [b] e X.env=pure none:=by rfl)(j:(assignEach [b] X.env).map (·.2)=[assign b X.env]:=by rfl):PS X (.Assign [b] e pos) (kh c g):=by
 intro a s d H D I h
 refine wpAny_Assign_stores (aC (l a s d H _ I h) λv n hh9=>?_) f hw
 obtain⟨x,H1,I1,k,m⟩:=hh9
 rw[j]
 exact aC (i a n d H1 x v _ I1 k m) λ_ o q=>q
def Yq {i:Nat}(f:X.N.Nodup)(l:X.N[i]?≈x)(g:bY X.env.scope x)(n:PE X e c)(d:swapsWith e (some (.Name x a)) pos.line X.env=pure false:=by rfl)(j:X.fn x=true\/X.env.scope.names.lookup x≈.local:=by first|exact .inl rfl|exact .inr rfl|assumption) :
 PS X (.Assign [.Name x a] e pos) (kh c (VH i)):=by
 intro b s k H D I h
 refine wpAny_Assign_Name (aC (n b s k H _ I h) λv q hh9=>?_) d
 obtain⟨y,H1,I1,m,o⟩:=hh9
 exact Fo I1 f l g m (λp I2=>⟨_,H1,I2,o⟩) j
end
structure It where
 go:Nat->Hp->Prop
 yld:Nat->Hp->V->Hp->Prop
 stop:Nat->Hp->Prop
def dD (X:Cx)(a:xv)(H:Hp)(b:Addr):Prop :=
 H b=none/\b≠X.env.locals/\b∉X.fs/\(b∈X.ex\/X.s₀.heap.objs.size<=b)/\(∀ x c,X.env.cells.lookup x≈c->c≠b)/\∀ p∈X.pn++a,p.1≠b
def aa.fpOk {f:St}{H':Hp}{s:zn}(I:aa X a f H s)(d:s.heap.objs.size<=b)(g:H' b=none):dD X a H' b:=by
 refine⟨g,gZ (j0 I.lt d),I.nofs d,.inr (r6 I.sz d),λx c e z=>?_,λp h z=>?_⟩
 .obtain⟨v,q⟩:=I.cell x c e
  exact absurd (j0 q.lt (by rw[z];exact d)) (dY _)
 .exact absurd (j0 (q7 (I.pin p h).1) (by rw[z];exact d)) (dY _)
structure iB (P:zM) (w:World) (K:zx) (tg:Expr) (J:It) (fp:xW) (it:Addr) (tn:Nat->Heap->Prop):Prop where
 mem:it∈fp
 obj:∀ i h,tn i h->∀ b∈fp,∃ o,h.get? b≈o/\∀ v,o.data≠.cell v
 keep:∀ i h h',tn i h->(∀ b∈fp,∀ o,h.get? b≈o->h'.get? b≈o)->tn i h'
 item:∀ (X:Cx),X.prog=P->X.w=w->X.K=K->X.calm=true->∀ (i:Nat) (pins:xv) (s:zn) (σ:St) (H:Hp) (E:yI),aa X pins σ H s->(∀ b∈fp,dD X pins H b)->tn i s.heap->J.go i H ->
  wpAny (model P w) X.A (pyNext (.ref it)) (λr s1=>∃ u,r≈u /\
   wpAny (model P w) X.A (letOwnedTupleGo tg (.ref it) u) (λ_ s2=>∃ x H',aa X pins σ H' s2/\y0 x u/\J.yld i H x H'/\tn (i+1) s2.heap/\∀ b∈fp,H' b=none) E s1) E s
 done:∀ (X:Cx),X.prog=P->X.w=w->X.K=K->X.calm=true->∀ (i:Nat) (pins:xv) (s:zn) (σ:St) (H:Hp) (E:yI),aa X pins σ H s->(∀ b∈fp,dD X pins H b)->tn i s.heap->J.stop i H ->
  wpAny (model P w) X.A (pyNext (.ref it)) (λr s1=>r=none/\aa X pins σ H s1) E s
 self:∀ (A:zN) (i:Nat) (s:zn) (Q:yI) (E:yI),tn i s.heap->Q (.ref it) s->wpAny (model P w) A (pyIter (.ref it)) Q E s
abbrev TI:=St->Hp->(It->Hp->Prop)->Prop
def Ro (X:Cx)(a:xv)(h:St)(i:Expr)(R:It->Hp->Prop)(c:Value)(g:zn):Prop :=
 ∃ (d:Addr) (f:xW) (e:Nat->Heap->Prop) (J:It) (H':Hp),c=.ref d/\aa X a h H' g/\iB X.prog X.w X.K i J f d e/\e 0 g.heap/\(∀ b∈f,dD X a H' b)/\R J H'
def PI (X:Cx)(d b:Expr)(f:TI):Prop :=
 ∀ (a:xv) (s:zn) (c:St) (H:Hp) (R:It->Hp->Prop),aa X a c H s->f c H R ->
  wpAny (model X.prog X.w) X.A (eval b X.env) (λv e=>wpAny (model X.prog X.w) X.A (pyIter v) (Ro X a c d R) X.xe e) X.xe s
theorem sZ {s:zn} {o:Obj} {Q:Unit→Shared→Prop} (ho:s.heap.get? it≈o) (hc:o.cls=.type n) (hd:o.data=.fields vs) (hn:["enumerate","zip","dict_itemiterator","dict_reverseitemiterator","odict_iterator","itertools.zip_longest","itertools.pairwise"].contains n=false) (hQ:Q () s):wpAny M A (letOwnedTupleGo tg (.ref it) u) Q E s:=by
  unfold letOwnedTupleGo
  cases tg <;> first
    |exact t5 hQ
    | (cases u <;> first
        |exact t5 hQ
        | (refine u5 (wpAny_load ho ?_)
           rw [hc,hd]
           show wpAny M A (if (["enumerate","zip","dict_itemiterator","dict_reverseitemiterator","odict_iterator","itertools.zip_longest","itertools.pairwise"].contains n&&vs[0]? == some (rawInt _)) then _ else _) Q E s
           rw [j4 (by intro h;rw [hn,Gi] at h;cases h)]
           exact t5 hQ))
def Jd (K:zx)(a:Addr):It :=
 ⟨λi H=>∃ b x,aK K H a b/\b[i]?≈x,λi H x H'=>H'=H/\∀ b,aK K H a b->b[i]?≈x,λi H=>∃ b,aK K H a b/\b.length<=i⟩
def Jb (K:zx)(a:Addr):It :=
 ⟨λi H=>∃ b x,aJ K H a b/\b[i]?≈x,λi H x H'=>H'=H/\∀ b,aJ K H a b->b[i]?≈x,λi H=>∃ b,aJ K H a b/\b.length<=i⟩
def qX (a:Int)(n:Nat):It:=⟨λi _=>i<n,λi H x H'=>H'=H/\x=.int (a+i),λi _=>n<=i⟩
def zge {P:zM}{w:World}{K:zx}{tg:Expr}(a it:Addr):iB P w K tg (Jd K a) [it] it (λi h=>h.IsListIter it a i) where
 mem:=by simp
 obj:=λi h st b hb=>by
  have e:b=it:=by simpa using hb
  subst e
  obtain⟨o,e,c,d⟩:=st
  exact⟨o,e,λv z=>by rw[d]at z;cases z⟩
 keep:=λi h h' st k=>st.at λo e=>k it (by simp) o e
 item:=by
  intro X hP hw hK hc i pins s σ H E I hf st hg
  subst hP hw hK
  obtain⟨xs,x,hq,hx⟩:=hg
  obtain⟨its,rv,p,hz⟩:=I.list hq
  obtain⟨u,hu,ru⟩:=rv.get hx
  obtain⟨f0,f1,f2,f3,f4,f5⟩:=hf it (by simp)
  refine wpAny_pyNext_list_item st p.isList (x:=u) (by simpa using hu) λh' st' sb=>?_
  have I1:aa X pins σ H { s with heap:=h' }:=I.turned (t':=s.toks) (λb o hb e=>(sb.2 b hb).trans e) f0 f1 f3 f4 f5
  obtain⟨o,e,c,d⟩:=id st'
  exact⟨u,rfl,sZ (s:={ s with heap:=h' }) e c d ⋯ ⟨x,H,I1,ru,⟨rfl,λys hy=>by rw[I.list_inj hy hq];exact hx⟩,st',λb hb=>(hf b hb).1⟩⟩
 done:=by
  intro X hP hw hK hc i pins s σ H E I hf st hg
  subst hP hw hK
  obtain⟨xs,hq,hx⟩:=hg
  obtain⟨its,rv,p,hz⟩:=I.list hq
  obtain⟨f0,f1,f2,f3,f4,f5⟩:=hf it (by simp)
  have hl:=rv.length
  exact wpAny_pyNext_list_end (I.ok.hd hc) st p.isList (by simp;omega) λh' eb=>⟨rfl,I.turned (t':=s.toks) (λb o hb e=>eb b o hb e) f0 f1 f3 f4 f5⟩
 self:=λ_ _ _ _ _ st h=>wpAny_pyIter_listiter st h
def zfb {P:zM}{w:World}{K:zx}{tg:Expr}(a it:Addr):iB P w K tg (Jb K a) [it] it (λi h=>h.IsTupleIter it a i) where
 mem:=by simp
 obj:=λi h st b hb=>by
  have e:b=it:=by simpa using hb
  subst e
  obtain⟨o,e,c,d⟩:=st
  exact⟨o,e,λv z=>by rw[d]at z;cases z⟩
 keep:=λi h h' st k=>st.at λo e=>k it (by simp) o e
 item:=by
  intro X hP hw hK hc i pins s σ H E I hf st hg
  subst hP hw hK
  obtain⟨xs,x,hq,hx⟩:=hg
  obtain⟨its,rv,p,hz⟩:=I.tuple hq
  obtain⟨u,hu,ru⟩:=rv.get hx
  obtain⟨f0,f1,f2,f3,f4,f5⟩:=hf it (by simp)
  refine wpAny_pyNext_tuple_item st (show s.heap.IsTuple a its.toArray from p) (x:=u) (by simpa using hu) λh' st' sb=>?_
  have I1:aa X pins σ H { s with heap:=h' }:=I.turned (t':=s.toks) (λb o hb e=>(sb.2 b hb).trans e) f0 f1 f3 f4 f5
  obtain⟨o,e,c,d⟩:=id st'
  exact⟨u,rfl,sZ (s:={ s with heap:=h' }) e c d ⋯ ⟨x,H,I1,ru,⟨rfl,λys hy=>by rw[I.tuple_inj hy hq];exact hx⟩,st',λb hb=>(hf b hb).1⟩⟩
 done:=by
  intro X hP hw hK hc i pins s σ H E I hf st hg
  subst hP hw hK
  obtain⟨xs,hq,hx⟩:=hg
  obtain⟨its,rv,p,hz⟩:=I.tuple hq
  obtain⟨f0,f1,f2,f3,f4,f5⟩:=hf it (by simp)
  have hl:=rv.length
  exact wpAny_pyNext_tuple_end (I.ok.hd hc) st (show s.heap.IsTuple a its.toArray from p) (by simp;omega) λh' eb=>⟨rfl,I.turned (t':=s.toks) (λb o hb e=>eb b o hb e) f0 f1 f3 f4 f5⟩
 self:=λ_ _ _ _ _ st h=>wpAny_pyIter_tupleiter st h
def zfi {P:zM}{w:World}{K:zx}{tg:Expr}(it:Addr)(lo:Int)(n:Nat):iB P w K tg (qX lo n) [it] it (λi h=>IsRangeIter h it (lo+(i:Nat)*1) ((n:Int)-(i:Nat)) 1) where
 mem:=by simp
 obj:=λi h st b hb=>by
  have e:b=it:=by simpa using hb
  subst e
  exact⟨_,st,λv z=>by
   have z':Data.fields _=Data.cell v:=z
   cases z'⟩
 keep:=λi h h' st k=>k it (by simp) _ st
 item:=by
  intro X hP hw hK hc i pins s σ H E I hf st hg
  subst hP hw hK
  obtain⟨f0,f1,f2,f3,f4,f5⟩:=hf it (by simp)
  have W:=Walks.range (prog:=X.prog) (w:=X.w) (I.ok.hd hc) it lo 1 n
  refine W.item i s _ _ hg st λv h' tk hv st' kk=>?_
  obtain⟨t,rfl⟩:=hv
  have I1:aa X pins σ H { s with heap:=h',toks:=tk }:=I.turned (λb o hb e=>kk b o (by simpa using hb) e) f0 f1 f3 f4 f5
  refine⟨_,rfl,sZ (s:={ s with heap:=h',toks:=tk }) (n:="range_iterator") st' rfl rfl ⋯ ⟨.int (lo+i),H,I1,⟨t,?_⟩,⟨rfl,rfl⟩,st',λb hb=>(hf b hb).1⟩⟩
  rw[Int.mul_one]
 done:=by
  intro X hP hw hK hc i pins s σ H E I hf st hg
  subst hP hw hK
  obtain⟨f0,f1,f2,f3,f4,f5⟩:=hf it (by simp)
  exact wpAny_pyNext_range_end (I.ok.hd hc) st (by have:n<=i:=hg;omega) λh' eb=>⟨rfl,I.turned (t':=s.toks) (λb o hb e=>eb b o hb e) f0 f1 f3 f4 f5⟩
 self:=λ_ _ _ _ _ st h=>wpAny_pyIter_rangeiter st h
section
variable {X:Cx}{tg:Expr}
def O6 {d:xv} {g:St} {s:zn} {R:It->Hp->Prop} {a c:Int} {t:Tok} {f:Nat} (I:aa X d g H s) (i:-(2^62)<=a) (j:a<2^62) (h:-(2^62)<=c) (l:c<2^62) (q:R (qX a (c-a).toNat) H):wpAny (model X.prog X.w) X.A (pyIter (.ref s.heap.objs.size)) (Ro X d g tg R) E { s with heap:=s.heap.push { cls:=.type "range",data:=.fields #[.int a t,.int c u,.int 1 v] },toks:=f }:=by
 refine wpAny_pyIter_range (IsRange.new ..) (small_one i j h l) ?_
 have I1:aa X d g H { s with heap:=s.heap.push { cls:=.type "range",data:=.fields #[.int a t,.int c u,.int 1 v] },toks:=f }:=I.kept λb o e=>u6 _ e
 refine⟨(s.heap.push { cls:=.type "range",data:=.fields #[.int a t,.int c u,.int 1 v] }).objs.size,[(s.heap.push { cls:=.type "range",data:=.fields #[.int a t,.int c u,.int 1 v] }).objs.size],_,_,H,rfl,
  I1.kept (t':=f) λb o e=>u6 _ e,zfi _ a (c-a).toNat,?_,λb n=>?_,q⟩
 .have k:a+((0:Nat):Int)*1=a:=by simp
  have m:(((c-a).toNat:Nat):Int)-((0:Nat):Int)=Builtin.Range.rangeSize a c 1:=by rw[rangeSize_one];split <;> omega
  show IsRangeIter _ _ (a+((0:Nat):Int)*1) ((((c-a).toNat:Nat):Int)-((0:Nat):Int)) 1
  rw[k,m]
  exact j5 _ rfl
 .have e:b=(s.heap.push { cls:=.type "range",data:=.fields #[.int a t,.int c u,.int 1 v] }).objs.size:=by simpa using n
  subst e
  exact I1.fpOk (t7 _) (I1.hok.fresh (t7 _))
def RV (b:TA):TI:=λa H R=>b a H λc H1=>∃ j:Int,c=[.int j]/\-(2^62)<=j/\j<2^62/\R (qX 0 j.toNat) H1
def RP (b:TA):TI:=λa H R=>b a H λc H1=>∃ i j:Int,c=[.int i,.int j]/\(-(2^62)<=i/\i<2^62/\-(2^62)<=j/\j<2^62)/\R (qX i (j-i).toNat) H1
def QJ {f:TA} {p:Pos} (i:Gl X "range") (k:X.mg "range"=none) (n:PA X [a] f) (g:starEach [a] X.env=[(false,eval a X.env)]:=by rfl):PI X tg (.Call (.Name "range" p) [a] [] c) (RV f):=by
 intro b s m H R I h
 refine Call_ (Vi I i k boot_range (pY (aC (n c b s m H _ I h) λv x hh9=>?_) g rfl))
 obtain⟨w,H1,I1,u,d⟩:=hh9
 obtain⟨j,e,d,o,q⟩:=d
 subst e
 cases u with
 |cons r l =>
  cases l
  obtain⟨t,rfl⟩:=r
  exact call_range_1 (O6 I1 ∅ ∅ d o (by simpa using q))
def zhI {p d:Pos} (n:Gl X "range") (y:X.mg "range"=none) (o:PA X [a,b] l) (w:starEach [a,b] X.env=[(false,eval a X.env),(false,eval b X.env)]:=by rfl) (f:starEach [b] X.env=[(false,eval b X.env)]:=by rfl) :
 PI X tg (.Call (.Name "range" p) [a,b] [] d) (RP l):=by
 intro c s A H R I h
 refine Call_ (Vi I n y boot_range (pY (aC (o d c s A H _ I h) λD E hh9=>?_) (by rw[w,f]) (by rw[f];rfl)))
 obtain⟨C,H1,I1,v,k⟩:=hh9
 obtain⟨i,j,e,⟨k,u,x,z⟩,q⟩:=k
 subst e
 cases v with
 |cons r g =>
  cases g with
  |cons m g =>
   cases g
   obtain⟨t,rfl⟩:=r
   obtain⟨B,rfl⟩:=m
   exact call_range_2 (O6 I1 k u x z q)
def HB (e:TI)(g:TG)(f:TS):TS:=λD a H=>e a H λJ H1=>∃ W:Nat->Nat->St->Hp->Prop,(∃ m,W 0 m a H1)/\∀ i m a H,W i m a H ->
 (J.stop i H/\D.nx a H)\/(J.go i H/\∃ N:Ya,(∀ b H',N b H'->∃ d,d<m/\W (i+1) d b H')/\∀ x H',J.yld i H x H'->g x a H' λc H2=>f { D with nx:=N,ct:=N,bk:=D.nx } c H2)
def VY (a:xW)(h:Heap):xv:=a.filterMap λb=>(h.get? b).map λo=>(b,o)
def vY {h:Heap}(c:b∈a)(e:h.get? b≈o):(b,o)∈VY a h:=Bf.mpr ⟨b,c,by rw[e];rfl⟩
def zfY {h:Heap}{p:Addr × Obj}(f:p∈VY a h):p.1∈a/\h.get? p.1≈p.2:=by
 obtain⟨b,d,e⟩:=Bf.mp f
 cases q:h.get? b with
 |none=>rw[q]at e;cases e
 |some o =>
  rw[q]at e
  have c:(b,o)=p:=g0 e
  subst c
  exact⟨d,q⟩
def aa.pinned {s:zn}(I:aa X a c H s)(j:∀ b∈fp,dD X a H b)(h:∀ b∈fp,∃ o,s.heap.get? b≈o/\∀ v,o.data≠.cell v):aa X (a++VY fp s.heap) c H s :=
 I.pins_of λp i=>(lQ.mp i).elim (λz=>I.pin p (o8 _ z)) λz=>by
  obtain⟨g,e⟩:=zfY z
  obtain⟨m,l,k,_⟩:=j p.1 g
  obtain⟨o,f,d⟩:=h p.1 g
  rw[e]at f;cases f
  exact⟨e,m,l,k,d⟩
def aa.unpinned {pl:xv}(I:aa X (a++pl) b H s):aa X a b H s:=I.pins_of λp c=>I.pin p (o8 _ (Hr _ c))
def ut {t:vu}{g:TG}(G:PassesOwn (model X.prog X.w) X.A X.env X.xe)(hc:X.calm=true)(hi:PI X tg j wi)(hg:PG X tg g)(p:bF X t U)(hs:∀ x,foldedSetIterable j X.env x=pure x:=by intro _;rfl):PS X (.For tg j t [] Q) (HB wi g U):=by
 intro c s S H D I h
 refine wpAny_For (aC (hi c s S H _ I h) λv s1 h1=>aC h1 λa0 s2 h2=>?_) hs
 obtain⟨it,C,R,J,H2,e,I2,T,M,f2,W,⟨m0,w0⟩,turn⟩:=h2
 subst e
 -- what stays true of the iterator's objects through the loop
 have l:∀ {H':Hp},(∀ b∈C,H' b=none)->∀ b∈C,dD X c H' b:=λhn b p=>⟨hn b p,(f2 b p).2⟩
 refine codeAny_forLoop_any (λn V=>∃ i q H',aa X c q H' V/\R i V.heap/\(∀ b∈C,H' b=none)/\W i n q H') ?_ m0 ⟨0,S,H2,I2,M,λb p=>(f2 b p).1,w0⟩
 rintro n Y ⟨i,k,H3,I3,E,z,w3⟩
 rcases turn i n k H3 w3 with ⟨B,qn⟩|⟨go,N,hN,A⟩
 .refine pQ G (aC (T.done X rfl rfl rfl hc i c Y k H3 X.xe I3 (l z) E B) λr s4 hh9=>?_)
  obtain⟨P,I4⟩:=hh9
  subst P
  exact Af ⟨k,H3,I4,qn⟩
 .refine pQ G (aC (T.item X rfl rfl rfl hc i c Y k H3 X.xe I3 (l z) E go) λr s4 hh9=>?_)
  obtain⟨u,P,h4⟩:=hh9
  subst P
  refine pQ G (aC h4 λ_ Z hh9=>?_)
  obtain⟨x,H5,I5,r5,y5,y,O⟩:=hh9
  have I5':=I5.pinned (l O) (T.obj _ _ y)
  refine pQ G (aC (hg _ Z k H5 x u _ I5' r5 (A x H5 y5)) λ_ s6 hh9=>?_)
  obtain⟨K,H6,I6,q6⟩:=hh9
  refine pQ G (aC (p _ s6 K H6 _ I6 q6) λf L w=>?_)
  have again:∀ {a:St} {H7:Hp},aa X (c++VY C Z.heap) a H7 L->N a H7->∃ m,m<n/\∃ i q H',aa X c q H' L/\R i L.heap/\(∀ b∈C,H' b=none)/\W i m q H':=λ{a H7} I7 F=>by
   obtain⟨m',hm,w7⟩:=hN a H7 F
   refine⟨m',hm,i+1,a,H7,I7.unpinned,T.keep _ _ _ y λb p o e=>(I7.pin (b,o) (o8 _ (o8 _ (vY p e)))).1,λb p=>?_,w7⟩
   obtain⟨o,e,d⟩:=T.obj _ _ y b p
   exact(I7.pin (b,o) (o8 _ (o8 _ (vY p e)))).2.1
  cases f with
  |next=>obtain⟨a,H7,I7,F⟩:=w;exact again I7 F
  |cont=>obtain⟨a,H7,I7,F⟩:=w;exact again I7 F
  |brk=>obtain⟨a,H7,I7,w⟩:=w;exact⟨a,H7,I7.unpinned,w⟩
  |ret v=>obtain⟨x7,a,H7,I7,r7,w⟩:=w;exact⟨x7,a,H7,I7.unpinned,r7,w⟩
end
abbrev R2:=V->V->Hp->VK->Prop
def aP (X:Cx)(f:Value->Value->Sem Value)(r:R2):Prop :=
 ∀ (a:xv) (s:zn) (b:St) (H:Hp) (x y:V) (v u:Value) (Q:VK),aa X a b H s->y0 x v->y0 y u->r x y H Q ->
  wpAny (model X.prog X.w) X.A (f v u) (EP X a b Q) X.xe s
def Iz (X:Cx)(f:Value->Sem Value)(r:V->Hp->VK->Prop):Prop :=
 ∀ (a:xv) (s:zn) (b:St) (H:Hp) (x:V) (v:Value) (Q:VK),aa X a b H s->y0 x v->r x H Q ->
  wpAny (model X.prog X.w) X.A (f v) (EP X a b Q) X.xe s
def v5 (X:Cx)(f:Value)(r:lB):Prop :=
 ∀ (a:xv) (s:zn) (b:St) (H:Hp) (c:zy) (d:zz) (Q:VK),aa X a b H s->ym c d->r c H Q ->
  wpAny (model X.prog X.w) X.A (call f d) (EP X a b Q) X.xe s
def iW (r:R2)(b c:TE):TE:=λa H Q=>b a H λx H1=>c a H1 λy H2=>r x y H2 Q
def tUn (r:V->Hp->VK->Prop)(b:TE):TE:=λa H Q=>b a H λx H1=>r x H1 Q
def rI (C:Int->Int->Prop)(g:Int->Int->V):R2:=λx y H Q=>∃ i j,x=.int i/\y=.int j/\C i j/\Q (g i j) H
def fX (g:Int->Int->V):R2:=λx y H Q=>∃ i j,x=.int i/\y=.int j/\Q (g i j) H
def rU (g:Int->V):V->Hp->VK->Prop:=λx H Q=>∃ i,x=.int i/\Q (g i) H
section
variable {X:Cx}{a b c:Expr}{ta tb tc:TE}{pos:Pos}
def CK (j:PE X a ta)(q:PE X b tb){c:xv}{d:St}{R:V->V->Hp->Prop}(I:aa X c d H s)(h:ta d H λx H1=>tb d H1 λy H2=>R x y H2){f:Value->Value->Sem Value}(n:∀ v u i x y H2,aa X c d H2 i->y0 x v->y0 y u->R x y H2->wpAny (model X.prog X.w) X.A (f v u) Q X.xe i) :
 wpAny (model X.prog X.w) X.A (eval a X.env) (λv g=>wpAny (model X.prog X.w) X.A (eval b X.env) (λu e=>wpAny (model X.prog X.w) X.A (f v u) Q X.xe e) X.xe g) X.xe s:=by
 refine aC (j c s d H _ I h) λv p hh9=>?_
 obtain⟨x,H1,I1,l,o⟩:=hh9
 refine aC (q c p d H1 _ I1 o) λu i hh9=>?_
 obtain⟨y,H2,I2,m,k⟩:=hh9
 exact n v u i x y H2 I2 l m k
def oh {d:Operator}(e:aP X (binaryOp d) r)(j:PE X a ta)(l:PE X b tb):PE X (.BinOp a d b pos) (iW r ta tb):=by
 intro c s i H Q I h
 exact wpAny_BinOp (CK j l I h λv u f x y H2 I2 g k q=>e c f i H2 x y v u Q I2 g k q)
def J3 {d:UnaryOp}(j:Iz X (unaryOp d) r)(e:PE X a ta):PE X (.UnaryOp d a pos) (tUn r ta):=by
 intro b s c H Q I h
 exact UnaryOp_ (aC (e b s c H _ I h) λv i ⟨x,H1,I1,f,g⟩=>j b i c H1 x v Q I1 f g)
def HX {f:Value->Value->Sem Value}{C:Int->Int->Prop}{g:Int->Int->Int}
 (rule:∀ (i j:Int) (t u:Tok) (s:zn) (Q:yI) (E:yI),C i j->Q (.int (g i j) s.toks) { s with toks:=s.toks+1 }->wpAny (model X.prog X.w) X.A (f (.int i t) (.int j u)) Q E s) :
 aP X f (rI C λi j=>.int (g i j)):=by
 intro a s k H x y v u Q I c e h
 obtain⟨i,j,rfl,rfl,d,q⟩:=h
 obtain⟨t,rfl⟩:=c
 obtain⟨b,rfl⟩:=e
 exact rule i j t b s _ _ d ⟨.int (g i j),H,I.tok _,⟨_,rfl⟩,q⟩
def qG {f:Value->Value->Sem Value}{g:Int->Int->Int}
 (rule:∀ (i j:Int) (t u:Tok) (s:zn) (Q:yI) (E:yI),Q (.int (g i j) s.toks) { s with toks:=s.toks+1 }->wpAny (model X.prog X.w) X.A (f (.int i t) (.int j u)) Q E s) :
 aP X f (fX λi j=>.int (g i j)):=by
 intro a s e H x y v u Q I c d h
 obtain⟨i,j,rfl,rfl,q⟩:=h
 obtain⟨t,rfl⟩:=c
 obtain⟨b,rfl⟩:=d
 exact rule i j t b s _ _ ⟨.int (g i j),H,I.tok _,⟨_,rfl⟩,q⟩
def rF {f:Value->Value->Sem Value}{g:Int->Int->Bool}
 (rule:∀ (i j:Int) (t u:Tok) (s:zn) (Q:yI) (E:yI),Q (.bool (g i j)) s->wpAny (model X.prog X.w) X.A (f (.int i t) (.int j u)) Q E s) :
 aP X f (fX λi j=>.bl (g i j)):=by
 intro a s e H x y v u Q I c d h
 obtain⟨i,j,rfl,rfl,q⟩:=h
 obtain⟨t,rfl⟩:=c
 obtain⟨b,rfl⟩:=d
 exact rule i j t b s _ _ ⟨.bl (g i j),H,I,rfl,q⟩
def Cy (i j:Int):Prop:=(-(2^64)<i/\i<2^64)\/(-(2^64)<j/\j<2^64)
def Cy.ok (h:Cy i j):IntMulOk i j:=by
 rcases h with ⟨b,a⟩|⟨b,a⟩
 .exact .of_left (intBits_le_64 b a)
 .exact .of_right (intBits_le_64 b a)
def T9:aP X (binaryOp .Add) (fX λi j=>.int (i+j)):=qG λ_ _ _ _ _ _ _ q=>add_int q
def R8:aP X (binaryOp .Sub) (fX λi j=>.int (i-j)):=qG λ_ _ _ _ _ _ _ q=>sub_int q
def Ug:aP X (binaryOp .Mult) (rI Cy λi j=>.int (i*j)):=HX λ_ _ _ _ _ _ _ a q=>mul_int q a.ok
def zoC:aP X (binaryOp .Mod) (rI (λ_ j=>0<j) λi j=>.int (i%j)):=HX λi j _ _ _ _ _ a q=>by
 have b:(0:Int)<j:=a
 exact mod_int' ∅ (by rw[Int.fmod_eq_emod_of_nonneg i ∅];exact q)
def unI {f:Value->Sem Value}{g:Int->Int}
 (rule:∀ (i:Int) (t:Tok) (s:zn) (Q:yI) (E:yI),Q (.int (g i) s.toks) { s with toks:=s.toks+1 }->wpAny (model X.prog X.w) X.A (f (.int i t)) Q E s) :
 Iz X f (rU λi=>.int (g i)):=by
 intro a s c H x v Q I b h
 obtain⟨i,rfl,q⟩:=h
 obtain⟨t,rfl⟩:=b
 exact rule i t s _ _ ⟨.int (g i),H,I.tok _,⟨_,rfl⟩,q⟩
def Ke:Iz X (unaryOp .USub) (rU λi=>.int (-i)):=unI λ_ _ _ _ _ q=>neg_int q
end
def qw:V->V->Bool
 |.non,.non=>true|.non,.int _=>true|.int _,.non=>true|.non,.bl _=>true|.bl _,.non=>true|.non,.str _=>true|.str _,.non=>true
 |.int _,.int _=>true|.bl _,.bl _=>true|.str _,.str _=>true|.byt _,.byt _=>true
 |.int _,.str _=>true|.str _,.int _=>true|.bl _,.str _=>true|.str _,.bl _=>true
 |_,_=>false
def BJ:R2:=λx y H Q=>qw x y=true/\Q (.bl (decide (x=y))) H
def HS:R2:=λx y H Q=>qw x y=true/\Q (.bl (!decide (x=y))) H
def Ff:decide (V.int i=V.int j)=(i == j):=by
 rw[pG]
 simp
def J8:decide (V.bl i=V.bl j)=(i == j):=by
 rw[pG]
 simp
def Mg:decide (V.str i=V.str j)=(i == j):=by
 rw[pG]
 simp
def Oi {i j:Array UInt8}:decide (V.byt i=V.byt j)=(i.toList == j.toList):=by
 rw[pG]
 cases i
 cases j
 simp
section
variable {X:Cx}{a b c:Expr}{ta tb tc:TE}{pos:Pos}
def yl {a:xv}{b:St}{Q:VK}{k c:Bool}(I:aa X a b H s)(q:Q (.bl k) H)(e:k=c):EP X a b Q (.bool c) s:=by
 subst e
 exact⟨.bl k,H,I,rfl,q⟩
def RW:aP X (compareOp .Eq) BJ:=by
 intro e s f H x y v u Q I d a h
 obtain⟨c,q⟩:=h
 cases x with
 |non =>
  cases d
  cases y with
  |non=>cases a;exact PySem.EqNone.eq_none_none (yl I q (by simp))
  |bl j=>cases a;exact PySem.EqNone.eq_none_bool (yl I q (by simp))
  |int j=>obtain⟨b,rfl⟩:=a;exact PySem.EqNone.eq_none_int (yl I q (by simp))
  |str j=>obtain⟨b,rfl⟩:=a;exact PySem.EqNone.eq_none_str (yl I q (by simp))
  |_=>exact absurd (show false=true from c) u7
 |bl i =>
  cases d
  cases y with
  |non=>cases a;exact PySem.EqNone.eq_bool_none (yl I q (by simp))
  |bl j=>cases a;exact eq_bool (yl I q J8)
  |str j=>obtain⟨b,rfl⟩:=a;exact PySem.EqMixed.eq_bool_str (yl I q (by simp))
  |_=>exact absurd (show false=true from c) u7
 |int i =>
  obtain⟨t,rfl⟩:=d
  cases y with
  |non=>cases a;exact PySem.EqNone.eq_int_none (yl I q (by simp))
  |int j=>obtain⟨b,rfl⟩:=a;exact eq_int (yl I q Ff)
  |str j=>obtain⟨b,rfl⟩:=a;exact PySem.EqMixed.eq_int_str (yl I q (by simp))
  |_=>exact absurd (show false=true from c) u7
 |str i =>
  obtain⟨t,rfl⟩:=d
  cases y with
  |non=>cases a;exact PySem.EqNone.eq_str_none (yl I q (by simp))
  |bl j=>cases a;exact PySem.EqMixed.eq_str_bool (yl I q (by simp))
  |int j=>obtain⟨b,rfl⟩:=a;exact PySem.EqMixed.eq_str_int (yl I q (by simp))
  |str j=>obtain⟨b,rfl⟩:=a;exact eq_str (yl I q Mg)
  |_=>exact absurd (show false=true from c) u7
 |byt i =>
  obtain⟨t,rfl⟩:=d
  cases y with
  |byt j=>obtain⟨b,rfl⟩:=a;exact W.eq_bytes (yl I q Oi)
  |_=>exact absurd (show false=true from c) u7
 |_=>cases y <;> exact absurd (show false=true from c) u7
def lq:aP X (compareOp .NotEq) HS:=by
 intro e s f H x y v u Q I d a h
 obtain⟨c,q⟩:=h
 cases x with
 |non =>
  cases d
  cases y with
  |non=>cases a;exact PySem.EqNone.ne_none_none (yl I q (by simp))
  |bl j=>cases a;exact PySem.EqNone.ne_none_bool (yl I q (by simp))
  |int j=>obtain⟨b,rfl⟩:=a;exact PySem.EqNone.ne_none_int (yl I q (by simp))
  |str j=>obtain⟨b,rfl⟩:=a;exact PySem.EqNone.ne_none_str (yl I q (by simp))
  |_=>exact absurd (show false=true from c) u7
 |bl i =>
  cases d
  cases y with
  |non=>cases a;exact PySem.EqNone.ne_bool_none (yl I q (by simp))
  |bl j=>cases a;exact ne_bool (yl I q (bN not J8))
  |str j=>obtain⟨b,rfl⟩:=a;exact PySem.EqMixed.ne_bool_str (yl I q (by simp))
  |_=>exact absurd (show false=true from c) u7
 |int i =>
  obtain⟨t,rfl⟩:=d
  cases y with
  |non=>cases a;exact PySem.EqNone.ne_int_none (yl I q (by simp))
  |int j=>obtain⟨b,rfl⟩:=a;exact ne_int (yl I q (bN not Ff))
  |str j=>obtain⟨b,rfl⟩:=a;exact PySem.EqMixed.ne_int_str (yl I q (by simp))
  |_=>exact absurd (show false=true from c) u7
 |str i =>
  obtain⟨t,rfl⟩:=d
  cases y with
  |non=>cases a;exact PySem.EqNone.ne_str_none (yl I q (by simp))
  |bl j=>cases a;exact PySem.EqMixed.ne_str_bool (yl I q (by simp))
  |int j=>obtain⟨b,rfl⟩:=a;exact PySem.EqMixed.ne_str_int (yl I q (by simp))
  |str j=>obtain⟨b,rfl⟩:=a;exact ne_str (yl I q (bN not Mg))
  |_=>exact absurd (show false=true from c) u7
 |byt i =>
  obtain⟨t,rfl⟩:=d
  cases y with
  |byt j=>obtain⟨b,rfl⟩:=a;exact W.ne_bytes (yl I q (bN not Oi))
  |_=>exact absurd (show false=true from c) u7
 |_=>cases y <;> exact absurd (show false=true from c) u7
def JS:aP X (compareOp .Lt) (fX λi j=>.bl (decide (i<j))):=rF λ_ _ _ _ _ _ _ q=>lt_int q
def gJ:aP X (compareOp .LtE) (fX λi j=>.bl (decide (i<=j))):=rF λ_ _ _ _ _ _ _ q=>le_int q
def J1:aP X (compareOp .Gt) (fX λi j=>.bl (decide (j<i))):=rF λ_ _ _ _ _ _ _ q=>gt_int q
def J6:aP X (compareOp .GtE) (fX λi j=>.bl (decide (j<=i))):=rF λ_ _ _ _ _ _ _ q=>ge_int q
def zix:aP X (compareOp .In) (λx y H Q=>∃ i j,x=.str i/\y=.str j/\Q (.bl (!(Builtin.Str.occurrences j i 0 j.length 1).isEmpty)) H):=by
 intro a s e H x y v u Q I b c h
 obtain⟨i,j,rfl,rfl,q⟩:=h
 obtain⟨t,rfl⟩:=b
 obtain⟨d,rfl⟩:=c
 exact in_str (yl I q rfl)
def Ud:aP X (compareOp .Is) (λx y H Q=>y=.non/\Q (.bl (decide (x=.non))) H):=by
 intro b s d H x y v u Q I a c h
 obtain⟨rfl,q⟩:=h
 cases c
 refine is_none_gen (yl I q ?_)
 cases x <;> first
  | (cases a;rfl)
  | (obtain⟨t,rfl⟩:=a;rfl)
def znE:aP X (compareOp .IsNot) (λx y H Q=>y=.non/\Q (.bl (!decide (x=.non))) H):=by
 intro b s d H x y v u Q I a c h
 obtain⟨rfl,q⟩:=h
 cases c
 refine isnot_none_gen (yl I q ?_)
 cases x <;> first
  | (cases a;rfl)
  | (obtain⟨t,rfl⟩:=a;rfl)
def aP.or {f:Value->Value->Sem Value}{r b:R2}(h:aP X f r)(g:aP X f b):aP X f (λx y H Q=>r x y H Q\/b x y H Q):=by
 intro a s d H x y v u Q I c e q
 rcases q with q|q
 .exact h a s d H x y v u Q I c e q
 .exact g a s d H x y v u Q I c e q
def yx (b:Expr){a:CmpOp}(h:a≠.In:=by decide)(c:a≠.NotIn:=by decide):behindInMarks a b=false:=by
 have d:(a == CmpOp.In)=false:=by cases a <;> first|rfl|exact absurd rfl h
 have e:(a == CmpOp.NotIn)=false:=by cases a <;> first|rfl|exact absurd rfl c
 cases b <;> simp[behindInMarks,d,e]
def Ng {d:CmpOp}(f:aP X (compareOp d) r)(k:PE X a ta)(m:PE X b tb)(e:behindInMarks d b=false):PE X (.Compare a [d] [b] pos) (iW r ta tb):=by
 intro c s j H Q I h
 exact wpAny_Compare1 (CK k m I h λv u g x y H2 I2 i l q=>f c g j H2 x y v u Q I2 i l q) e
def jx (t:TE):TT:=λa H Q=>t a H λx H'=>∃ k,x=.bl k/\Q k H'
def Vg {g:CmpOp}(m:aP X (compareOp g) r)(o:PE X a ta)(A:PE X b tb)(j:behindInMarks g b=false):PT X (.Compare a [g] [b] pos) (jx (iW r ta tb)):=by
 intro d s f H Q I h
 refine wpAny_isTrue_Compare1 (aC (o d s f H _ I h) λv w ⟨x,H1,I1,q,t⟩=>aC (A d w f H1 _ I1 t) λu n ⟨y,H2,I2,B,p⟩ =>
  aC (m d n f H2 x y v u _ I2 q B p) λc C ⟨z,H3,I3,l,k,e,i⟩=>?_) j
 subst e
 cases l
 exact fV ⟨H3,I3,i⟩
def oN (r b:R2)(ta tb tc:TE):TE:=λa H Q=>ta a H λx H1=>tb a H1 λy H2=>r x y H2 λz H3=>∃ k,z=.bl k /\
 (if k then tc a H3 λc H4=>b y c H4 Q else Q (.bl false) H3)
def zla {g:CmpOp}(q:aP X (compareOp j) r)(l:aP X (compareOp g) m)(A:PE X a ta)(O:PE X b tb)(L:PE X c tc)(F:lastMarks [j,g] [b,c]=false:=by with_unfolding_all rfl):PE X (.Compare a [j,g] [b,c] pos) (oN r m ta tb tc):=by
 intro f s i H Q I h
 refine Compare_chain (aC (A f s i H _ I h) λv N ⟨x,H1,I1,B,M⟩=>chain_link (aC (O f N i H1 _ I1 M) λu G ⟨y,H2,I2,n,C⟩ =>
  aC (q f G i H2 x y v u _ I2 B n C) λd E ⟨z,H3,I3,p,k,e,o⟩=>?_)) F
 subst e
 cases p
 refine fV ?_
 cases k with
 |false=>exact ite_ff ⟨.bl false,H3,I3,rfl,o⟩
 |true=>exact ite_tt (chain_last (aC (L f E i H3 _ I3 o) λK t ⟨w,H4,I4,D,J⟩=>l f t i H4 y w u K Q I4 n D J))
def zjm {g:CmpOp}(q:aP X (compareOp j) r)(l:aP X (compareOp g) m)(A:PE X a ta)(U:PE X b tb)(P:PE X c tc)(K:lastMarks [j,g] [b,c]=false:=by with_unfolding_all rfl):PT X (.Compare a [j,g] [b,c] pos) (jx (oN r m ta tb tc)):=by
 intro f s i H Q I h
 refine isTrue_chain (aC (A f s i H _ I h) λv T ⟨x,H1,I1,B,S⟩=>test_link (aC (U f T i H1 _ I1 S) λu L ⟨y,H2,I2,n,C⟩ =>
  aC (q f L i H2 x y v u _ I2 B n C) λd J ⟨z,H3,I3,p,k,e,o⟩=>?_)) K
 subst e
 cases p
 refine fV ?_
 cases k with
 |false =>
  obtain⟨Y,D,R⟩:=o
  cases D
  exact ite_ff ⟨H3,I3,R⟩
 |true =>
  refine ite_tt (test_last (aC (P f J i H3 _ I3 o) λO t ⟨w,H4,I4,F,M⟩=>aC (l f t i H4 y w u O _ I4 n F M) λV Z hh9=>?_))
  obtain⟨z2,H5,I5,G,W,E,N⟩:=hh9
  subst E
  cases G
  exact fV ⟨H5,I5,N⟩
def XF:(sizeLine:Nat)<2^63:=by rw[fC];decide
def ze0:aP X (binaryOp .Add) (λx y H Q=>∃ i j,x=.str i/\y=.str j/\i.length+j.length<=sizeLine/\Q (.str (i++j)) H):=by
 intro a s g H x y v u Q I d e h
 obtain⟨i,j,rfl,rfl,c,q⟩:=h
 obtain⟨t,rfl⟩:=d
 obtain⟨b,rfl⟩:=e
 exact add_str (λb f=>⟨.str (i++j),H,I.tok _,⟨_,rfl⟩,q⟩) c
def Z9 {a:zz}(r:ym [x] a):∃ u,a=[u]/\y0 x u:=by
 cases r with
 |cons c b=>cases b;exact⟨_,rfl,c⟩
def kY {a:zz}(r:ym [x,y] a):∃ u b,a=[u,b]/\y0 x u/\y0 y b:=by
 cases r with
 |cons c f =>
  cases f with
  |cons d e=>cases e;exact⟨_,_,rfl,c,d⟩
def ziz (d:X.calm=true):v5 X (.builtin "max") (λb H Q=>∃ i j,b=[.int i,.int j]/\Q (.int (if j>i then j else i)) H):=by
 intro c s n H b g Q I r h
 obtain⟨i,j,rfl,q⟩:=h
 obtain⟨u,m,rfl,⟨t,rfl⟩,⟨l,rfl⟩⟩:=kY r
 refine max_two_ints (I.ok.hd d) λe f k=>⟨_,H,I.kept k,?_,q⟩
 by_cases a:j>i
 .rw[q4 a,q4 a];exact⟨_,rfl⟩
 .rw[j4 a,j4 a];exact⟨_,rfl⟩
def zhh (d:X.calm=true):v5 X (.builtin "min") (λb H Q=>∃ i j,b=[.int i,.int j]/\Q (.int (if j<i then j else i)) H):=by
 intro c s n H b g Q I r h
 obtain⟨i,j,rfl,q⟩:=h
 obtain⟨u,m,rfl,⟨t,rfl⟩,⟨l,rfl⟩⟩:=kY r
 refine min_two_ints (I.ok.hd d) λe f k=>⟨_,H,I.kept k,?_,q⟩
 by_cases a:j<i
 .rw[q4 a,q4 a];exact⟨_,rfl⟩
 .rw[j4 a,j4 a];exact⟨_,rfl⟩
def zgV:v5 X (.type "int") (λa H Q=>(∃ i,a=[.int i]/\Q (.int i) H)\/∃ k,a=[.bl k]/\Q (.int (if k then 1 else 0)) H):=by
 intro b s e H a d Q I r h
 rcases h with ⟨i,rfl,q⟩|⟨k,rfl,q⟩
 .obtain⟨u,rfl,t,rfl⟩:=Z9 r
  exact call_int_int ⟨.int i,H,I,⟨_,rfl⟩,q⟩
 .obtain⟨u,rfl,c⟩:=Z9 r
  cases c
  exact call_int_bool ⟨.int (if k then 1 else 0),H,I.tok _,⟨_,rfl⟩,q⟩
def xi:v5 X (.type "str") (λa H Q=>∃ i,a=[.int i]/\i.natAbs.log2<1920/\Q (.str (toString i)) H):=by
 intro b s d H a e Q I r h
 obtain⟨i,rfl,c,q⟩:=h
 obtain⟨u,rfl,t,rfl⟩:=Z9 r
 exact PySem.P.str_of_int c ⟨.str _,H,I.tok _,⟨_,rfl⟩,q⟩
end
structure jm (h:Heap) (x dx C:Addr) (mA:wm):Prop where
 obj:h.get? x≈(W.instObj C dx)
 ns:h.Ns1 dx mA
 ne:dx≠x
def QK {h:Heap}{d:Addr}{g:wm}(n:h.Ns1 d g):∃ f,h.get? d≈f/\∀ b,W.lookIn b f≈(g b):=by
 obtain⟨o,i,s,m,j,r,_,l⟩:=n
 refine⟨o,m,λb=>?_⟩
 have e:=l b
 unfold nsFind findBy at e
 rw[<-Array.find?_toList]at e
 unfold W.lookIn
 rw[j]
 dsimp only
 split
 .rename_i y q
  rw[q]at e
  exact bN some e
 .rename_i q
  rw[q]at e
  have a:i.toList.any (·.refKey)=false:=by
   rw[List.any_eq_false]
   intro y k
   obtain⟨z,t,c⟩:=r y (Array.mem_toList_iff.mp k)
   simp[DictEntry.refKey,c]
  have p:¬ i.toList.any (·.refKey)=true:=by rw[a];exact u7
  rw[j4 p]
  exact bN some e
def jm.look {d:wm}(I:jm h x c C d):∃ b,PySem.W.InstAt h x (W.instObj C c) C (some b)/\∀ a,W.lookIn a b≈(d a) :=
 let ⟨b,ho,hl⟩:=QK I.ns
 ⟨b,⟨I.obj,rfl,rfl,ho⟩,hl⟩
section
variable {prog:zM}{w:World}{A:zN}{E:yI}{s:zn}{K:zx}{x dx C f:Addr}{mA:wm}{name:Str}{v:Value}
def zmW {Q:yI}(X:K.In s.heap)(I:jm s.heap x dx C mA)(d:W.plainGet K C name=true)(f:W.hasDictIn K C=true)(c:W.findIn K (.ref C) name≈none)(e:mA name≈v)(b:W.handedIn v=true)(h:Q v { s with toks:=s.toks+1 }) :
 wpAny (model prog w) A (getAttr (.ref x) name a) Q E s:=by
 obtain⟨i,J,g⟩:=I.look
 exact W.get_value X J (Gu d).1 (W.findObj_own f c rfl (by rw[g,e])) b h
def zkT {pl:Sem Bool}{Q:Value × zz->Shared->Prop}(X:K.In s.heap)(I:jm s.heap x dx C mA)(a:W.plainGet K C name=true)
 (d:W.findIn K (.ref C) name≈(some (.ref f))) (e:W.isFn K (.ref f)=true) (b:mA name=none) (h:Q (.ref f,[.ref x]) s) :
 wpAny (model prog w) A (getMethod (.ref x) name pl) Q E s:=by
 obtain⟨c,J,g⟩:=I.look
 exact W.method_fn X J (Gu a).1 (Gu a).2 d (dz.mp e) (by show(W.lookIn name c).map (·.isSome)≈false;rw[g,b];rfl) h
def znK {ns:zG}{Q:Unit->Shared->Prop}(X:K.In s.heap)(I:jm s.heap x dx C mA)
 (k:W.findIn K (.ref C) "__setattr__"≈(some (.builtin "object.__setattr__"))) (n:W.plainOver K C=true) (t:W.takerIn K C name≈none) (u:W.hasDictIn K C=true)
 (hw:PySem.Within mA ns) (l:ns.length<=sizeLine)
 (h:∀ e,jm e x dx C (λy=>if y=name then some v else mA y)->Heap.SameBut dx s.heap e->Q () { s with heap:=e,toks:=s.toks+2 }) :
 wpAny (model prog w) A (setAttr (.ref x) name v) Q E s:=by
 obtain⟨z,J,B⟩:=I.look
 refine W.set_plain X J k (W.osa_open (s:={ s with toks:=s.toks+1 }) (r:=none) X J n t λb=>?_)
 obtain⟨F,p,g⟩:=W.any_some u
 have o:s.heap.get? x≈⟨.ref C,some dx,.plain,#[]⟩:=I.obj
 refine u5 (t5 (u5 (u5 (wpAny_loadPart o (u5 (PySem.W.Looks.here (s:={ s with toks:=s.toks+1 }) (Gv X p) ?_))))))
 rw[g]
 refine t5 (a:=some dx) (u5 (t5 (u5 ?_)))
 refine wpAny_nsSet1 (s:={ s with toks:=s.toks+1 }) I.ns λe c d=>?_
 obtain⟨D,m,q,i,j,f⟩:=c.count (PySem.Within.cons name v hw)
 refine u5 (wpAny_lookBehind i (by rw[j];exact pastItsLine_dict (r6 f (by rw[r4];omega))) ?_)
 exact t5 (h _ ⟨(d.2 _ (bw I.ne)).trans I.obj,c,I.ne⟩ d)
def zjd (X:K.In s.heap) (i:W.makesIn K C=true) (e:W.findIn K (.ref C) "__init__"≈(some (.ref f))) (j:W.typeIn K (.ref f)≈(.type "function")) (h:codeAny (model prog w) (A.under (.builtin "type.__call__" ⟨.ref C::c,b⟩)) (.call (.ref f) ⟨.ref (s.heap.objs.size+1)::c,b⟩) (PySem.W.InitBack (s.heap.objs.size+1) R)
 { s with heap:=(s.heap.push W.emptyDict).push (W.instObj C s.heap.objs.size) }) :
 codeAny (model prog w) A (.call (.ref C) ⟨c,b⟩) R s:=by
 obtain⟨k,g,d,t,os⟩:=s
 exact W.make_core (W.makes_of X i) (Aw X e) (λa=>W.bind_fn X a j) (.inl rfl) h
end
def bZ (f:Str)(v:V):List (Str × V)->List (Str × V)
 |[]=>[(f,v)]
 | (g,x)::r=>if g=f then (g,v)::r else (g,x)::bZ f v r
def Vj (f g:Str)(v:V):∀ c:List (Str × V),(bZ f v c).lookup g=if g=f then some v else c.lookup g
 |[]=>by
  show List.lookup g [(f,v)]=_
  by_cases h:g=f
  .have a:(g == f)=true:=dz.mpr h
   simp only[List.lookup,a,q4 h]
  .have a:(g == f)=false:=g8.mpr h
   simp only[List.lookup,a,j4 h]
 | (k,x)::r=>by
  have d:=Vj f g v r
  rw[show bZ f v ((k,x)::r)=(if k=f then (k,v)::r else (k,x)::bZ f v r)from rfl]
  by_cases b:k=f
  .rw[q4 b]
   by_cases h:g=k
   .have a:(g == k)=true:=dz.mpr h
    simp only[List.lookup,a,q4 (h.trans b)]
   .have a:(g == k)=false:=g8.mpr h
    simp only[List.lookup,a,j4 (λe:g=f=>h (e.trans b.symm))]
  .rw[j4 b]
   by_cases h:g=k
   .have a:(g == k)=true:=dz.mpr h
    simp only[List.lookup,a,j4 (λe:g=f=>b (h.symm.trans e))]
   .have a:(g == k)=false:=g8.mpr h
    simp only[List.lookup,a]
    exact d
def WU (f:Str)(v:V):∀ a:List (Str × V),f∈(bZ f v a).map (·.1)/\∀ g,g∈a.map (·.1)->g∈(bZ f v a).map (·.1)
 |[]=>⟨by simp[bZ],λg h=>by simp at h⟩
 | (k,x)::r=>by
  obtain⟨c,d⟩:=WU f v r
  rw[show bZ f v ((k,x)::r)=(if k=f then (k,v)::r else (k,x)::bZ f v r)from rfl]
  by_cases b:k=f
  .rw[q4 b]
   subst b
   exact⟨by simp,λg h=>by simpa using h⟩
  .rw[j4 b]
   refine⟨?_,λg h=>?_⟩
   .rw[o4]
    exact r0 _ c
   .rw[o4]at h ⊢
    rcases q5.mp h with e|e
    .exact q5.mpr (.inl e)
    .exact r0 _ (d g e)
def W1 (f:Str)(v:V):∀ a:List (Str × V),(bZ f v a).length<=a.length+1
 |[]=>by simp[bZ]
 | (k,x)::r=>by
  have c:=W1 f v r
  rw[show bZ f v ((k,x)::r)=(if k=f then (k,v)::r else (k,x)::bZ f v r)from rfl]
  by_cases b:k=f
  .rw[q4 b,r4,r4];omega
  .rw[j4 b,r4,r4];omega
def cV.some_of (r:cV (some v) o):∃ u,o≈u/\y0 v u:=by
 cases o with
 |none=>exact(show False from r).elim
 |some u=>exact⟨u,rfl,r⟩
def cV.none_of (r:cV none o):o=none:=by
 cases o with
 |none=>rfl
 |some u=>exact(show False from r).elim
def QH (r:y0 v u):W.handedIn u=true:=by
 cases v with
 |non=>cases (show u=Value.none from r);rfl
 |bl b=>cases (show u=Value.bool b from r);rfl
 |int i=>obtain⟨t,e⟩:=(show ∃ t,u=Value.int i t from r);cases e;rfl
 |str x=>obtain⟨t,e⟩:=(show ∃ t,u=Value.str x t from r);cases e;rfl
 |byt b=>obtain⟨t,e⟩:=(show ∃ t,u=Value.bytes b t from r);cases e;rfl
 |flt b=>obtain⟨t,e⟩:=(show ∃ t,u=Value.float b t from r);cases e;rfl
 |ref a=>cases (show u=Value.ref a from r);rfl
 |ty n=>cases (show u=Value.type n from r);rfl
section
variable {P:zM}{w:World}{H H':Hp}{h h':Heap}{a C dx:Addr}{fs fs':List (Str × V)}
def uK (c:bj P w H h)(e:H a≈(.ins C dx fs)):∃ b,jm h a dx C b/\(∀ f,cV (fs.lookup f) (b f))/\PySem.Within b (fs.map (·.1))/\fs.length<=1000/\H dx≈(.own a):=by
 obtain⟨d,z,g,i,b,n,r,q⟩:=(show yM P w H h a (.ins C dx fs)from c a _ e)
 exact⟨b,⟨i,n,g⟩,r,q,z,d⟩
end
structure cP (K:zx) (C:Addr):Prop where
 pg:W.plainGet K C Str.empty=true
 hd:W.hasDictIn K C=true
 po:W.plainOver K C=true
 sa:W.findIn K (.ref C) "__setattr__"≈(some (.builtin "object.__setattr__"))
def cP.get {K:zx}{C:Addr}(c:cP K C)(f:Str):W.plainGet K C f=true:=c.pg
def wX (K:zx)(C:Addr)(f:Str):Prop:=W.findIn K (.ref C) f≈none
def wX.taker {K:zx}{C:Addr}{f:Str}(n:wX K C f):W.takerIn K C f≈none:=by
 unfold W.takerIn
 rw[show W.findIn K (.ref C) f≈none from n]
 rfl
structure eO (K:zx) (C:Addr) (m:Str) (f:Addr):Prop where
 at_:W.findIn K (.ref C) m≈(some (.ref f))
 fn:W.isFn K (.ref f)=true
 kp:W.keepIn K (.ref f)=true
section
variable {X:Cx}{pins:xv}{σ:St}{H:Hp}{s:zn}{a C dx:Addr}{fs:List (Str × V)}{f:Str}{v:V}{A:zN}{E:yI}
def zfI {Q:yI}(I:aa X pins σ H s)(e:H a≈(.ins C dx fs))(c:cP X.K C)(n:wX X.K C f)(l:fs.lookup f≈v)(h:∀ u g,aa X pins σ H g->y0 v u->Q u g):wpAny (model X.prog X.w) A (getAttr (.ref a) f b) Q E s:=by
 obtain⟨j,O,r,_,_,_⟩:=uK I.hok e
 obtain⟨u,i,d⟩:=cV.some_of (v:=v) (o:=j f) (by rw[<-l];exact r f)
 exact zmW I.kIn O (c.get f) c.hd n i (QH d) (h u _ (I.tok _) d)
def VP {g:Addr}{pl:Sem Bool}{Q:Value × zz->Shared->Prop}(I:aa X pins σ H s)(e:H a≈(.ins C dx fs))(c:cP X.K C)(k:eO X.K C m g)(l:fs.lookup m=none)(h:Q (.ref g,[.ref a]) s):wpAny (model X.prog X.w) A (getMethod (.ref a) m pl) Q E s:=by
 obtain⟨b,O,r,_,_,_⟩:=uK I.hok e
 have d:b m=none:=cV.none_of (by rw[<-l];exact r m)
 exact zkT I.kIn O (c.get m) k.at_ k.fn d h
def zfm {Q:Unit->Shared->Prop}(I:aa X pins σ H s)(e:H a≈(.ins C dx fs))(c:cP X.K C)(n:wX X.K C f)(D:fs.length<1000)(w:y0 y u)(h:∀ j,aa X pins σ (aA H a (.ins C dx (bZ f y fs))) j->Q () j):wpAny (model X.prog X.w) A (setAttr (.ref a) f u) Q E s:=by
 obtain⟨i,O,r,k,_,d⟩:=uK I.hok e
 have p:(fs.map (·.1)).length<=sizeLine:=by rw[u8,fC];omega
 refine znK I.kIn O c.sa c.po n.taker c.hd k p λt O' v=>h _ ?_
 have m:∃ o,t.get? dx≈o:=let ⟨o,_,_,e',_⟩:=O'.ns;⟨o,e'⟩
 refine I.write (x:=a) (e:=dx) (by rw[e];exact True.intro) (.inr d) (λb q B z=>(v.2 b B).trans z) m ?_
 refine⟨by rw[zj O.ne];exact d,?_,O.ne,O'.obj,_,O'.ns,λg=>?_,λg l=>?_⟩
 .have:=W1 f y fs;omega
 .show cV ((bZ f y fs).lookup g) (if g=f then some u else i g)
  rw[Vj]
  by_cases q:g=f
  .rw[q4 q,q4 q];exact w
  .rw[j4 q,j4 q];exact r g
 .by_cases q:g=f
  .rw[q];exact(WU f y fs).1
  .refine(WU f y fs).2 g (k g λz=>l ?_)
   show(if g=f then some u else i g)=none
   rw[j4 q];exact z
def aa.made (I:aa X pins σ H s):aa X pins σ (aA (aA H s.heap.objs.size (.own (s.heap.objs.size+1))) (s.heap.objs.size+1) (.ins C s.heap.objs.size []))
 { s with heap:=(s.heap.push W.emptyDict).push (W.instObj C s.heap.objs.size) }:=by
 have c:(s.heap.push W.emptyDict).get? s.heap.objs.size≈W.emptyDict:=j5 s.heap rfl
 have f:((s.heap.push W.emptyDict).push (W.instObj C s.heap.objs.size)).get? (s.heap.objs.size+1)≈(W.instObj C s.heap.objs.size):=by
  have:=j5 (s.heap.push W.emptyDict) (o:=W.instObj C s.heap.objs.size) rfl
  rwa[p9]at this
 have i:(s.heap.push W.emptyDict).Ns s.heap.objs.size (λ_=>none):=⟨W.emptyDict,#[],_,c,rfl,(λe g=>absurd g (by simp)),λ_=>rfl⟩
 have I1:=I.laid (a:=s.heap.objs.size) (o:=.own (s.heap.objs.size+1)) (h':=s.heap.push W.emptyDict) (t':=s.toks) (λb u q=>u6 _ q) (t7 _) ⟨_,c⟩
 refine I1.laid (a:=s.heap.objs.size+1) (o:=.ins C s.heap.objs.size []) (t':=s.toks) (λb u q=>u6 _ q) (Nat.le_of_eq (p9 _ _)) ?_
 have d:s.heap.objs.size≠s.heap.objs.size+1:=j9 (pI _)
 refine⟨by rw[zj d,zl],cX _,d,f,λ_=>none,(Heap.Ns1.of_empty i).at λo q=>u6 _ q,λ_=>True.intro,λy h=>absurd rfl h⟩
def Mt {a:zM}{w:World}{f:Str}{s:zn}(d:attributeBase e f env (eval e env)=eval e env)(h:wpAny (model a w) A (eval e env) (λo b=>wpAny (model a w) A (getAttr o f true) Q E b) E s):wpAny (model a w) A (eval (.Attribute e f c) env) Q E s :=
 Attribute_any_ h (by rw[arm_eval_Attribute,d])
end
def HD (K:zx)(d:TE)(f:Str):TE:=λc H Q=>d c H λx H1=>∃ a C e b v,x=.ref a/\H1 a≈(.ins C e b)/\cP K C/\wX K C f/\b.lookup f≈v/\Q v H1
def rM (K:zx)(e g:TE)(f:Str):TS:=λD b H=>g b H λy H1=>e b H1 λx H2=>∃ a C d c,x=.ref a/\H2 a≈(.ins C d c)/\cP K C/\wX K C f/\c.length<1000 /\
 D.nx b (aA H2 a (.ins C d (bZ f y c)))
section
variable {X:Cx}{o e value:Expr}{f:Str}{pos pos' tpos:Pos}{ta tv:TE}
def oV (j:PE X e ta)(m:attributeBase e f X.env (eval e X.env)=eval e X.env):PE X (.Attribute e f pos) (HD X.K ta f):=by
 intro b s g H Q I h
 refine Mt m (aC (j b s g H _ I h) λu w hh9=>?_)
 obtain⟨x,H1,I1,d,a,C,p,o,v,ex,i,c,n,l,q⟩:=hh9
 subst ex
 obtain rfl:u=Value.ref a:=d
 exact zfI I1 i c n l λr t I2 k=>⟨v,H1,I2,k,q⟩
def pA (k:PE X o ta)(g:PE X value tv)(e:swapsWith value (some (.Attribute o f pos')) pos.line X.env=pure false):PS X (.Assign [.Attribute o f pos'] value pos) (rM X.K ta tv f):=by
 intro b s d H D I h
 refine Q8 (aC (g b s d H _ I h) λu p ⟨y,H1,I1,r,q⟩=>aC (k b p d H1 _ I1 q) λt A hh9=>?_) e
 obtain⟨x,H2,I2,i,a,C,z,v,ex,j,c,n,l,m⟩:=hh9
 subst ex
 obtain rfl:t=Value.ref a:=i
 exact zfm I2 j c n l r λw I3=>⟨d,_,I3,m⟩
end
section
variable {X:Cx}{pins:xv}{σ:St}{H:Hp}{s:zn}{A:zN}{E:yI}{Q:yI}{c:Value}{b:Bool}
inductive dF (K:zx) (H:Hp):V->Value->Prop where
 | non:dF K H .non (.type "NoneType")
 | bl (x:Bool):dF K H (.bl x) (.type "bool")
 | int (i:Int):dF K H (.int i) (.type "int")
 | str (x:Str):dF K H (.str x) (.type "str")
 | flt (x:UInt64):dF K H (.flt x) (.type "float")
 | lst {a:Addr} {xs:zy} (e:H a≈(.lst xs)):dF K H (.ref a) (.type "list")
 | frz {a:Addr} {o:Obj} {xs:zy} (e:H a≈(.frz o (.lst xs))):dF K H (.ref a) (.type "list")
 | tup {a:Addr} {xs:zy} (e:H a≈(.tup xs)):dF K H (.ref a) (.type "tuple")
 | dK {a:Addr} {kvs:List (aD × V)} (e:H a≈(.dK kvs)):dF K H (.ref a) (.type "dict")
 | dT {a:Addr} {kvs:gO} (e:H a≈(.dT kvs)):dF K H (.ref a) (.type "dict")
 | ins {a C dx:Addr} {fs:List (Str × V)} (e:H a≈(.ins C dx fs)) (cl:cP K C) (ha:W.findIn K (.ref C) "__class__"≈(some (.builtin "object.__class__")))
  (hn:W.specialIn K (.builtin "object.__class__") "__get__"≈(some (.builtin "getset_descriptor.__get__"))) (htk:W.takesIn K (.builtin "object.__class__")≈true)
  (hm:W.mroIn K C (.type "object")≈true):dF K H (.ref a) (.ref C)
def zf2 {t:Value}(I:aa X pins σ H s)(f:y0 x u)(ty:dF X.K H x t)(e:W.kitOne X.K t c≈b)(h:∀ v,Q (.bool b) { s with toks:=v }) :
 wpAny (model X.prog X.w) A (call (.builtin "isinstance") [u,c]) Q E s:=by
 cases ty with
 |non=>cases (show u=Value.none from f);exact l8 W.kitx_none I.kIn True.intro e (λz=>nomatch z) h
 |bl y=>cases (show u=Value.bool y from f);exact l8 W.kitx_bool I.kIn True.intro e (λz=>nomatch z) h
 |int i=>obtain⟨t,q⟩:=(show ∃ t,u=Value.int i t from f);cases q;exact l8 W.kitx_int I.kIn True.intro e (λz=>nomatch z) h
 |str y=>obtain⟨t,q⟩:=(show ∃ t,u=Value.str y t from f);cases q;exact l8 W.kitx_str I.kIn True.intro e (λz=>nomatch z) h
 |flt y=>obtain⟨t,q⟩:=(show ∃ t,u=Value.float y t from f);cases q;exact l8 W.kitx_float I.kIn True.intro e (λz=>nomatch z) h
 | @lst a k d =>
  cases (show u=Value.ref a from f)
  obtain⟨_,_,n,_,g⟩:=(show yM X.prog X.w H s.heap a (.lst k)from I.hok a _ d)
  exact l8 W.kitx_list I.kIn ⟨_,g,rfl⟩ e (λz=>nomatch z) h
 | @frz a w k d =>
  cases (show u=Value.ref a from f)
  obtain⟨_,_,_,n,_,g⟩:=(show yM X.prog X.w H s.heap a (.frz w (.lst k))from I.hok a _ d)
  exact l8 W.kitx_list I.kIn ⟨_,g,rfl⟩ e (λz=>nomatch z) h
 | @tup a k d =>
  cases (show u=Value.ref a from f)
  obtain⟨_,_,_,p⟩:=(show yM X.prog X.w H s.heap a (.tup k)from I.hok a _ d)
  obtain⟨o,g,l,_⟩:=p
  exact l8 W.kitx_tuple I.kIn ⟨o,g,l⟩ e (λz=>nomatch z) h
 | @dK a j d =>
  cases (show u=Value.ref a from f)
  obtain⟨_,_,N,_,p⟩:=(show yM X.prog X.w H s.heap a (.dK j)from I.hok a _ d)
  obtain⟨o,D,F,g,l,_⟩:=p
  exact l8 Ba I.kIn ⟨o,g,l.1⟩ e (λz=>nomatch z) h
 | @dT a j d =>
  cases (show u=Value.ref a from f)
  obtain⟨_,_,k,_,o,D,F,g,l,_⟩:=(show yM X.prog X.w H s.heap a (.dT j)from I.hok a _ d)
  exact l8 Ba I.kIn ⟨o,g,l.1⟩ e (λz=>nomatch z) h
 | @ins a C M L d r B K m G =>
  cases (show u=Value.ref a from f)
  obtain⟨P,O,_⟩:=uK I.hok d
  obtain⟨R,J,_⟩:=O.look
  exact l8 (W.kitx_own (r.get _) r.hd B K m G) I.kIn J e (λz=>nomatch z) h
end
structure xc (k:Nat) (A:zN):Prop where
 hd:A.handled=none
 dp:A.depth+3*k+5<recursionLimit
 un:A.units+16*k+200<cLine
def xc.mono {j k:Nat}(r:xc k A)(h:j<=k):xc j A:=⟨r.hd,by have:=r.dp;omega,by have:=r.un;omega⟩
def xc.deeper {k:Nat}{A:zN}(r:xc (k+1) A)(env:Env):xc k (A.deeper env) :=
 ⟨r.hd,by have:=r.dp;show A.depth+1+3*k+5<_;omega,by have:=r.un;show A.units+3+16*k+200<_;omega⟩
def zfr {A:zN}:(A.under (.builtin "type.__call__" ⟨.ref C::a,b⟩)).depth=A.depth+1:=by
 first|rfl|simp[Around.under,Code.weight,Code.isCreation,Code.isGuard,Code.isCaller,Code.frames,Code.isFrame,guardIds]
def zfJ {A:zN}:(A.under (.builtin "type.__call__" ⟨.ref C::a,b⟩)).units=A.units+1:=by
 first|rfl|simp[Around.under,Code.cUnits,Code.frames,Code.isFrame]
def xc.make {k:Nat} {A:zN} (r:xc (k+1) A) (C:Addr) (a:zz) (b:List (Str × Value)):xc k (A.under (.builtin "type.__call__" ⟨.ref C::a,b⟩)) :=
 ⟨r.hd,by have:=r.dp;rw[zfr];omega,by have:=r.un;rw[zfJ];omega⟩
def xc.depth {k:Nat}{A:zN}(r:xc k A):A.depth<recursionLimit:=by have:=r.dp;omega
def xc.units {k:Nat}{A:zN}(r:xc k A):A.units+64<cLine:=by have:=r.un;omega
def xc.units0 {k:Nat}{A:zN}(r:xc k A):A.units<cLine:=by have:=r.un;omega
def eN:TA:=λ_ H Q=>Q [] H
def XZ (c:TE)(d:TA):TA:=λa H Q=>c a H λx H1=>d a H1 λb H2=>Q (x::b) H2
section
variable {X:Cx}{e:Expr}{es:yO}{te:TE}{t:TA}{pos:Pos}
def z3:PA X [] eN:=λ_ _ _ _ H Q I h=>Calls.spliced_nil ⟨[],H,I,.nil,h⟩
def zo (f:PE X e te)(i:PA X es t)(c:starEach (e::es) X.env=(false,eval e X.env)::starEach es X.env:=by rfl):PA X (e::es) (XZ te t):=by
 intro pos a s b H Q I h
 rw[c]
 show wpAny _ _ (spliced ((false,eval e X.env)::backTo pos (starEach es X.env))) _ _ s
 refine Gs (aC (f a s b H _ I h) λu l hh9=>?_)
 obtain⟨x,H1,I1,j,k⟩:=hh9
 exact aC (i pos a l b H1 _ I1 k) λn o ⟨d,H2,I2,m,g⟩=>⟨x::d,H2,I2,.cons j m,g⟩
def qj (t:TA):TE:=λb H Q=>t b H λa H1=>a.length<=sizeLine/\∀ p,H1 p=none->Q (.ref p) (aA H1 p (.tup a))
def rT (t:TA):TE:=λb H Q=>t b H λa H1=>a.length<=sizeLine/\∀ p,H1 p=none->Q (.ref p) (aA H1 p (.lst a))
def lJ {x1}(h:PA X es t):PE X (.Tuple es x1 pos) (qj t):=by
 intro a s j H Q I i
 refine wpAny_Tuple_spliced (aC (h pos a s j H _ I i) λf c ⟨d,H1,I1,r,z,q⟩=>⟨by rw[<-r.length];exact z,?_⟩)
 have g:H1 c.heap.objs.size=none:=I1.hok.fresh (t7 _)
 refine⟨.ref c.heap.objs.size,aA H1 c.heap.objs.size (.tup d),I1.laid (t':=c.toks) (λb u e=>u6 _ e) (t7 _) ?_,rfl,q _ g⟩
 exact⟨z,f,r,⟨_,j5 _ rfl,rfl,_,rfl⟩⟩
def ZV (h:PA X es t):PE X (.List es pos) (rT t):=by
 intro a s j H Q I i
 refine wpAny_List_spliced (aC (h pos a s j H _ I i) λf c ⟨d,H1,I1,r,z,q⟩=>⟨by rw[<-r.length];exact z,?_⟩)
 have g:H1 c.heap.objs.size=none:=I1.hok.fresh (t7 _)
 refine⟨.ref c.heap.objs.size,aA H1 c.heap.objs.size (.lst d),I1.laid (t':=c.toks) (λb u e=>u6 _ e) (t7 _) ?_,rfl,q _ g⟩
 exact⟨z,f,0,r,j5 _ rfl⟩
end
abbrev Sp:=zy->Hp->VK->XK->Prop
abbrev cQ:=List Env->Hp->Shared->XK->Value->Shared->Prop
structure gw (P:zM) (w:World) (K:zx) (mg:wm) (base:Heap) (A:zN) (outer:List Env) (s:zn) (H:Hp):Prop where
 frames:A.frames≈outer
 mod:Mod K mg base
 bs:∀ b o,base.get? b≈o->s.heap.get? b≈o/\H b=none
 bsz:base.objs.size<=s.heap.objs.size
 funs:s.heap.FunFrames base outer
 frf:∀ b∈bH outer,H b=none
 hok:bj P w H s.heap
 bare:AllBare s.gens
def CE (outer:List Env)(P:zM)(w:World)(H:Hp)(s:zn)(Q:VK)(u:Value)(a:zn):Prop :=
 ∃ v H',a.os=s.os/\AllBare a.gens/\Un (bH outer) [] H H' s.heap a.heap/\bj P w H' a.heap/\y0 v u/\Q v H'
def CR (CX:cQ)(outer:List Env)(P:zM)(w:World)(H:Hp)(s:zn)(Q:VK)(E:XK)(r:Result)(a:zn):Prop :=
 match r with
 |.ok (.ret u)=>CE outer P w H s Q u a
 |.ok _=>False
 |.error e=>CX outer H s E e a
structure xt (P:zM) (w:World) (K:zx) (mg:wm) (base:Heap) (CX:cQ) (k:Nat) (f:Addr) (fd:wL) (ps:zG) (sp:Sp):Prop where
 len:∀ vs H Q E,sp vs H Q E->vs.length=ps.length
 run:∀ (A:zN) (outer:List Env) (s:zn) (H:Hp) (args:Args) (us:zz) (vs:zy) (Q:VK) (E:XK),xc k A->gw P w K mg base A outer s H->BindsTo s fd args (ps.zip us)->ym vs us->sp vs H Q E ->
  codeAny (model P w) A (.call (.ref f) args) (CR CX outer P w H s Q E) s
def xt.mono {P:zM}{w:World}{K:zx}{d:wm}{a:Heap}{CX:cQ}{j k:Nat}{f:Addr}{c:wL}{ps:zG}{b:Sp}(F:xt P w K d a CX j f c ps b)(h:j<=k) :
 xt P w K d a CX k f c ps b:=⟨F.len,λA outer s H args g e Q E i=>F.run A outer s H args g e Q E (i.mono h)⟩
def xt.imp {P:zM}{w:World}{K:zx}{g:wm}{a:Heap}{CX:cQ}{k:Nat}{f:Addr}{e:wL}{i:zG}{d c:Sp}(F:xt P w K g a CX k f e i d)
 (h:∀ b H Q E,c b H Q E->d b H Q E):xt P w K g a CX k f e i c :=
 ⟨λb H Q E q=>F.len b H Q E (h _ _ _ _ q),λA outer s H args l b Q E n o p m j=>F.run A outer s H args l b Q E n o p m (h _ _ _ _ j)⟩
def gw.make {P:zM}{w:World}{K:zx}{b:wm}{a:Heap}{A:zN}{outer:List Env}{s:zn}{H:Hp}(e:gw P w K b a A outer s H)(C:Addr)(d:zz)(c:List (Str × Value)) :
 gw P w K b a (A.under (.builtin "type.__call__" ⟨.ref C::d,c⟩)) outer s H:=⟨by first | exact e.frames | (simpa [Around.under,Code.envs,Code.isFrame,pushEnvs]using e.frames),e.mod,e.bs,e.bsz,e.funs,e.frf,e.hok,e.bare⟩
section
variable {X:Cx}{pins:xv}{σ:St}{H:Hp}{s s':zn}
def aa.env0 (I:aa X pins σ H s):gw X.prog X.w X.K X.mg X.base X.A X.stack s H :=
 ⟨I.ok.frames,I.ok.mod,I.bs,r6 I.ok.bsz I.sz,I.stack,I.stkFree,I.hok,I.bare⟩
def aa.after (I:aa X pins σ H s)(h:CE X.stack X.prog X.w H s Q u s'):EP X pins σ Q u s':=by
 obtain⟨v,H',os,a,f,c,r,q⟩:=h
 obtain⟨i,g,d,t,e⟩:=s'
 obtain rfl:e=s.os:=os
 exact⟨v,H',I.call (h':=i) (g':=g) (d':=d) (t':=t) (ch:=[]) f c a (λb z=>absurd z (by simp)),r,q⟩
end
def Ds (c:Sp)(a:zy)(E:XK)(t:TA):TE:=λb H Q=>t b H λd H1=>c (d++a) H1 Q E
def Dc (C:Addr)(m:Str)(e:Sp)(b:zy)(E:XK)(h:TE)(t:TA):TE:=λd H Q=>h d H λx H1=>∃ a f c,x=.ref a/\H1 a≈(.ins C f c)/\c.lookup m=none /\
 t d H1 λg H2=>e (x::(g++b)) H2 Q E
def Ti (C:Addr)(c:Sp)(b:zy)(E:XK)(t:TA):TE:=λe H Q=>t e H λd H1=>∀ x a,H1 x=none->H1 a=none->a≠x ->
 c (.ref x::(d++b)) (aA (aA H1 a (.own x)) x (.ins C a [])) (λv H2=>v=.non/\Q (.ref x) H2) E
def xx (K:zx)(d:wL)(b:zG)(c:zz):Prop :=
 ∀ (s:zn) (a:zz),K.In s.heap->(a++c).length=b.length->BindsTo s d ⟨a,[]⟩ (b.zip (a++c))
def xx.all {K:zx}{c:wL}{b:zG}(h:∀ a:zz,a.length=b.length->bindArgs c ⟨a,[]⟩=pure (b.zip a)):xx K c b []:=λs a _ d=>by
 rw[r9]at d ⊢
 exact .of_eq (h a d)
def wJ (CX:cQ)(X:Cx)(E:XK):Prop:=∀ (a:xv) (c:St) (H:Hp) (s:zn) (e:Value) (b:zn),aa X a c H s->CX X.stack H s E e b->X.xe e b
section
variable {X:Cx}{CX:cQ}{k:Nat}{f C:Addr}{fd:wL}{ps:zG}{sp:Sp}{dvs:zy}{ds:zz}{E:XK}{x m:Str}{p pos apos:Pos}{e o:Expr}{es:yO}{ta:TE}{t:TA}
def Du (F:xt X.prog X.w X.K X.mg X.base CX k f fd ps sp)(m:xc k X.A)(n:xx X.K fd ps ds)(g:ym dvs ds)(i:wJ CX X E)(I:aa X a c H s)(r:ym vs us)(h:sp (vs++dvs) H Q E):wpAny (model X.prog X.w) X.A (call (.ref f) us) (EP X a c Q) X.xe s:=by
 have d:ym (vs++dvs) (us++ds):=r.append g
 have j:(us++ds).length=ps.length:=by rw[<-d.length];exact F.len _ _ _ _ h
 refine gR (jB (F.run X.A X.stack s H ⟨us,[]⟩ (us++ds) (vs++dvs) Q E m I.env0 (n s us I.kIn j) d h) λr o b=>?_)
 cases r with
 |error e=>exact i a c H s e o I b
 |ok l =>
  cases l with
  |ret u=>exact I.after b
  |next=>exact False.elim b
  |brk=>exact False.elim b
  |cont=>exact False.elim b
def uL (F:xt X.prog X.w X.K X.mg X.base CX k f fd ps sp)(o:xc k X.A)(d:Gl X x)(i:X.mg x≈(.ref f))(n:W.keepIn X.K (.ref f)=true)(v:xx X.K fd ps ds)(g:ym dvs ds)(j:wJ CX X E)
 (m:PA X (e::es) t) (c:(x == ("__debug__":Str))=false:=by decide) (u:starEach (e::es) X.env=(false,eval e X.env)::starEach es X.env:=by rfl) (b:(backTo pos (starEach es X.env)).any (·.1)=false:=by rfl) :
 PE X (.Call (.Name x p) (e::es) [] pos) (Ds sp dvs E t):=by
 intro a s l H Q I h
 refine mq (vS I d i ?_ c)
 refine Bd (h₀:=X.base) I.ok.mod.kin n (aC (m pos a s l H _ I h) λw z ⟨y,H1,I1,r,q⟩=>⟨I1.kIn,?_⟩) u b
 exact Du F o v g j I1 r q
theorem uJ {pl:Sem Bool}(J:PE X o ta)(c:cP X.K C)(j:eO X.K C m f)(F:xt X.prog X.w X.K X.mg X.base CX k f fd ps sp)(G:xc k X.A)(L:xx X.K fd ps ds)(v:ym dvs ds)(B:wJ CX X E)(y:PA X (e::es) t)
 (d:starEach (e::es) X.env=(false,eval e X.env)::starEach es X.env:=by rfl) (g:(backTo pos (starEach es X.env)).any (·.1)=false:=by rfl)
 (A:eval (.Call (.Attribute o m apos) (e::es) [] pos) X.env=(do
  let ov<-eval o X.env
  standAt apos.atName
  let (f,first)<-holding [ov] (getMethod ov m pl)
  callWith pos f first (backTo pos (starEach (e::es) X.env)) (backToKw pos (keywordEach [] X.env))):=by rfl) :
 PE X (.Call (.Attribute o m apos) (e::es) [] pos) (Dc C m sp dvs E ta t):=by
 intro b s p H Q I h
 refine W.methodCall_KW (pl:=pl) (aC (J b s p H _ I h) λu K hh9=>?_) A
 obtain⟨x,H1,I1,D,a,N,M,ex,w,l,q⟩:=hh9
 subst ex
 obtain rfl:u=Value.ref a:=D
 refine VP I1 w c j l ?_
 refine Bd (first:=[.ref a]) (h₀:=X.base) I.ok.mod.kin j.kp (aC (y pos b K p H1 _ I1 q) λn O ⟨i,H2,I2,r,z⟩=>⟨I2.kIn,?_⟩) d g
 exact Du (us:=.ref a::n) (vs:=.ref a::i) F G L v B I2 (.cons rfl r) z
theorem Qc {pl:Sem Bool}(r:PE X o ta)(c:cP X.K C)(d:eO X.K C m f)(F:xt X.prog X.w X.K X.mg X.base CX k f fd ps sp)(p:xc k X.A)(t:xx X.K fd ps ds)(e:ym dvs ds)(g:wJ CX X E)
 (v:eval (.Call (.Attribute o m apos) [] [] pos) X.env=(do
  let ov<-eval o X.env
  standAt apos.atName
  let (f,first)<-holding [ov] (getMethod ov m pl)
  callWith pos f first (backTo pos (starEach [] X.env)) (backToKw pos (keywordEach [] X.env))):=by rfl) :
 PE X (.Call (.Attribute o m apos) [] [] pos) (Dc C m sp dvs E ta eN):=by
 intro b s j H Q I h
 refine W.methodCall_KW (pl:=pl) (aC (r b s j H _ I h) λu z hh9=>?_) v
 obtain⟨x,H1,I1,i,a,y,w,ex,n,l,q⟩:=hh9
 subst ex
 obtain rfl:u=Value.ref a:=i
 refine VP I1 n c d l ?_
 exact W.callWith_K0 (first:=[.ref a]) I1.kIn d.kp (Du (us:=[.ref a]) (vs:=[.ref a]) F p t e g I1 (.cons rfl .nil) q)
structure Mk (K:zx) (C f:Addr):Prop where
 makes:W.makesIn K C=true
 init:W.findIn K (.ref C) "__init__"≈(some (.ref f))
 fn:W.isFn K (.ref f)=true
 kp:W.keepIn K (.ref C)=true
def zkm {g:St}{H:Hp}{Q:VK}{d:zy}(M:Mk X.K C f)(F:xt X.prog X.w X.K X.mg X.base CX k f fd ps sp)(w:xc (k+1) X.A)(y:xx X.K fd ps ds)(l:ym dvs ds)(o:wJ CX X E)(I:aa X b g H s)(r:ym d us)(h:∀ x c,H x=none->H c=none->c≠x->sp (.ref x::(d++dvs)) (aA (aA H c (.own x)) x (.ins C c [])) (λv H2=>v=.non/\Q (.ref x) H2) E) :
 wpAny (model X.prog X.w) X.A (call (.ref C) us) (EP X b g Q) X.xe s:=by
 have i:=h (s.heap.objs.size+1) s.heap.objs.size (I.hok.fresh (gU _)) (I.hok.fresh (t7 _)) (j9 (pI _))
 have I2:=aa.made (C:=C) I
 have j:ym (V.ref (s.heap.objs.size+1)::(d++dvs)) (Value.ref (s.heap.objs.size+1)::(us++ds)):=.cons rfl (r.append l)
 have q:(Value.ref (s.heap.objs.size+1)::us++ds).length=ps.length:=by
  have e:=j.length
  rw[F.len _ _ _ _ i]at e
  exact e.symm
 refine gR (zjd (f:=f) I.kIn M.makes M.init (dz.mp M.fn) (jB (F.run _ X.stack _ _ ⟨Value.ref (s.heap.objs.size+1)::us,[]⟩ (Value.ref (s.heap.objs.size+1)::(us++ds)) _ _ E (w.make C us [])
  (I2.env0.make C us []) (y _ (Value.ref (s.heap.objs.size+1)::us) I2.kIn q) j i) λr z a=>?_))
 cases r with
 |error e=>exact o b g _ _ e z I2 a
 |ok t =>
  cases t with
  |ret u =>
   obtain⟨v,H',I3,m,p,n⟩:=I2.after a
   subst p
   exact⟨m,⟨V.ref (s.heap.objs.size+1),H',I3,rfl,n⟩⟩
  |next=>exact False.elim a
  |brk=>exact False.elim a
  |cont=>exact False.elim a
def zkf (M:Mk X.K C f)(F:xt X.prog X.w X.K X.mg X.base CX k f fd ps sp)(e:xc (k+1) X.A)(c:Gl X x)(g:X.mg x≈(.ref C))(i:xx X.K fd ps ds)(d:ym dvs ds)(j:wJ CX X E)
 (a:(x == ("__debug__":Str))=false:=by decide):PE X (.Call (.Name x p) [] [] pos) (Ti C sp dvs E eN):=by
 intro b s l H Q I h
 refine mq (vS I c g ?_ a)
 exact W.callWith_K0 I.kIn M.kp (zkm (us:=[]) M F e i d j I .nil h)
end
structure yz (N P:zG) (sc:Scope):Prop where
 kind:sc.kind=.function
 co:sc.isCoroutine=false
 gen:sc.isGenerator=false
 nd:N.Nodup
 pre:N.take P.length=P
 par:∀ x∈P,sc.names.lookup x≈.local\/sc.names.lookup x≈.cell
 nofree:∀ y∈sc.names,y.2≠.free
def Qn:∀ {a:List (Str × Value)} {m:wm},(∀ v,(x,v)∉a)->bindL b a m x=m x
 |[],_,_=>rfl
 | (n,v)::r,m,h=>by
  unfold bindL
  rw[Qn λw hw=>h w (r0 _ hw)]
  split
  .have:x≠n:=by rintro rfl;exact h v o7
   simp[this]
  .rfl
def Qs:∀ {a:List (Str × Value)} {m:wm},(∀ v,(x,v)∉a)->bindC b a m x=m x
 |[],_,_=>rfl
 | (n,v)::r,m,h=>by
  unfold bindC
  rw[Qs λw hw=>h w (r0 _ hw)]
  split
  .rfl
  .have:x≠n:=by rintro rfl;exact h v o7
   simp[this]
def Qq {a:Str->Option NameKind}:∀ {P:zG} {b:zz} {i:Nat} {m:wm},P.Nodup->P[i]?≈x->b[i]?≈v->a x≈.local ->
 bindL a (P.zip b) m x≈v
 |[],_,_,_,_,h,_,_=>by simp at h
 |_::_,[],_,_,_,_,h,_=>by simp at h
 |p::P,w::b,0,m,nd,h1,h2,hk=>by
  simp at h1 h2;subst h1;subst h2
  show bindL a ((p,w)::P.zip b) m p=_
  unfold bindL
  rw[Qn λv c=>(iT.mp nd).1 (pU c).1,q4 hk]
  simp
 |p::P,w::b,i+1,m,nd,h1,h2,hk=>by
  show bindL a ((p,w)::P.zip b) m x=_
  unfold bindL
  exact Qq (i:=i) (iT.mp nd).2 (by simpa using h1) (by simpa using h2) hk
def Qm {a:Str->Option NameKind}:∀ {P:zG} {b:zz} {i:Nat} {m:wm},P.Nodup->P[i]?≈x->b[i]?≈v->a x≠some .local ->
 bindC a (P.zip b) m x≈v
 |[],_,_,_,_,h,_,_=>by simp at h
 |_::_,[],_,_,_,_,h,_=>by simp at h
 |p::P,w::b,0,m,nd,h1,h2,hk=>by
  simp at h1 h2;subst h1;subst h2
  show bindC a ((p,w)::P.zip b) m p=_
  unfold bindC
  rw[Qs λv c=>(iT.mp nd).1 (pU c).1,j4 hk]
  simp
 |p::P,w::b,i+1,m,nd,h1,h2,hk=>by
  show bindC a ((p,w)::P.zip b) m x=_
  unfold bindC
  exact Qm (i:=i) (iT.mp nd).2 (by simpa using h1) (by simpa using h2) hk
def start (N:zG)(a:zy):St:=a.map some++List.replicate (N.length-a.length) none
def vd (CX:cQ)(P:zM)(w:World)(K:zx)(mg:wm)(base:Heap)(N:zG)(qual:Str)(scope:Scope)(f:Addr)(cd:Value)(A:zN)(outer:List Env)(s:zn)(H:Hp)(E:XK):Cx where
 prog:=P
 w:=w
 K:=K
 mg:=mg
 base:=base
 A:=A.deeper (envOfC qual scope s.heap.objs.size f cd)
 N:=N
 s₀:=s
 H₀:=H
 env:=envOfC qual scope s.heap.objs.size f cd
 outer:=outer
 stack:=envOfC qual scope s.heap.objs.size f cd::outer
 ex:=[]
 calm:=true
 fn:=λ_=>true
 pn:=[]
 xe:=λe s'=>wpAny (model P w) (A.deeper (envOfC qual scope s.heap.objs.size f cd)) (leaving (envOfC qual scope s.heap.objs.size f cd) e) (λ_ s''=>CX outer H s E e s'') (λe' s''=>CX outer H s E e' s'') s'
def Pg {sc:Scope}(h:sc.names.lookup x≈.cell):∃ c,(cellsFrom n sc.names []).lookup x≈c:=by
 have q:=Bs sc.names n [] (.inl h)
 exact Q3.mp q
def WE {CX:cQ}{P:zM}{w:World}{K:zx}{M:wm}{l:Heap}{N C:zG}{g:Str}{d:Scope}{f:Addr}{G:Value}{A:zN}{outer:List Env}{s O:zn}{H:Hp}{E:XK}{L:zz}{t:zy}
 (S:yz N C d) (U:A.handled=none) (m:gw P w K M l A outer s H) (hl:t.length=C.length) (r:ym t L)
 (x:InCallC s s.heap.objs.size (bindL (envOfC g d s.heap.objs.size f G).kindOf (C.zip L) λ_=>none) (cellsFrom (s.heap.objs.size+1) d.names []) (bindC (envOfC g d s.heap.objs.size f G).kindOf (C.zip L) λ_=>none) O) :
 aa (vd CX P w K M l N g d f G A outer s H E) [] (start N t) H O:=by
 have W:C.length<=N.length:=by have:=bN List.length S.pre;rw[gW]at this;omega
 obtain⟨J,Z,rfl,Q⟩:=x.done
 have B:∀ b:Addr,b∉(vd CX P w K M l N g d f G A outer s H E).ex:=λb z=>absurd (show b∈([]:xW)from z) (by simp)
 refine⟨⟨m.mod,S.kind,rfl,rfl,t7 _,λy z c J j=>?_,λy o=>?_,λy c _ h=>?_,λ_=>U,Around.frames_deeper m.frames,.inr ⟨rfl,rfl⟩,λb z=>absurd z (B b),m.bs,m.bsz,λb _ _=>B b,λb z=>absurd z (B b),m.funs,m.frf⟩,
  rfl,m.bare,Un.kept Q,⟨_,x.toInCall.ns,λi y v J j Y=>?_⟩,λy c h=>⟨_,x.cell y c h⟩,m.hok.fresh (t7 _),λy c h=>?_,λp F=>absurd (show p∈([]:xv)from F) (by simp),m.hok.kept Q,?_⟩
 .exact name_of_addr x.apart (iJ J) (iJ j)
 .have o:d.names.lookup y≈.cell\/d.names.lookup y≈.free:=o
  rcases o with o|o
  .exact Pg o
  .exact absurd rfl (S.nofree _ (iJ o))
 .exact p6 (x.above y c (iJ h))
 .have I:i<t.length:=by
   unfold start at j
   by_cases I:i<t.length
   .exact I
   .rw[g9 (by simpa using I)]at j
    rw[lY]at j
    split at j <;> cases j
  have T:t[i]?≈v:=by
   unfold start at j
   rw[g6 (by simpa using I),k8]at j
   cases e:t[i]? with
   |none=>rw[e]at j;cases j
   |some a=>rw[e]at j;cases j;rfl
  obtain⟨u,R,X⟩:=r.get T
  have F:C[i]?≈y:=by
   rw[<-S.pre,List.getElem?_take_of_lt ∅];exact J
  have D:C.Nodup:=by rw[<-S.pre];exact S.nd.sublist (List.take_sublist _ _)
  refine⟨u,X,?_⟩
  rcases S.par y (o0 F)with k|k
  .exact .inl ⟨k,Qq D F R k⟩
  .obtain⟨c,e⟩:=Pg (n:=s.heap.objs.size+1) k
   refine .inr ⟨.inl k,c,e,?_⟩
   have q:=x.cell y c e
   rw[Qm D F R (by show d.names.lookup y≠_;rw[k];decide)]at q
   exact q
 .exact m.hok.fresh (p6 (x.above y c (iJ h)))
 .unfold start
  show _=N.length
  rw[k7,u8,Br]
  omega
def JG {w:World}{K:zx}{g:Heap}{k:Nat}{f:Addr}{kV d:Value}{N M:zG}{O:Sp}(lk:K.lookup f≈⟨oc,od,.func (PySem.W.fnOf m c h i a Y kV F Z an d ct),T⟩)(W:PySem.W.codeIn K d c=true)(S:yz N M a)(G:∀ j H Q E,O j H Q E->j.length=M.length) (z:∀ (A:zN) (outer:List Env) (s:zn) (H:Hp) (j:zy) (Q:VK) (E:XK),xc k (A.deeper (envOfC c a s.heap.objs.size f d))->O j H Q E ->
 ∃ t,bF (vd CX P w K L g N c a f d A outer s H E) i t/\t { nx:=λ_ H'=>Q .non H',rt:=Q } (start N j) H) :
 xt P w K L g CX (k+1) f (PySem.W.fnOf m c h i a Y kV F Z an d ct) M O:=by
 refine⟨G,λA outer s H args us j Q E X C hb r D=>?_⟩
 have hl:=G _ _ _ _ D
 have KX:K.In s.heap:=C.mod.kin.keeps λb o e=>(C.bs b o e).1
 have bI:s.heap.NoLimit:=C.mod.nolimit.keeps λb o e=>(C.bs b o e).1
 have p:∀ y∈M.zip us,a.names.lookup y.1≈.local\/(a.names.lookup y.1≈.cell/\((cellsFrom (s.heap.objs.size+1) a.names []).lookup y.1).isSome=true):=λ⟨n,v⟩ hy=>by
  rcases S.par n (pU hy).1 with q|q
  .exact .inl q
  .exact .inr ⟨q,Bs _ _ _ (.inl q)⟩
 refine Hf X.depth (KX _ _ lk) rfl S.co S.gen rfl (GZ KX W) (hb _ _ _ _ ?_)
 refine wpAny_newFunctionEnv_cells S.kind p λenv he s1 x=>?_
 subst he
 refine⟨bI.keeps x.toInCall.keep,codeAny_func ?_⟩
 obtain⟨t,ht,hq⟩:=z A outer s H j Q E (X.deeper _) D
 have I:aa (vd CX P w K L g N c a f d A outer s H E) [] (start N j) H s1:=WE S X.hd C hl r x
 refine p0 (ht [] s1 (start N j) H _ I hq) (λfl R B=>?_) λe R B=>B
 have fin:∀ {l:St} {H':Hp} {v:V} {u:Value},aa (vd CX P w K L g N c a f d A outer s H E) [] l H' R->y0 v u->Q v H'->CE outer P w H s Q u R :=
  λ{l H' v u} J U q=>⟨v,H',J.os,J.bare,J.base,J.hok,U,q⟩
 cases fl with
 |ret u =>
  obtain⟨v,l,H',J,U,q⟩:=B
  exact fin J U q
 |next =>
  obtain⟨l,H',J,q⟩:=B
  exact fin (v:=V.non) (u:=Value.none) J rfl q
 |brk =>
  obtain⟨_,_,_,q⟩:=B
  exact False.elim q
 |cont =>
  obtain⟨_,_,_,q⟩:=B
  exact False.elim q
section
variable {X:Cx}{x:Str}{p pos:Pos}{e:Expr}{es:yO}{t:TA}{id T:String}{r:lB}
def qp (r:lB)(t:TA):TE:=λa H Q=>t a H λb H1=>r b H1 Q
def yy (m:v5 X (.builtin id) r) (f:Gl X x) (g:X.mg x=none) (j:bootBuiltins x≈(.builtin id)) (l:PA X (e::es) t) (n:x≠"__name__":=by decide) (c:(x == ("__debug__":Str))=false:=by decide)
 (q:starEach (e::es) X.env=(false,eval e X.env)::starEach es X.env:=by rfl) (b:(backTo pos (starEach es X.env)).any (·.1)=false:=by rfl):PE X (.Call (.Name x p) (e::es) [] pos) (qp r t):=by
 intro a s d H Q I h
 refine mq (Vi I f g j ?_ n c)
 exact PyProof.Rows.callWith_builtin1 (aC (l pos a s d H _ I h) λi v ⟨k,H1,I1,o,u⟩=>m a v d H1 k i Q I1 o u) q b
def Qj (m:v5 X (.type T) r) (f:Gl X x) (g:X.mg x=none) (j:bootBuiltins x≈(.type T)) (l:PA X (e::es) t) (n:x≠"__name__":=by decide) (c:(x == ("__debug__":Str))=false:=by decide)
 (q:starEach (e::es) X.env=(false,eval e X.env)::starEach es X.env:=by rfl) (b:(backTo pos (starEach es X.env)).any (·.1)=false:=by rfl):PE X (.Call (.Name x p) (e::es) [] pos) (qp r t):=by
 intro a s d H Q I h
 refine mq (Vi I f g j ?_ n c)
 exact pY (aC (l pos a s d H _ I h) λi v ⟨k,H1,I1,o,u⟩=>m a v d H1 k i Q I1 o u) q b
end
end L2
namespace HT
open PySem PyProof.Rows
def lexLt:zB->zB->Bool
 |[],[]=>false
 |[],_::_=>true
 |_::_,[]=>false
 |x::xs,y::ys=>if x=y then lexLt xs ys else decide (x<y)
def lexLt_cons (x y:Int)(a b:zB):lexLt (x::a) (y::b)=if x=y then lexLt a b else decide (x<y):=rfl
def zkC (A:zN)(s:zn)(a:Int)(t:Tok)(c:Int)(u:Tok):∃ e,SeqAt.EqAt A s (.int a t) (.int c u) e/\(e=true↔a=c) :=
 ⟨(a == c),GQ a t c u,by simp⟩
section
variable {prog:zM}{w:World}{A:zN}{E:yI}{s:zn}
def cat_tup {t:Addr} {d a:zz} {Q:yI} (B:IsTup s.heap t d.toArray) (z:IsTup s.heap b a.toArray) (q:d≠[]) (x:a=[]->Q (.ref t) s) (y:a≠[]->Q (.ref s.heap.objs.size) { s with heap:=s.heap.push { cls:=.type "tuple",data:=.seq (d++a).toArray } }) (k:d.length+a.length<=sizeLine):wpAny (model prog w) A (binaryOp .Add (.ref t) (.ref b)) Q E s:=by
 obtain⟨⟨cls,o,data,v⟩,j,u,n,m⟩:=id B
 obtain⟨⟨r,i,l,g⟩,c,f,p,h⟩:=id z
 simp only at u m f h
 subst u m f h
 have e:d.toArray++a.toArray=(d++a).toArray:=by simp
 by_cases hw:a=[]
 .exact concat_meets ⟨_,j,rfl⟩ ⟨_,c,rfl⟩ noFill_tuple_add seq_tuple_add Hj Hk (Hc _ _)
   (tuple_addW1 t b d.toArray a.toArray n p o i v g (by simpa using q) (by simp[hw])) ⟨j,c,x hw⟩
 .refine concat_meets ⟨_,j,rfl⟩ ⟨_,c,rfl⟩ noFill_tuple_add seq_tuple_add Hj Hk (Hc _ _)
   (tuple_addW2 t b d.toArray a.toArray n p o i v g (by simpa using q) (by simpa using hw) (by rw[t9,t9];exact k)) ⟨j,c,?_⟩
  rw[e]
  exact y hw
def sIx (n d:Nat):yG->Nat
 |none=>d
 |some v=>if v<0 then (v+(n:Int)).toNat else min v.toNat n
def sIx_none (n d:Nat):sIx n d none=d:=rfl
def sIx_nat (n d k:Nat):sIx n d (some (k:Int))=min k n:=by
 show(if (k:Int)<0 then ((k:Int)+(n:Int)).toNat else min (k:Int).toNat n)=min k n
 rw[j4 ∅,mj]
def zoW (n d:Nat)(b:d<=n)(o:yG):sIx n d o<=n:=by
 cases o with
 |none=>exact b
 |some v =>
  show(if v<0 then (v+(n:Int)).toNat else min v.toNat n)<=n
  by_cases a:v<0
  .rw[q4 a];omega
  .rw[j4 a];exact Nat.min_le_right _ _
def Ol (v:Int)(n d:Nat):(if v<0 then max (v+(n:Int)) 0 else min v (n:Int))=((sIx n d (some v):Nat):Int):=by
 show(if v<0 then max (v+(n:Int)) 0 else min v (n:Int))=(((if v<0 then (v+(n:Int)).toNat else min v.toNat n):Nat):Int)
 by_cases a:v<0
 .simp only[q4 a];omega
 .simp only[j4 a];omega
def zeX (a b:yG)(n:Nat):Builtin.Slice.sliceAdjust a b 1 (n:Int)=(((sIx n 0 a:Nat):Int),((sIx n n b:Nat):Int)):=by
 have c:¬ ((1:Int)<0):=by omega
 unfold Builtin.Slice.sliceAdjust
 simp only[c,fB]
 refine gQ ?_ ?_
 .cases a with
  |none=>rfl
  |some v=>exact Ol v n 0
 .cases b with
  |none=>rfl
  |some v=>exact Ol v n n
def zfj (i j:Nat):Builtin.Slice.slicePlaces (i:Int) (j:Int) 1=j-i:=by
 unfold Builtin.Slice.slicePlaces
 have a:(1:Int)>0:=by omega
 simp only[a,dW,Int.ediv_one]
 split <;> omega
def QR {Q:yG->Shared->Prop}(p:IsPart v o)(h:Q o s):wpAny (model prog w) A (Builtin.Slice.slicePartIndex v) Q E s:=by
 cases p with
 |none=>exact slicePart_none h
 |int i t=>exact slicePart_int h
def Yr {g:Addr}{f:Value}{Q:Int × Int × Nat->Shared->Prop}(i:s.heap.IsSliceOf g f e .none)(pl:IsPart f a)(j:IsPart e b)(h:Q (((sIx n 0 a:Nat):Int),1,sIx n n b-sIx n 0 a) s):wpAny (model prog w) A (Builtin.Slice.sliceApplied (.ref g) (pure (n:Int))) Q E s:=by
 obtain⟨os,d,k,c⟩:=id i
 unfold Builtin.Slice.sliceApplied Builtin.Slice.sliceFields
 refine u5 (u5 (cW d c (x:=f) rfl (u5 (cW d c (x:=e) rfl (u5 (cW d c (x:=.none) rfl (t5 ?_)))))))
 refine u5 (slicePart_none ?_)
 show wpAny _ _ (if ((1:Int) == 0) then _ else _) _ _ s
 rw[j4 ⋯]
 refine u5 (QR pl (u5 (QR j (u5 (t5 ?_)))))
 show wpAny _ _ (match Builtin.Slice.sliceAdjust a b 1 (n:Int)with | (a,b)=>pure (a,(1:Int),Builtin.Slice.slicePlaces a b 1)) _ _ s
 rw[zeX a b n]
 show wpAny _ _ (pure (((sIx n 0 a:Nat):Int),(1:Int),Builtin.Slice.slicePlaces ((sIx n 0 a:Nat):Int) ((sIx n n b:Nat):Int) 1)) _ _ s
 rw[zfj]
 exact t5 h
def zjh (a:wb)(i k:Nat):((List.range k).filterMap λ(m:Nat)=>a[((i:Int)+(m:Int)*1).toNat]?).toArray=((a.toList.drop i).take k).toArray:=by
 have e:(λ(m:Nat)=>a[((i:Int)+(m:Int)*1).toNat]?)=λm=>a[i+m]?:=by
  funext m
  have:((i:Int)+(m:Int)*1).toNat=i+m:=by omega
  rw[this]
 rw[e]
 have:=pick_run a i k
 rw[List.filterMap_map]at this
 have b:((λx=>a[x]?)∘λx=>i+x)=λm=>a[i+m]?:=rfl
 rw[b]at this
 rw[this]
def getItem_tuple_cut {t g:Addr} {a:wb} {d:yG} {Q:yI} (e:IsTup s.heap t a) (l:s.heap.IsSliceOf g o n .none) (pl:IsPart o c) (r:IsPart n d) (hw:¬ (sIx a.size 0 c=0/\sIx a.size a.size d=a.size)) (h:Q (.ref s.heap.objs.size) { s with heap:=s.heap.push { cls:=.type "tuple",data:=.seq ((a.toList.drop (sIx a.size 0 c)).take (sIx a.size a.size d-sIx a.size 0 c)).toArray } }) (p:a.size<=sizeLine):wpAny (model prog w) A (getItem (.ref t) (.ref g)) Q E s:=by
 have b:sizeOk (.seq ((a.toList.drop (sIx a.size 0 c)).take (sIx a.size a.size d-sIx a.size 0 c)).toArray):=by
  show((a.toList.drop (sIx a.size 0 c)).take (sIx a.size a.size d-sIx a.size 0 c)).toArray.size<=sizeLine
  rw[t9,gW,pK,i9]
  omega
 have v:sIx a.size a.size d<=a.size:=zoW _ _ (t7 _) d
 obtain⟨os,j,f,u⟩:=id l
 have k:s.TypeIs (.ref g) "slice":=⟨os,j,f⟩
 unfold getItem
 try with_reducible refine o9 ?_
 first|refine u5 (t5 ?_)|skip
 refine u5 (wpAny_sequenceKey e.typeIs ⋯ ?_)
 refine u5 (p5 (name:=Str.ofString "__getitem__") e.typeIs p8
  (l9 p8 e.typeIs entry_tuple_getitem ?_ (args_tuple_getitem _ _)))
 show wpAny _ _ (Builtin.Tuple.tupleItemsOf (.ref t)>>=_) _ _ s
 refine u5 (tupleItemsOf_ e ?_)
 refine u5 (lR k ?_)
 rw[q4 ⋯]
 refine u5 (Yr l pl r ?_)
 have i:¬ ((((sIx a.size 0 c:Nat):Int) == 0&&(1:Int) == 1&&(sIx a.size a.size d-sIx a.size 0 c) == a.size)=true):=by
  intro q
  rw[j7,j7]at q
  have y:((sIx a.size 0 c:Nat):Int)=0:=eq_of_beq q.1.1
  have x:sIx a.size a.size d-sIx a.size 0 c=a.size:=eq_of_beq q.2
  exact hw ⟨by omega,by omega⟩
 show wpAny _ _ (if (((sIx a.size 0 c:Nat):Int) == 0&&(1:Int) == 1&&(sIx a.size a.size d-sIx a.size 0 c) == a.size) then _ else _) _ _ s
 rw[j4 i,zjh]
 first
  |exact u5 (m:=Builtin.Tuple.tupleExact _) (i6 (t5 ⟨_,rfl,t5 h⟩) b)
  |exact u5 (m:=Builtin.Tuple.tupleExact _) (i6 (u5 (t5 (t5 ⟨_,rfl,t5 h⟩))) b)
  |exact u5 (u5 (m:=Builtin.Tuple.tupleExact _) (i6 (t5 (t5 ⟨_,rfl,t5 h⟩)) b))
  |exact u5 (u5 (m:=Builtin.Tuple.tupleExact _) (i6 (t5 ⟨_,rfl,t5 h⟩) b))
end
end HT
namespace L2
open PySem PySem.Spec PyProof.Rows
abbrev TO:=St->Hp->(yG->Hp->Prop)->Prop
def PO (X:Cx)(e:Option Expr)(t:TO):Prop :=
 ∀ (a:xv) (s:zn) (b:St) (H:Hp) (Q:yG->Hp->Prop),aa X a b H s->t b H Q ->
  wpAny (model X.prog X.w) X.A (evalPart e X.env) (λu c=>∃ o H',aa X a b H' c/\IsPart u o/\Q o H') X.xe s
def zmS:TO:=λ_ H Q=>Q none H
def SQ (t:TE):TO:=λa H Q=>t a H λx H1=>∃ i,x=.int i/\Q (some i) H1
def v8 {ns:zB}:∀ {a:zz},ym (ns.map V.int) a->IntsAre a ns:=by
 induction ns with
 |nil=>intro a r;rw[List.map_nil]at r;cases r;exact .nil
 |cons n ns b =>
  intro a r
  rw[o4]at r
  cases r with
  |cons c d =>
   obtain⟨t,e⟩:=c
   subst e
   exact .cons n t (b d)
section
variable {X:Cx}{e:Expr}{te:TE}{lo hi:Option Expr}{tl th:TO}{pos p2:Pos}
def zmD:PO X none zmS:=by
 intro a s b H Q I h
 rw[evalPart_none]
 exact t5 ⟨none,H,I,.none,h⟩
def znv (h:PE X e te):PO X (some e) (SQ te):=by
 intro a s b H Q I hw
 rw[evalPart_some]
 refine aC (h a s b H _ I hw) λu f hh9=>?_
 obtain⟨x,H1,I1,c,d⟩:=hh9
 obtain⟨i,rfl,q⟩:=d
 obtain⟨t,rfl⟩:=c
 exact⟨some i,H1,I1,.int i t,q⟩
def jf (X:Cx)(r:V->yG->yG->Hp->VK->Prop):Prop :=
 ∀ (a:xv) (s:zn) (b:St) (H:Hp) (x:V) (v e c:Value) (lo hi:yG) (d:Addr) (Q:VK),aa X a b H s->y0 x v->s.heap.IsSliceOf d e c .none->IsPart e lo->IsPart c hi->r x lo hi H Q ->
  ∃ T id,typeLookup (.type T) "__getitem__"=pure (some (.builtin id))/\s.TypeIs v T/\wpAny (model X.prog X.w) X.A (getItem v (.ref d)) (EP X a b Q) X.xe s
def jf.or {r b:V->yG->yG->Hp->VK->Prop}(h:jf X r)(k:jf X b):jf X (λx lo hi H Q=>r x lo hi H Q\/b x lo hi H Q):=by
 intro a s f H x v j d lo hi i Q I e c pl g q
 rcases q with q|q
 .exact h a s f H x v j d lo hi i Q I e c pl g q
 .exact k a s f H x v j d lo hi i Q I e c pl g q
def tSl (r:V->yG->yG->Hp->VK->Prop)(te:TE)(tl th:TO):TE:=λa H Q=>te a H λx H1=>tl a H1 λl H2=>th a H2 λu H3=>r x l u H3 Q
def zjk (z:jf X r)(A:PE X e te)(j:PO X lo tl)(p:PO X hi th):PE X (.Subscript e (.Slice lo hi none p2) pos) (tSl r te tl th):=by
 intro a s d H Q I h
 refine Subscript_ (aC (A a s d H _ I h) λv C hh9=>?_)
 obtain⟨x,H1,I1,n,B⟩:=hh9
 refine wpAny_Slice (aC (j a C d H1 _ I1 B) λg w ⟨l,H2,I2,pl,m⟩=>aC (p a w d H2 _ I2 m) λf c hh9=>?_)
 obtain⟨u,H3,I3,k,t⟩:=hh9
 rw[evalPart_none]
 refine t5 ?_
 have I4:aa X a d H3 { c with heap:=c.heap.push { cls:=.type "slice",data:=.fields #[g,f,.none] } }:=I3.kept (t':=c.toks) λb D q=>u6 _ q
 obtain⟨T,id,y,o,i⟩:=z a { c with heap:=c.heap.push { cls:=.type "slice",data:=.fields #[g,f,.none] } } d H3 x v g f l u c.heap.objs.size Q I4 n (Heap.IsSliceOf.new ..) pl k t
 show wpAny (model X.prog X.w) X.A (subscriptTail e (.Slice lo hi none p2) v (.ref c.heap.objs.size)) (EP X a d Q) X.xe { c with heap:=c.heap.push { cls:=.type "slice",data:=.fields #[g,f,.none] } }
 exact tail_any (ops:=[.ref c.heap.objs.size,v]) o y i (by with_unfolding_all rfl)
def dj (a:zy)(lo hi:yG):zy:=(a.drop (HT.sIx a.length 0 lo)).take (HT.sIx a.length a.length hi-HT.sIx a.length 0 lo)
def WM (a:zy)(lo hi:yG):(dj a lo hi).length<=a.length:=by
 unfold dj
 rw[gW,pK]
 omega
def HN (K:zx):V->yG->yG->Hp->VK->Prop:=λx lo hi H Q=>∃ a b,x=.ref a/\aJ K H a b /\
 ¬ (HT.sIx b.length 0 lo=0/\HT.sIx b.length b.length hi=b.length)/\∀ p,H p=none->Q (.ref p) (aA H p (.tup (dj b lo hi)))
def zo1:jf X (HN X.K):=by
 intro g s t H x v w n lo hi u Q I l j pl m h
 obtain⟨a,d,rfl,k,hw,q⟩:=h
 cases l
 obtain⟨e,r,i,f⟩:=I.tuple k
 have c:e.toArray.size=d.length:=by rw[t9];exact r.length.symm
 refine⟨"tuple",_,p8.lookup,i.typeIs,?_⟩
 refine HT.getItem_tuple_cut i j pl m (by rw[c];exact hw) ?_ (by rw[c];exact f)
 rw[c]
 refine⟨.ref s.heap.objs.size,_,I.laid (t':=s.toks) (o:=.tup (dj d lo hi)) (λb p q=>u6 _ q) (t7 _) ?_,rfl,q _ (I.hok.fresh (t7 _))⟩
 exact⟨r6 (WM d lo hi) f,_,(r.drop (HT.sIx d.length 0 lo)).take (HT.sIx d.length d.length hi-HT.sIx d.length 0 lo),IsTup.new _ _⟩
def Td (K:zx):R2:=λx y H Q=>∃ a b d c,x=.ref a/\y=.ref b/\aJ K H a d/\aJ K H b c/\d≠[]/\d.length+c.length<=sizeLine /\
 (c=[]->Q (.ref a) H)/\(c≠[]->∀ p,H p=none->Q (.ref p) (aA H p (.tup (d++c))))
def ym.nil_iff (r:ym b a):a=[]↔b=[]:=by
 cases r with
 |nil=>simp
 |cons _ _=>simp
def zms:aP X (binaryOp .Add) (Td X.K):=by
 intro g s D H x y v u Q I k t h
 obtain⟨a,b,i,B,rfl,rfl,l,A,j,f,r,p⟩:=h
 cases k
 cases t
 obtain⟨n,d,m,_⟩:=I.tuple l
 obtain⟨e,c,p2,_⟩:=I.tuple A
 refine HT.cat_tup m p2 (λz=>j (d.nil_iff.mp z)) (λz=>⟨.ref a,H,I,rfl,r (c.nil_iff.mp z)⟩) (λz=>?_) (by rw[<-d.length,<- c.length];exact f)
 refine⟨.ref s.heap.objs.size,_,I.laid (t':=s.toks) (o:=.tup (i++B)) (λb C q=>u6 _ q) (t7 _) ?_,rfl,p (λw=>z (c.nil_iff.mpr w)) _ (I.hok.fresh (t7 _))⟩
 exact⟨by rw[k7];exact f,_,d.append c,IsTup.new _ _⟩
end
def ixN (n:Nat)(i:Int):Option Nat:=if 0<=i then (if i<n then some i.toNat else none)else if -(n:Int)<=i then some (i+n).toNat else none
def atI {b:Type}(a:List b)(i:Int):Option b:=(ixN a.length i).bind λj=>a[j]?
def Nh (h:ixN n i≈j):seqIndex? i n≈j/\j<n/\-(n:Int)<=i/\i<n:=by
 unfold ixN at h
 by_cases h0:0<=i
 .rw[q4 h0]at h
  by_cases a:i<n
  .rw[q4 a]at h
   have e:i.toNat=j:=g0 h
   exact⟨by rw[seqIndex_of h0 a,e],by omega,by omega,a⟩
  .rw[j4 a]at h;cases h
 .rw[j4 h0]at h
  by_cases a:-(n:Int)<=i
  .rw[q4 a]at h
   have e:(i+n).toNat=j:=g0 h
   exact⟨by rw[seqIndex_neg ∅ a,e],by omega,a,by omega⟩
  .rw[j4 a]at h;cases h
def uF {b:Type}{a:List b}{v:b}(h:atI a i≈v):∃ j,seqIndex? i a.length≈j/\a[j]?≈v/\j<a.length/\-(a.length:Int)<=i/\i<a.length:=by
 unfold atI at h
 cases e:ixN a.length i with
 |none=>rw[e]at h;cases h
 |some j =>
  rw[e]at h
  obtain⟨g,c,f,d⟩:=Nh e
  exact⟨j,g,h,c,f,d⟩
def M9 {b:Type}{a:List b}{j:Nat}{v:b}(h:a[j]?≈v):atI a (j:Int)≈v:=by
 have c:j<a.length:=(j3.mp h).1
 have e:ixN a.length (j:Int)≈j:=by
  unfold ixN
  rw[q4 ∅,q4 ∅];simp
 unfold atI;rw[e];exact h
def Xx (b:Expr):Prop:=∀ o i,subscripted b false o i=operate [o,i] (getItem o i)
def gf (X:Cx)(r:R2):Prop :=
 ∀ (c a:Expr) (b:xv) (s:zn) (d:St) (H:Hp) (x y:V) (v u:Value) (Q:VK),aa X b d H s->y0 x v->y0 y u->r x y H Q ->
  subscripted a false v u=operate [v,u] (getItem v u)->wpAny (model X.prog X.w) X.A (subscriptTail c a v u) (EP X b d Q) X.xe s
def qU (X:Cx)(id:String)(r:V->zy->Hp->VK->Prop):Prop :=
 ∀ (a:xv) (s:zn) (b:St) (H:Hp) (x:V) (c:zy) (v:Value) (d:zz) (Q:VK),aa X a b H s->y0 x v->ym c d->r x c H Q ->
  wpAny (model X.prog X.w) X.A (call (.builtin id) (v::d)) (EP X a b Q) X.xe s
section
variable {X:Cx}{a b:Expr}{ta tb:TE}{pos:Pos}
def gf.or {r d:R2}(h:gf X r)(j:gf X d):gf X (λx y H Q=>r x y H Q\/d x y H Q):=by
 intro a b c s g H x y v u Q I f i q e
 rcases q with q|q
 .exact h a b c s g H x y v u Q I f i q e
 .exact j a b c s g H x y v u Q I f i q e
def tD (j:gf X r)(i:PE X a ta)(l:PE X b tb)(d:Xx b):PE X (.Subscript a b pos) (iW r ta tb):=by
 intro c s g H Q I h
 exact Subscript_ (CK i l I h λv u e x y H2 I2 f k q=>j a b c e g H2 x y v u Q I2 f k q (d _ _))
def qD (K:zx):R2:=λx y H Q=>∃ p a i v,x=.ref p/\y=.int i/\aK K H p a/\atI a i≈v/\Q v H
def qC (K:zx):R2:=λx y H Q=>∃ p a i v,x=.ref p/\y=.int i/\aJ K H p a/\atI a i≈v/\Q v H
def Ce:R2:=λx y H Q=>∃ z i c,x=.str z/\y=.int i/\z.length<=sizeLine/\atI z.cps.toList i≈c/\Q (.str ⟨#[c]⟩) H
def znS:gf X (qD X.K):=by
 intro c e a s m H x y v u Q I D G h l
 obtain⟨p,J,i,z,rfl,rfl,E,F,q⟩:=h
 cases D
 obtain⟨t,rfl⟩:=G
 obtain⟨g,r,pl,K⟩:=I.list E
 obtain⟨j,b,o,L,A,C⟩:=uF F
 obtain⟨w,k,d⟩:=r.get o
 have n:=r.length
 have M:=XF
 have fin:EP X a m Q w s:=⟨z,H,I,d,q⟩
 by_cases h0:0<=i
 .have f:i.toNat=j:=by
   rw[seqIndex_of h0 C]at b
   exact g0 b
  exact item_listR pl.isList h0 ∅ (by rw[f];simpa using k) fin l
 .have f:(i+(g.toArray.size:Int)).toNat=j:=by
   rw[seqIndex_neg ∅ A]at b
   rw[t9,<- n]
   exact g0 b
  exact Hi (x:=w) pl.isList.typeIs slot_list_getitem.lookup
   (wpAny_getItem_list_neg (Q:=λr B=>r=w/\EP X a m Q r B) pl.isList ∅ (by rw[t9] <;> omega) ∅ (by rw[f];simpa using k) ⟨rfl,fin⟩) l
def Kc:gf X (qC X.K):=by
 intro b d a s e H x y v u Q I o D h m
 obtain⟨p,E,i,z,rfl,rfl,A,C,q⟩:=h
 cases o
 obtain⟨t,rfl⟩:=D
 obtain⟨B,r,pl,F⟩:=I.tuple A
 obtain⟨j,n,k,J,G,K⟩:=uF C
 obtain⟨w,f,c⟩:=r.get k
 have g:=r.length
 have L:=XF
 have fin:EP X a e Q w s:=⟨z,H,I,c,q⟩
 exact Hi (x:=w) pl.typeIs slot_tuple_getitem.lookup
  (getItem_tuple (j:=j) (Q:=λr l=>r=w/\EP X a e Q r l) pl ∅ ∅ (by rw[t9,<- g];exact n) (by simpa using f) ⟨rfl,fin⟩) m
def Kf:gf X Ce:=by
 intro a b e s D H x y v u Q I k w h f
 obtain⟨z,i,c,rfl,rfl,B,r,q⟩:=h
 obtain⟨t,rfl⟩:=k
 obtain⟨C,rfl⟩:=w
 obtain⟨j,d,m,A,o,g⟩:=uF r
 have l:z.cps.toList.length=z.length:=by simp[Str.length]
 rw[l]at d o g
 have E:=XF
 exact tail_any (lN s z t) slot_str_getitem.lookup (getItem_str (c:=c) (by
  have n:decide (i < -(2^63:Int))=false:=t6 ∅
  have p:decide (i >= 2^63)=false:=t6 ∅
  rw[n,p,Bool.or_false]) (by rw[d];simpa using m) ⟨.str ⟨#[c]⟩,H,I.tok _,⟨_,rfl⟩,q⟩) f
def Rf (K:zx):R2:=λx y H Q=>qD K x y H Q\/qC K x y H Q\/Ce x y H Q
def zp6:gf X (Rf X.K):=znS.or (Kc.or Kf)
def zfk (a:zz) (n j:Nat) (u:Value):Obj.mapSeq (·.setIfInBounds j u) { cls:=.type "list",data:=.seq a.toArray n }={ cls:=.type "list",data:=.seq (a.set j u).toArray n }:=by
 simp[Obj.mapSeq]
def aa.lst {b:xv}{d:St}{H:Hp}{s:zn}{p:Addr}{c:zy}(I:aa X b d H s)(h:H p≈(.lst c)) :
 ∃ (a:zz) (n:Nat),ym c a/\s.heap.get? p≈{ cls:=.type "list",data:=.seq a.toArray n }/\c.length<=sizeLine:=by
 obtain⟨z,a,n,r,e⟩:=I.hok p _ h
 exact⟨a,n,r,e,z⟩
def aa.lstUpd {k:St} {H:Hp} {s:zn} {p:Addr} {i:zy} {d a:zz} {g:Nat} {f:Obj->Obj} (I:aa X c k H s) (h:H p≈(.lst l)) (m:s.heap.get? p≈{ cls:=.type "list",data:=.seq d.toArray n }) (j:f { cls:=.type "list",data:=.seq d.toArray n }={ cls:=.type "list",data:=.seq a.toArray g }) (r:ym i a) (o:i.length<=sizeLine) (t:Nat) :
 aa X c k (aA H p (.lst i)) { s with heap:=s.heap.update p f,toks:=t }:=by
 have e:(s.heap.update p f).get? p≈{ cls:=.type "list",data:=.seq a.toArray g }:=by
  rw[h9 f m (by rw[j] <;> rfl),j]
 refine I.write (x:=p) (e:=p) (by rw[h];trivial) (.inl rfl) (λb u v q=>(i7 _ _ (bw v)).trans q) ⟨_,e⟩ ?_
 exact⟨o,a,g,r,e⟩
def R6:V->V->V->Hp->(Hp->Prop)->Prop:=λo i v H Q=>∃ p a k j,o=.ref p/\i=.int k/\H p≈(.lst a)/\ixN a.length k≈j/\Q (aA H p (.lst (a.set j v)))
def zkU:qQ X R6:=by
 intro a s C H o i v F G u Q I x y A h
 obtain⟨p,w,k,j,rfl,rfl,m,B,q⟩:=h
 cases x
 obtain⟨t,rfl⟩:=y
 obtain⟨b,n,r,d,z⟩:=I.lst m
 obtain⟨c,D,l,g⟩:=Nh B
 have e:=r.length
 have E:=XF
 have I':aa X a C (aA H p (.lst (w.set j v))) { s with heap:=s.heap.update p (Obj.mapSeq (·.setIfInBounds j u)) } :=
  I.lstUpd m d (zfk b n j u) (r.set A j) (by rw[Gk];exact z) s.toks
 by_cases h0:0<=k
 .have f:k.toNat=j:=by
   rw[seqIndex_of h0 g]at c
   exact g0 c
  exact W.ki_setAt d h0 ∅ (by rw[t9,<- e];exact g) (by rw[f];exact⟨_,I',q⟩)
 .have f:(k+(b.toArray.size:Int)).toNat=j:=by
   rw[seqIndex_neg ∅ l]at c
   rw[t9,<- e]
   exact g0 c
  exact W.ki_setBack d ∅ (by rw[t9,<- e];exact l) ∅ (by rw[f];exact⟨_,I',q⟩)
def zca (a b:yG)(n:Nat):(sliceBounds a b none n).1=((HT.sIx n 0 a:Nat):Int)/\(sliceBounds a b none n).2.1=((HT.sIx n n b:Nat):Int)/\(sliceBounds a b none n).2.2=1:=by
 refine⟨?_,?_,rfl⟩
 .cases a with
  |none=>simp[sliceBounds,HT.sIx]
  |some i =>
   simp only[sliceBounds,HT.sIx,Option.getD_none,show(1:Int)>0 by decide,dW]
   by_cases h:i<0
   .simp only[h,dW] <;> omega
   .simp only[h,fB] <;> omega
 .cases b with
  |none=>simp[sliceBounds,HT.sIx]
  |some i =>
   simp only[sliceBounds,HT.sIx,Option.getD_none,show(1:Int)>0 by decide,dW]
   by_cases h:i<0
   .simp only[h,dW] <;> omega
   .simp only[h,fB] <;> omega
def zaO (a:zz)(b c:yG):slicePick a.toArray b c none=((a.drop (HT.sIx a.length 0 b)).take (HT.sIx a.length a.length c-HT.sIx a.length 0 b)).toArray:=by
 obtain⟨f,d,e⟩:=zca b c a.toArray.size
 unfold slicePick
 rw[f,d,e]
 simp only[sliceRange_one,pick_run,t9] <;> rfl
def HR (K:zx):V->yG->yG->Hp->VK->Prop:=λx c d H Q=>∃ a b,x=.ref a/\aK K H a b/\∀ p,H p=none->Q (.ref p) (aA H p (.lst (dj b c d)))
def zns:jf X (HR X.K):=by
 intro g s w H x v z t e f y Q I m j pl n h
 obtain⟨a,c,rfl,k,q⟩:=h
 cases m
 obtain⟨p,r,i,l⟩:=I.list k
 have d:=r.length
 refine⟨"list",_,slot_list_getitem.lookup,i.isList.typeIs,?_⟩
 refine wpAny_getItem_list_slice i.isList j pl n .none (by simp) ?_ (by rw[t9] <;> omega)
 rw[zaO,<- d]
 refine⟨.ref s.heap.objs.size,_,I.laid (t':=s.toks) (o:=.lst (dj c e f)) (λb u q=>u6 _ q) (t7 _) ?_,rfl,q _ (I.hok.fresh (t7 _))⟩
 exact⟨r6 (WM c e f) l,_,0,(r.drop (HT.sIx c.length 0 e)).take (HT.sIx c.length c.length f-HT.sIx c.length 0 e),j5 _ rfl⟩
def kZ:V->Bool
 |.non=>true
 |.bl _=>true
 |.int _=>true
 |.str _=>true
 |_=>false
def jP:V->V->Bool
 |.non,.non=>true
 |.bl a,.bl b=>a == b
 |.bl a,.int b=>(if a then 1 else 0) == b
 |.int a,.bl b=>a == (if b then 1 else 0)
 |.int a,.int b=>a == b
 |.str a,.str b=>a == b
 |_,_=>false
def Dt (e:y0 y u)(c:y0 x v)(g:kZ y=true)(f:kZ x=true):SeqAt.EqAt A s u v (jP y x):=by
 cases y with
 |non =>
  cases e
  cases x with
  |non=>cases c;exact SeqAt.EqAt.same _
  |bl b=>cases c;exact SeqAt.EqAt.none_bool b
  |int b=>obtain⟨t,rfl⟩:=c;exact SeqAt.EqAt.none_int b t
  |str b=>obtain⟨t,rfl⟩:=c;exact SeqAt.EqAt.none_str b t
  |_=>exact absurd (show false=true from f) u7
 |bl a =>
  cases e
  cases x with
  |non=>cases c;exact SeqAt.EqAt.bool_none a
  |bl b=>cases c;exact SeqAt.EqAt.bool_bool a b
  |int b=>obtain⟨t,rfl⟩:=c;exact SeqAt.EqAt.bool_int a b t
  |str b=>obtain⟨t,rfl⟩:=c;exact SeqAt.EqAt.bool_str a b t
  |_=>exact absurd (show false=true from f) u7
 |int a =>
  obtain⟨d,rfl⟩:=e
  cases x with
  |non=>cases c;exact SeqAt.EqAt.int_none a d
  |bl b=>cases c;exact SeqAt.EqAt.int_bool a d b
  |int b=>obtain⟨t,rfl⟩:=c;exact GQ a d b t
  |str b=>obtain⟨t,rfl⟩:=c;exact SeqAt.EqAt.int_str a d b t
  |_=>exact absurd (show false=true from f) u7
 |str a =>
  obtain⟨d,rfl⟩:=e
  cases x with
  |non=>cases c;exact SeqAt.EqAt.str_none a d
  |bl b=>cases c;exact SeqAt.EqAt.str_bool a d b
  |int b=>obtain⟨t,rfl⟩:=c;exact SeqAt.EqAt.str_int a d b t
  |str b=>obtain⟨t,rfl⟩:=c;exact SeqAt.EqAt.str_str a d b t
  |_=>exact absurd (show false=true from f) u7
 |_=>exact absurd (show false=true from g) u7
def Rj (x:V)(u:Value):Bool:=match u with
 |.none=>jP .non x
 |.bool b=>jP (.bl b) x
 |.int i _=>jP (.int i) x
 |.str z _=>jP (.str z) x
 |_=>false
def zoO (r:y0 y u)(f:kZ y=true):Rj x u=jP y x:=by
 cases y with
 |non=>cases r;rfl
 |bl b=>cases r;rfl
 |int i=>obtain⟨t,rfl⟩:=r;rfl
 |str z=>obtain⟨t,rfl⟩:=r;rfl
 |_=>exact absurd (show false=true from f) u7
def Fp (d:y0 x v)(e:kZ x=true):∀ {b:zy} {c:zz},ym b c->b.all kZ=true->∀ u∈c,SeqAt.EqAt A s u v (Rj x u)
 |_,_,.nil,_=>λu a=>by cases a
 |y::b,u::c,.cons r t,f=>λg a=>by
  rw[jD,j7]at f
  rcases q5.mp a with rfl|a
  .rw[zoO r f.1];exact Dt r d f.1 e
  .exact Fp d e t f.2 g a
def xP:v5 X (.builtin "len") (λf H Q=>∃ p b,f=[.ref p]/\(aK X.K H p b\/aJ X.K H p b)/\Q (.int b.length) H):=by
 intro g s l H f k Q I r h
 obtain⟨p,b,rfl,c,q⟩:=h
 obtain⟨u,rfl,j⟩:=Z9 r
 cases j
 have m:=XF
 rcases c with c|c
 .obtain⟨e,d,pl,i⟩:=I.list c
  have a:=d.length
  exact Calls.call_len_list pl.isList (by simp only[t9] <;> omega) ⟨.int b.length,H,I.tok _,⟨s.toks+1,by rw[t9,a]⟩,q⟩
 .obtain⟨e,d,pl,i⟩:=I.tuple c
  have a:=d.length
  exact len_tuple pl (by simp only[t9] <;> omega) ⟨.int b.length,H,I.tok _,⟨s.toks+1,by rw[t9,a]⟩,q⟩
def XG:v5 X (.builtin "len") (λa H Q=>∃ z,a=[.str z]/\z.length<=sizeLine/\Q (.int z.length) H):=by
 intro b s c H a e Q I r h
 obtain⟨z,rfl,f,q⟩:=h
 obtain⟨u,rfl,t,rfl⟩:=Z9 r
 have d:=XF
 exact len_str ∅ ⟨.int z.length,H,I.tok _,⟨_,rfl⟩,q⟩
def zcj:v5 X (.type "list") (λy H Q=>∃ p g,y=[.ref p]/\(aK X.K H p g\/aJ X.K H p g)/\∀ l,H l=none->Q (.ref l) (aA H l (.lst g))):=by
 intro t s B H y C Q I r h
 obtain⟨p,g,rfl,k,q⟩:=h
 obtain⟨u,rfl,A⟩:=Z9 r
 cases A
 have fin:∀ (a:zz),ym g a->g.length<=sizeLine->∀ (c:Heap) (f:Nat),(∀ b z,s.heap.get? b≈z->c.get? b≈z) ->
  c.get? s.heap.objs.size≈{ cls:=.type "list",dict:=none,data:=.seq a.toArray f,slots:=#[] }->EP X t B Q (.ref s.heap.objs.size) { s with heap:=c }:=λa d j c f m e =>
  ⟨.ref s.heap.objs.size,_,I.laid (t':=s.toks) m (t7 _) (show yM X.prog X.w _ c _ (.lst g) from⟨j,a,f,d,e⟩),rfl,q _ (I.hok.fresh (t7 _))⟩
 rcases k with k|k
 .obtain⟨a,d,pl,j⟩:=I.list k
  have i:=d.length
  obtain⟨o,w,x,n,v⟩:=pl.isList
  exact call_list_seq p (.inl rfl) w x v (λc f m e=>fin a d j c f m e) (by simp only[t9] <;> omega)
 .obtain⟨a,d,pl,j⟩:=I.tuple k
  have i:=d.length
  obtain⟨o,w,x,n,v⟩:=pl
  exact call_list_seq p (.inr rfl) w x v (λc f m e=>fin a d j c f m e) (by simp only[t9] <;> omega)
def zbv:v5 X (.type "tuple") (λj H Q=>∃ p d,j=[.ref p]/\((aK X.K H p d/\∀ l,H l=none->Q (.ref l) (aA H l (.tup d)))\/(aJ X.K H p d/\Q (.ref p) H))):=by
 intro a s n H j w Q I r h
 obtain⟨p,d,rfl,h⟩:=h
 obtain⟨u,rfl,t⟩:=Z9 r
 cases t
 rcases h with ⟨i,q⟩|⟨i,q⟩
 .obtain⟨c,g,pl,m⟩:=I.list i
  have k:=g.length
  refine call_tuple_list pl.isList (λf v=>?_) (by simp only[t9] <;> omega)
  have I1:aa X a n H { s with heap:=f }:=I.kept (t':=s.toks) v
  have I2:aa X a n (aA H f.objs.size (.tup d)) { s with heap:=f.push { cls:=.type "tuple",data:=.seq c.toArray } } :=
   I1.laid (t':=s.toks) (λb o e=>u6 _ e) (t7 _) (show yM X.prog X.w _ _ _ (.tup d) from⟨m,c,g,IsTup.new _ _⟩)
  exact⟨.ref f.objs.size,_,I2,rfl,q _ (I1.hok.fresh (t7 _))⟩
 .obtain⟨c,g,pl,m⟩:=I.tuple i
  exact call_tuple_same pl ⟨.ref p,H,I,rfl,q⟩
def Hu (K:zx)(T:String)(x:V)(H:Hp):Prop:=match x with
 | .str _=>T="str"
 | .int _=>T="int"
 | .ref p=>(T="list"/\∃ b,aK K H p b)\/(T="tuple"/\∃ o,K.lookup p≈o/\o.cls=.type "tuple"/\o.dict=none) \/
  (T="dict"/\((∃ a,H p≈(.dK a))\/∃ a,H p≈(.dT a)))\/(T="set"/\∃ S n,H p≈(.set S n))
 |_=>False
def Lp {d:xv}{s:zn}(I:aa X d l H s)(r:y0 x v)(ty:Hu X.K T x H) :
 s.TypeIs v T/\∀ a,v=.ref a->∃ j,s.heap.get? a≈j/\j.dict=none:=by
 cases x with
 |str z =>
  obtain⟨t,rfl⟩:=r
  cases (show T="str" from ty)
  exact⟨lN s z t,λ_ e=>nomatch e⟩
 |int i =>
  obtain⟨t,rfl⟩:=r
  cases (show T="int" from ty)
  exact⟨pC s i t,λ_ e=>nomatch e⟩
 |ref p =>
  cases r
  rcases ty with ⟨rfl,u,k⟩|⟨rfl,o,b,m,f⟩|⟨rfl,b⟩|⟨rfl,S,n,b⟩
  .obtain⟨q,_,pl,_⟩:=I.list k
   refine⟨pl.isList.typeIs,λa e=>?_⟩
   cases e
   obtain⟨o,n,e,c,f,_⟩:=pl
   exact⟨o,e,f⟩
  .refine⟨⟨o,I.kIn p o b,m⟩,λa e=>?_⟩
   cases e
   exact⟨o,I.kIn _ o b,f⟩
  .have z:∃ o,s.heap.get? p≈o/\o.ExactDict:=by
    rcases b with ⟨g,b⟩|⟨g,b⟩
    .obtain⟨_,_,_,_,o,_,_,e,ex,_⟩:=I.hok p _ b
     exact⟨o,e,ex⟩
    .obtain⟨_,_,_,_,o,_,_,e,ex,_⟩:=I.hok p _ b
     exact⟨o,e,ex⟩
   obtain⟨o,e,ex⟩:=z
   refine⟨⟨o,e,ex.1⟩,λa h=>?_⟩
   cases h
   exact⟨o,e,ex.2.1⟩
  .obtain⟨o,_,_,_,e,ex,_⟩:=I.hok p _ b
   refine⟨⟨o,e,ex.1⟩,λa h=>?_⟩
   cases h
   exact⟨o,e,ex.2.1⟩
 |_=>exact False.elim ty
def qt (K:zx)(T:String)(r:V->zy->Hp->VK->Prop)(b:TE):TE:=λa H Q=>b a H λx H1=>Hu K T x H1/\r x [] H1 Q
def ig (K:zx)(T:String)(r:V->zy->Hp->VK->Prop)(c:TE)(t:TA):TE:=λa H Q=>c a H λx H1=>Hu K T x H1/\t a H1 λb H2=>r x b H2 Q
variable {o e:Expr}{es:yO}{to:TE}{t:TA}{name:Str}{apos cpos:Pos}{T id:String}{r:V->zy->Hp->VK->Prop}
def zpM (p:PlainAttrs T) (d:Slot T name id) (e:typeOf (.builtin id)=pure (.type "method_descriptor")) (i:qU X id r) (j:PE X o to)
 (c:attributeBase o name X.env (eval o X.env)=eval o X.env:=by rfl) (b:(apos.endLine == cpos.line)=true:=by rfl):PE X (.Call (.Attribute o name apos) [] [] cpos) (qt X.K T r to):=by
 intro a s f H Q I h
 refine wpAny_Call_method0_late c b (aC (j a s f H _ I h) λv n hh9=>?_)
 obtain⟨x,H1,I1,g,ty,m⟩:=hh9
 obtain⟨k,l⟩:=Lp I1 g ty
 exact⟨T,id,p,d,e,k,l,Bu rfl (PySem.evalArgs_none (i a n f H1 x [] v [] Q I1 g .nil m))⟩
theorem Zv (E:PlainAttrs T) (g:Slot T name id) (i:typeOf (.builtin id)=pure (.type "method_descriptor")) (n:qU X id r) (q:PE X o to) (z:PA X (e::es) t)
 (d:attributeBase o name X.env (eval o X.env)=eval o X.env:=by rfl)
 (f:((backTo cpos (starEach (e::es) X.env)).all (λx=>!x.1)&&(backToKw cpos (keywordEach [] X.env)).all (λx=>x.1.isSome)
  && decide ((e::es).length+([]:List Keyword).length+(if ([]:List Keyword).isEmpty then 0 else 1) < 30))=true:=by rfl)
 (c:(apos.endLine == cpos.line)=true:=by rfl) (m:starEach (e::es) X.env=(false,eval e X.env)::starEach es X.env:=by rfl) (b:(backTo cpos (starEach es X.env)).any (·.1)=false:=by rfl) :
 PE X (.Call (.Attribute o name apos) (e::es) [] cpos) (ig X.K T r to t):=by
 intro a s j H Q I h
 refine Hh d f c rfl (aC (q a s j H _ I h) λv D hh9=>?_)
 obtain⟨x,H1,I1,k,ty,C⟩:=hh9
 obtain⟨u,A⟩:=Lp I1 k ty
 refine⟨T,id,E,g,i,u,A,?_⟩
 have l:=z cpos a D j H1 _ I1 C
 rw[m]at l ⊢
 refine Bu (by show(false||(backTo cpos (starEach es X.env)).any (·.1))=false;rw[b] <;> rfl) (Ht ?_)
 exact aC l λp w ⟨y,H2,I2,F,B⟩=>n a w j H2 x y v p Q I2 k F B
/- xs.append(e),list.index on a module's tuple .. are qU facts of 06m -/
end
def mQ (X:Cx)(id:String)(r:V->zy->Hp->VK->Prop):Prop :=
 ∀ (a:xv) (s:zn) (b:St) (H:Hp) (x:V) (c:zy) (v:Value) (d:zz) (Q:VK),aa X a b H s->y0 x v->ym c d->r x c H Q ->
  wpAny (model X.prog X.w) X.A (call (.builtin id) (v::d)) (EP X a b Q) X.xe s
def ym.one:∀ {x:V} {a:zz},ym [x] a->∃ u,a=[u]/\y0 x u:=by
 intro x a h
 cases h with|cons r t=>cases t;exact⟨_,rfl,r⟩
def ym.two:∀ {x y:V} {a:zz},ym [x,y] a->∃ u v,a=[u,v]/\y0 x u/\y0 y v:=by
 intro x y a h
 cases h with|cons r t=>cases t with|cons q t=>cases t;exact⟨_,_,rfl,r,q⟩
def ym.rep (h:ym b a):∀ k:Nat,ym (List.replicate k b).flatten (List.replicate k a).flatten
 |0=>.nil
 |k+1=>by
  rw[jG,jG,lZ,lZ]
  exact ym.append h (ym.rep h k)
def Wr (a:zz):∀ (k:Nat) (b:zz),
 List.foldl (λd f=>d++f) b.toArray (List.replicate k a.toArray)=(b++(List.replicate k a).flatten).toArray
 |0,b=>by simp
 |k+1,b=>by
  have e:b.toArray++a.toArray=(b++a).toArray:=by simp
  have c:(b++a)++(List.replicate k a).flatten=b++(List.replicate (k+1) a).flatten:=by
   rw[jG,lZ,pN]
  rw[<-c,<- Wr a k (b++a),<- e,jG,List.foldl_cons]
section
variable {X:Cx}{pins:xv}{σ:St}{H:Hp}{s:zn}{l b:Addr}{xs ys zs:zy}
def aa.lset {a its':zz} {f:wb->wb} {d:Nat} (I:aa X pins σ H s) (j:H l≈(.lst xs)) (e:s.heap.get? l≈{ cls:=.type "list",data:=.seq a.toArray n }) (b:f a.toArray=its'.toArray) (g:ym ys its') (h:ys.length<=sizeLine) :
 aa X pins σ (aA H l (.lst ys)) { s with heap:=s.heap.update l (Obj.mapSeq f),toks:=d }:=by
 have q:=PySem.IsL.update e f
 rw[b]at q
 refine I.write (x:=l) (e:=l) (by rw[j];exact trivial) (.inl rfl) (λk u i c=>(i7 s.heap (Obj.mapSeq f) (bw i)).trans c) ⟨_,q⟩ ?_
 exact⟨h,its',_,g,q⟩
def aa.lnew {its:zz}{t':Nat}(I:aa X pins σ H s)(a:ym ys its)(b:ys.length<=sizeLine) :
 aa X pins σ (aA H s.heap.objs.size (.lst ys)) { s with heap:=s.heap.push { cls:=.type "list",data:=.seq its.toArray },toks:=t' } :=
 I.laid (λ_ _ q=>u6 _ q) (t7 _) ⟨b,its,0,a,j5 _ rfl⟩
def aa.fresh (I:aa X pins σ H s):H s.heap.objs.size=none:=I.hok.fresh (t7 _)
def aa.lstM (I:aa X pins σ H s) (b:H l≈(.lst xs)):xs.length<=sizeLine/\∃ (a:zz) (n:Nat),ym xs a/\xs.length=a.length/\s.heap.get? l≈{ cls:=.type "list",data:=.seq a.toArray n }:=by
 obtain⟨z,a,n,r,e⟩:=I.hok l _ b
 exact⟨z,a,n,r,r.length,e⟩
def Pq {n:Nat}(h:n<=sizeLine):Builtin.List.listTooLong n=false:=by
 unfold Builtin.List.listTooLong
 exact t6 ∅
end
section
variable {X:Cx}
def Ek:V->zy->Hp->VK->Prop:=λx b H Q=>∃ l a y,x=.ref l/\b=[y]/\H l≈(.lst a)/\a.length<sizeLine/\Q .non (aA H l (.lst (a++[y])))
def WA:mQ X "list.append" Ek:=by
 intro b s o H x m v j Q I f d h
 obtain⟨l,i,y,rfl,rfl,c,k,q⟩:=h
 cases f
 obtain⟨u,rfl,g⟩:=d.one
 obtain⟨z,a,n,r,p,e⟩:=I.lstM c
 refine dw F.slot_list_append ⟨_,e,rfl⟩ F.entry_list_append (F.args_list_append_2 _ _) (PySem.list_append l a.toArray n u (by rw[t9];omega)) ⟨e,?_⟩
 refine⟨.non,_,I.lset (its':=a++[u]) c e (by simp) (r.append (.cons g .nil)) ?_,rfl,q⟩
 rw[k7,List.length_singleton]
 omega
def LQ:V->zy->Hp->VK->Prop:=λx c H Q=>∃ l b a zs,x=.ref l/\c=[.ref b]/\H l≈(.lst a)/\H b≈(.lst zs)/\a.length+zs.length<=sizeLine/\Q .non (aA H l (.lst (a++zs)))
def zie:mQ X "list.extend" LQ:=by
 intro g s J H x C v E Q I w t h
 obtain⟨l,b,A,zs,rfl,rfl,i,j,B,q⟩:=h
 cases w
 obtain⟨u,rfl,y⟩:=t.one
 cases y
 obtain⟨z,c,n,r,D,e⟩:=I.lstM i
 obtain⟨G,a,k,p,m,o⟩:=I.lstM j
 have f:c.toArray.size+a.toArray.size<=sizeLine:=by rw[t9,t9];omega
 have d:¬ (!c.toArray.isEmpty&&Builtin.List.listTooLong (c.toArray.size+a.toArray.size))=true:=by
  rw[Pq f,iR]
  exact u7
 refine dw F.slot_list_extend ⟨_,e,rfl⟩ F.entry_list_extend (F.args_list_extend_2 _ _)
  (AutoSeq1.list_extend_list_list_0 l c.toArray n b a.toArray k d (by rw[t9];omega) ∅) ⟨e,o,?_⟩
 refine⟨.non,_,I.lset (its':=c++a) i e (by simp) (r.append p) ?_,rfl,q⟩
 rw[k7]
 omega
def CV:R2:=λx y H Q=>∃ l b a zs,x=.ref l/\y=.ref b/\H l≈(.lst a)/\H b≈(.lst zs)/\a.length+zs.length<=sizeLine/\∀ p,H p=none->Q (.ref p) (aA H p (.lst (a++zs)))
def ug:aP X (binaryOp .Add) CV:=by
 intro d s D H x y v u Q I g m h
 obtain⟨l,b,t,zs,rfl,rfl,p,f,A,q⟩:=h
 cases g
 cases m
 obtain⟨z,c,n,r,C,e⟩:=I.lstM p
 obtain⟨B,a,w,o,i,k⟩:=I.lstM f
 refine PySem.P.add_list e k ?_ (by rw[t9,t9];omega)
 have j:c.toArray++a.toArray=(c++a).toArray:=by simp
 rw[j]
 exact⟨.ref _,_,I.lnew (t':=s.toks) (r.append o) (by rw[k7];omega),rfl,q _ I.fresh⟩
def qx:R2:=λx y H Q=>∃ l k a,x=.ref l/\y=.int k/\H l≈(.lst a)/\-(2^63)<=k/\k<2^63/\a.length*k.toNat<=sizeLine /\
 ∀ p,H p=none->Q (.ref p) (aA H p (.lst (List.replicate k.toNat a).flatten))
def Em {c:Type}(a:List c)(k:Nat):(List.replicate k a).flatten.length=k*a.length:=by
 induction k with
 |zero=>simp
 |succ k b=>rw[jG,lZ,k7,b,Nat.succ_mul,Nat.add_comm]
theorem Ln:aP X (binaryOp .Mult) qx:=by
 intro w s N H x y v u Q I G K h
 obtain⟨l,k,L,rfl,rfl,D,E,B,p,q⟩:=h
 cases G
 obtain⟨t,rfl⟩:=K
 obtain⟨z,b,n,r,A,e⟩:=I.lstM D
 have d:b.toArray.size*k.toNat<=sizeLine:=by rw[t9,<- A];exact p
 have i:¬ b.toArray.size*k.toNat > (2 ^ 63 - 1) / 8:=by
  have:(sizeLine:Nat)<=(2 ^ 63 - 1) / 8:=by decide
  omega
 have g:¬ (!Builtin.List.listFitsIndex k)=true:=by
  rw[fitsIndex_both E B]
  exact u7
 have c:¬ Builtin.List.listTooLong (b.toArray.size*k.toNat)=true:=by
  rw[Pq d]
  exact u7
 have f:List.foldl (λj o=>j++o) #[] (List.replicate (if b.toArray.isEmpty then 0 else k.toNat) b.toArray)=(List.replicate k.toNat b).flatten.toArray:=by
  have J:∀ m:Nat,List.foldl (λj o=>j++o) #[] (List.replicate m b.toArray)=(List.replicate m b).flatten.toArray:=λm=>by
   have:=Wr b m []
   rw[List.nil_append]at this
   exact this
  rw[J]
  cases b with
  |nil=>simp
  |cons a M=>rw[j4 (by simp)]
 refine wpAny_binaryOp_repeat_ref (T:="list") (U:="int") ⋯ ⟨_,e,rfl⟩ (λC=>pC C k t) noFill_list_mul F.fills_int_mul Ak repeat_list F.slot_int_index.lookup
  (dw Ak (pC s k t) F.entry_int_rmul (F.args_int_rmul_2 _ _) (int___rmul___int_list k t l b.toArray n)
   ⟨e,rfl,⟨_,e,rfl⟩,dw F.slot_list_mul ⟨_,e,rfl⟩ F.entry_list_mul (F.args_list_mul_2 _ _) (AutoListH.list___mul___list_int_3 l b.toArray n k t g i c) ⟨e,?_⟩⟩)
 rw[f]
 exact⟨.ref _,_,I.lnew (t':=s.toks) (r.rep k.toNat) (by rw[Em,Nat.mul_comm];exact p),rfl,q _ I.fresh⟩
end
end L2
namespace Att
open PySem PySem.W PySem.Calls PyProof.Rows
def WY:∀ (ns:zB) (c:zz),WellAll P h c (ns.map WData.int)->IntsAre c ns:=by
 intro ns
 induction ns with
 |nil =>
  intro c w
  rw[List.map_nil]at w
  cases w
  exact .nil
 |cons n ns d =>
  intro c w
  rw[o4]at w
  cases w with
  |cons a b =>
   cases a
   exact .cons _ _ (d _ b)
def zgd {l:OpenLaw}(x:l.most≈n){h:Heap}(c:l.row.toRowW.claim.pre args=true)(j:WellAll P h b args) :
 ∃ a m ns,b=[Value.ref a]/\args=[WData.list (ns.map WData.int)]/\h.get? a≈{ cls:=.type "list",data:=.seq m.toArray }/\IntsAre m ns/\ns.length<=n:=by
 have k:WShape.hasAll [] args [.list .int]=true:=(pre_splitW c).1
 have o:l.pre.holds [] { args:=args }=true:=(pre_splitW c).2
 obtain⟨d,r,rfl,t,w⟩:=hasAllW_cons k
 obtain rfl:=hasAllW_nil w
 obtain⟨z,rfl,s⟩:=hasW_list t
 obtain⟨ns,rfl⟩:=items_int s
 have e:ns.length<=n:=by
  unfold OpenLaw.pre at o
  have i:(WTm.not (.lt (.lit (.int (n:Int))) (.len (.arg 0)))).holds [] { args:=[.list (ns.map .int)] }=true:=by
   have i:=(holds_andW o).1
   rw[x]at i
   exact i
  have g:=condW_of i (w_not (w_lt w_lit (w_len_list (w_arg rfl))))
  rw[u8]at g
  refine jJ λq=>?_
  have y:(n:Int)<((ns.length:Nat):Int):=by omega
  first
   | (rw[t8 y]at g;exact absurd g ⋯)
   | (simp at g;omega)
 cases j with
 |cons p u =>
  cases u
  cases p with
  |list v f=>exact⟨_,_,ns,rfl,rfl,v,WY ns _ f,e⟩
def zil (l:OpenLaw)(args:List WData):l.row.toRowW.claim.post args (.bool true) args=true :=
 postW_of (r:=l.row.toRowW) (X:=(true == true))
  (show WShape.has [] (.bool true) .bool=true by first|rfl|decide|simp[WShape.has,WShape.arms,WShape.armsAll])
  (show(WTm.eq .res (.lit (.bool true))).value [] { args:=args,res:=some (.bool true),after:=args }≈(.bool (true == true))from w_eq_bool (w_res rfl) w_lit) rfl
def attach_call {l:OpenLaw}{YP:World->Heap->Prop}{d:DefRec}(P:l.most≈n)(z:d.params.defaults=[]) (call:∀ (w:World) (s₀ b:zn) (p A:wm) (j:Addr) (o:Obj) (v t e:Value) (a:Addr) (h:zz) (ns:zB),
 Ground q c [] XP w s₀ p A b.heap->YP w b.heap ->
 b.heap.get? j≈o->o.data=.func (docDef d.name d.params d.body d.scope v t e)->b.heap.CodeRec t d.name->p d.name≈(.ref j) ->
 b.heap.get? a≈{ cls:=.type "list",data:=.seq h.toArray }->IntsAre h ns->ns.length<=n->b.gens=#[] ->
 codeAny (model l.prog w) callerA (.call (.ref j) ⟨[.ref a],[]⟩) (λr s=>r=.ok (.ret (.bool true))/\OldK b.heap s.heap/\s.os=b.os/\AllBare s.gens) b) :
 WalkO q c XP YP l.row.toRowW d [] (λf h=>PySem.call f h):=by
 intro w s₀ b p A G Y j o v t e L kV F D x hD y E args B Q m C H u J
 obtain rfl:L=.none:=Dflts.none hD z
 obtain rfl:kV=.none:=Dflts.noKw hD
 obtain⟨a,h,ns,rfl,rfl,k,g,i⟩:=zgd P m u
 refine enter_call (jB (call w s₀ b p A j o v t e a h ns G Y F (fd_plain D) x y k g i E) λr s O=>?_)
 obtain⟨rfl,I,N,K⟩:=O
 exact⟨.inl ⟨.bool true,.bool true,[],rfl,λ_=>rfl,.bool true,zil l _,λ_=>⟨List.Pairwise.nil,λ_ M=>(nomatch M)⟩⟩,I,N,K⟩
section
variable {prog:zM}{w:World}{A:zN}{E:yI}{s:zn}{K:Frag}
def Ib (h:Heap)(L d:Addr):xv:=(List.range h.objs.size).filterMap λa=>if a=L\/a=d then none else (h.get? a).map λo=>(a,o)
end
end Att
namespace L2
open PySem PySem.Spec PyProof.Rows
def QC:∀ {a:zz} {ns:zB},IntsAre a ns->ym (ns.map V.int) a:=by
 intro a ns h
 induction h with
 |nil=>exact .nil
 |cons n t h b=>exact .cons ⟨t,rfl⟩ b
def Cv (H:Hp):Prop:=∀ b,H b=none\/∃ o a,H b≈(.frz o (.lst a))
def zku {w:World} {K:zx} {U:wm} {CX:cQ} {k:Nat} {sp:Sp} {c:zn} {t:zz} {ns:zB} (KX:K.In c.heap) (G:c.heap.Ns mainGlobals J) (g:c.heap.Ns builtinsNs U) (T:∀ x:Str,x≠"__name__"->U x=bootBuiltins x) (I:c.heap.NoLimit) (hg:c.gens=#[]) (O:c.heap.get? a≈{ cls:=.type "list",data:=.seq t.toArray }) (hi:IntsAre t ns) (hl:ns.length<=sizeLine) (hr:xc k callerA) (F:∀ i:Heap,K.In i->i.Ns mainGlobals J->xt P w K J i CX k Q fd [x] sp) (y:∀ (s:zn) (u:Value),BindsTo s fd ⟨[u],[]⟩ [(x,u)]) (Y:∀ H:Hp,Cv H->aK K H a (ns.map V.int)->sp [.ref a] H (λv _=>v=.bl true) λ_ _ _=>False) (S:∀ H e j,CX [] H c (λ_ _ _=>False) e j->False) :
 codeAny (model P w) callerA (.call (.ref Q) ⟨[.ref a],[]⟩) (λr j=>r=.ok (.ret (.bool true))/\OldK c.heap j.heap/\j.os=c.os/\AllBare j.gens) c:=by
 have rv:=QC hi
 have L:=hi.length
 -- from an abstract heap in which nothing but the script may be tracked
 have p:∀ H:Hp,Cv H->aK K H a (ns.map V.int)->bj P w H c.heap->(∀ b,H b≠none->b=a)->(H a≠none->K.lookup a=none) ->
  codeAny (model P w) callerA (.call (.ref Q) ⟨[.ref a],[]⟩) (λr j=>r=.ok (.ret (.bool true))/\OldK c.heap j.heap/\j.os=c.os/\AllBare j.gens) c:=by
  intro H hO hS D hA hK
  have f:∀ {b:Addr} {o:Obj},c.heap.get? b≈o->H b=none->(gq c.heap H).get? b≈o:=λe n=>zk9 e n
  have W:∀ {b:Addr} {o:Obj} {M:Array DictEntry} {N:Nat},c.heap.get? b≈o->o.data=.dict M N->H b=none:=λ{b o M N} e d=>by
   cases q:H b with
   |none=>rfl
   |some u =>
    have R:b=a:=hA b (by rw[q];simp)
    subst R
    rw[O]at e;cases e
    have d':Data.seq t.toArray _=Data.dict M N:=d
    cases d'
  have l:∀ {b:Addr} {m:wm},c.heap.Ns b m->(gq c.heap H).Ns b m:=λ{b m} ⟨o,M,N,e,d,r⟩=>⟨o,M,N,f e (W e d),d,r⟩
  have E:K.In (gq c.heap H):=λb o e=>f (KX b o e) (by
   cases q:H b with
   |none=>rfl
   |some u =>
    have R:b=a:=hA b (by rw[q];simp)
    subst R
    rw[hK (by rw[q];simp)]at e;cases e)
  have hM:Mod K J (gq c.heap H):=⟨E,l G,⟨U,l g,T⟩,let ⟨mc,h1,h2⟩:=I;⟨mc,l h1,h2⟩⟩
  have e0:gw P w K J (gq c.heap H) callerA [] c H:=⟨rfl,hM,λb o e=>zmk e,Nat.le_of_eq (zha _ _),trivial,λb g=>absurd (show b∈([]:xW)from g) (by simp),D,.of_eq hg⟩
  refine jB ((F _ E (l G)).run callerA [] c H ⟨[.ref a],[]⟩ [.ref a] [.ref a] _ _ hr e0 (y c (.ref a)) (.cons rfl .nil) (Y H hO hS)) λr j h=>?_
  cases r with
  |error e=>exact(S H e j h).elim
  |ok fl =>
   cases fl with
   |next=>exact False.elim h
   |brk=>exact False.elim h
   |cont=>exact False.elim h
   |ret u =>
    obtain⟨v,H',os,C,Z,A,r',q⟩:=h
    have q':v=.bl true:=q
    subst q'
    obtain rfl:u=Value.bool true:=r'
    refine⟨rfl,OldK.of_keep λb o e=>?_,os,C⟩
    cases q:H b with
    |none=>exact Z.keep b o e q (by intro z;exact absurd (show b∈([]:xW)from z) (by simp)) (by simp)
    |some u =>
     rcases hO b with z|⟨ob,xs,z⟩
     .rw[q]at z;cases z
     .have z2:=Z.frzs b ob _ z
      obtain⟨e1,_⟩:=D b _ z
      obtain⟨e2,_⟩:=A b _ z2
      rw[e]at e1;cases e1
      exact e2
 cases X:K.lookup a with
 |some o =>
  -- the script is one of the module's own objects
  have e:=KX a o X
  rw[O]at e
  cases e
  refine p (λ_=>none) (λ_=>.inl rfl) (.inr ⟨_,t.toArray,_,X,rfl,rfl,rfl,by rw[t9,L];exact hl,by simpa using rv⟩) (λb u z=>by have B:(none:Option HO)≈u:=z;cases B) (λb z=>absurd rfl z) λz=>absurd rfl z
 |none =>
  refine p (λb=>if b=a then some (.frz { cls:=.type "list",data:=.seq t.toArray } (.lst (ns.map V.int)))else none) (λb=>?_) (.inl (.inr ⟨{ cls:=.type "list",data:=.seq t.toArray },q4 rfl⟩)) (λb u z=>?_) (λb z=>?_) λ_=>X
  .by_cases g:b=a
   .exact .inr ⟨_,_,q4 g⟩
   .exact .inl (j4 g)
  .by_cases g:b=a
   .have B:=(q4 g).symm.trans z
    cases B
    subst g
    exact⟨O,by rw[u8];exact hl,t,_,rv,O⟩
   .have B:=(j4 g).symm.trans z
    cases B
  .by_cases g:b=a
   .exact g
   .exact absurd (j4 g) z
def walk_of {l:PySem.W.OpenLaw}{k:Nat}{g:zG}{YP:World->Heap->Prop}{d:DefRec}{K:Params->PySem.W.Frag}{CX:World->cQ}{sp:World->Sp}(O:l.most≈n)(t:n<=sizeLine)(A:d.params.defaults=[])(P:xc k callerA)(J:∀ (w:World) (h:Heap),YP w h->(K w.params).In h) (F:∀ (w:World) (j:wm) (r:Addr) (h:Heap),(K w.params).In h->h.Ns mainGlobals j->j d.name≈(.ref r) ->
 ∃ B:FuncData,(∀ (s:zn) (u:Value),BindsTo s B ⟨[u],[]⟩ [(x,u)]) /\
  ∀ b:Heap,(K w.params).In b->b.Ns mainGlobals j->xt l.prog w (K w.params) j b (CX w) k r B [x] (sp w)) (C:∀ (w:World) (H:Hp) (a:Addr) (ns:zB),ns.length<=n->Cv H->aK (K w.params) H a (ns.map V.int)->sp w [.ref a] H (λv _=>v=.bl true) λ_ _ _=>False) (y:∀ (w:World) (H:Hp) (s:zn) (e:Value) (D:zn),CX w [] H s (λ_ _ _=>False) e D->False) :
 PySem.W.WalkO q g XP YP l.row.toRowW d [] (λf E=>PySem.call f E):=by
 refine Att.attach_call O A λw s₀ m j T r o X S I a E ns G Y W U N z p i c L=>?_
 have KX:=J w _ Y
 obtain⟨B,Q,R⟩:=F w j r _ KX G.T.g z
 exact zku KX G.T.g G.T.b G.T.builtins G.T.nolimit L p i (r6 c t) P R Q (λH M hS=>C w H a ns c M hS) λH e D=>y w H m e D
def we (s:Stmt):Arguments:=match s with
 |.FunctionDef _ a _ _ _ _ _ _ _ _=>a
 |_=>{ posonlyargs:=[],args:=[],vararg:=none,kwonlyargs:=[],kw_defaults:=[],kwarg:=none,defaults:=[] }
def ya (s:Stmt):vu:=match s with
 |.FunctionDef _ _ b _ _ _ _ _ _ _=>b
 |_=>[]
def zm (s:Stmt):Scope:=match s with
 |.FunctionDef _ _ _ _ _ _ sc _ _ _=>sc
 |_=>{ kind:=.function,names:=[],isGenerator:=false,isCoroutine:=false }
abbrev aM:cQ:=λ_ _ _ _ _ _=>False
abbrev E0:XK:=λ_ _ _=>False
def gK:wJ aM X E0:=λ_ _ _ _ _ _ _ h=>h.elim
structure bQ (K:zx) (x qual:Str) (st:Stmt) (f:Addr) (fd:wL):Prop where
 ex:∃ (oc:Value) (od:yN) (kV doc pm:Value) (an:yN) (cdv ct:Value) (osl:Array (Option Value)),
  fd=W.fnOf x qual (we st) (ya st) (zm st) .none kV doc pm an cdv ct/\K.lookup f≈⟨oc,od,.func fd,osl⟩/\W.codeIn K cdv qual=true
 kp:W.keepIn K (.ref f)=true
section
variable {P:zM}{w:World}{K:zx}{mg:wm}{base:Heap}
def bQ.ok {f:Addr}{N j:zG}{k:Nat}{g:Sp}(F:bQ K x a e f n)(S:yz N j (zm e))(m:∀ c H Q E,g c H Q E->c.length=j.length) (d:∀ (b:Value) (A:zN) (outer:List Env) (s:zn) (H:Hp) (c:zy) (Q:VK) (E:XK),xc k (A.deeper (envOfC a (zm e) s.heap.objs.size f b))->g c H Q E ->
 ∃ t,bF (vd aM P w K mg base N a (zm e) f b A outer s H E).nox (ya e) t/\t { nx:=λ_ H'=>Q .non H',rt:=Q } (start N c) H):xt P w K mg base aM (k+1) f n j g:=by
 obtain⟨v,z,kV,p,y,B,b,ct,r,rfl,o,l⟩:=F.ex
 refine JG o l S m λA outer s H c Q E u i=>?_
 obtain⟨t,h,q⟩:=d b A outer s H c Q E u i
 exact⟨t,h.nox,q⟩
def bQ.binds {d:Stmt}{f:Addr}{ps:zG}(F:bQ K x a d f j)(h:∀ (kV c e:Value) (i:yN) (b ct:Value) (g:zz),g.length=ps.length->bindArgs (W.fnOf x a (we d) (ya d) (zm d) .none kV c e i b ct) ⟨g,[]⟩=pure (ps.zip g)):xx K j ps []:=by
 obtain⟨m,o,kV,c,e,i,b,ct,k,rfl,n,l⟩:=F.ex
 exact .all (h kV c e i b ct)
def XB {x a:Str}{st:Stmt}{f:Addr}{i:Value}{j h:yN}{e:Array (Option Value)}{kV d g b ct:Value}(l:K.lookup f≈⟨i,j,.func (W.fnOf x a (we st) (ya st) (zm st) .none kV d g h b ct),e⟩)
 (c:W.codeIn K b a=true) (k:W.keepIn K (.ref f)=true):bQ K x a st f (W.fnOf x a (we st) (ya st) (zm st) .none kV d g h b ct):=⟨⟨i,j,kV,d,g,h,b,ct,e,rfl,l,c⟩,k⟩
end
def JF {A:zN}{k:Nat}(a:xc k A):A.units+1<cLine:=i8 (pZ (by decide:1<=64) _) a.units
def wa {n:Nat}(h:n<=1000):n<sizeLine:=i8 h ⋯
section
variable {X:Cx}
def pv (i:Nat) (c:X.N[i]?≈x:=by rfl) (d:eY X.env.scope x:=by first | exact Or.inl rfl | exact Or.inr (Or.inl rfl) | exact Or.inr (Or.inr rfl)) (e:(x == ("__debug__":Str))=false:=by decide) (a:(x == ("__classdict__":Str))=false:=by decide):PE X (.Name x b) (Zh i):=U5 c d e a
end
def zS (H H':Hp):Prop:=∀ b o,H b≈o->H' b≈o
def zS.refl (H:Hp):zS H H:=λ_ _ h=>h
def zS.trans (a:zS H H1)(b:zS H1 H2):zS H H2:=λc o h=>b c o (a c o h)
def zS.free {H H':Hp}(e:zS H H')(h:H' l=Option.none):H l=Option.none:=by
 cases q:H l with
 |none=>rfl
 |some o =>
  rw[e l o q]at h
  cases h
def zS.seq {K:zx}{H H':Hp}{a:Addr}{b:zy}(e:zS H H')(h:aK K H a b):aK K H' a b:=by
 rcases h with (h|⟨o,h⟩)|h
 .exact .inl (.inl (e _ _ h))
 .exact .inl (.inr ⟨o,e _ _ h⟩)
 .exact .inr h
section
variable {κ:Type}[DecidableEq κ]
def dJ (a:List (κ × V))(k:κ):Option V:=(a.find? λb=>decide (b.1=k)).map (·.2)
def dm (a:List (κ × V))(k:κ)(v:V):List (κ × V) :=
 if (a.any λb=>decide (b.1=k)) then a.map (λb=>if b.1=k then (b.1,v)else b)else a++[(k,v)]
def Wk {p:κ × V}{k:κ}(e:p.1=k):dJ (p::r) k≈p.2:=by simp[dJ,mC,e]
def Wg {p:κ × V}{k:κ}(e:¬ p.1=k):dJ (p::r) k=dJ r k:=by simp[dJ,mC,e]
def Gb (k:κ):∀ a:List (κ × V),(a.any λb=>decide (b.1=k))=(dJ a k).isSome
 |[]=>rfl
 |p::r=>by
  rw[lO]
  by_cases e:p.1=k
  .simp only[Wk e,t8 e,Bool.true_or,Option.isSome_some]
  .rw[Wg e,t6 e,Bool.false_or];exact Gb k r
def WB (a:List (κ × V))(k:κ)(v:V):(dm a k v).length<=a.length+1:=by
 unfold dm
 split
 .rw[u8];omega
 .rw[k7,r4,Ai];omega
def cV.isSome_eq {o:Option V}{u:Option Value}(r:cV o u):o.isSome=u.isSome:=by
 cases o with
 |none=>cases u with
  |none=>rfl
  |some _=>exact(show False from r).elim
 |some _=>cases u with
  |none=>exact(show False from r).elim
  |some _=>rfl
def KV.val {g:List (κ × Value)}(r:KV a g)(k:κ):cV (dJ a k) (valueAt g k):=by
 unfold KV at r
 induction r with
 |nil=>exact True.intro
 | @cons p q l c h t j =>
  obtain⟨f,i⟩:=h
  by_cases e:p.1=k
  .have d:q.1=k:=f.symm.trans e
   have b:valueAt (q::c) k≈q.2:=by simp[valueAt,mC,d]
   rw[Wk e,b];exact i
  .have d:¬ q.1=k:=λz=>e (f.trans z)
   have b:valueAt (q::c) k=valueAt c k:=by simp[valueAt,mC,d]
   rw[Wg e,b];exact j
def KV.any {a:List (κ × V)}{c:List (κ × Value)}(r:KV a c)(k:κ):(a.any λb=>decide (b.1=k))=c.any λb=>decide (b.1=k):=by
 unfold KV at r
 induction r with
 |nil=>rfl
 |cons h t d=>rw[lO,lO,d,h.1]
def KV.repl {b:List (κ × V)}{d:List (κ × Value)}(r:KV b d)(k:κ)(i:y0 y u) :
 KV (b.map λa=>if a.1=k then (a.1,y)else a) (d.map λa=>if a.1=k then (a.1,u)else a):=by
 unfold KV at r ⊢
 induction r with
 |nil=>exact .nil
 | @cons p q j l h t g =>
  rw[o4,o4]
  refine .cons ?_ g
  obtain⟨c,f⟩:=h
  by_cases e:p.1=k
  .rw[q4 e,q4 (c.symm.trans e)];exact⟨c,i⟩
  .rw[j4 e,j4 (λz=>e (c.trans z))];exact⟨c,f⟩
def KV.put (r:KV a b)(k:κ)(c:y0 y u):KV (dm a k y) (stored b k u):=by
 unfold dm stored
 rw[r.any k]
 by_cases e:(b.any λd=>decide (d.1=k))=true
 .rw[q4 e,q4 e];exact r.repl k c
 .rw[j4 e,j4 e];exact Paired.snoc r ⟨rfl,c⟩
def KV.length {a:List (κ × V)}{b:List (κ × Value)}(r:KV a b):a.length=b.length:=Al r
end
def Dr {w:World}{k:aD}(r:y0 (kV k) u):(wt P w).is k u=true:=by
 cases k with
 |inl i=>obtain⟨t,e⟩:=(show ∃ t,u=Value.int i t from r);subst e;exact zc8 P w i t
 |inr x=>obtain⟨t,e⟩:=(show ∃ t,u=Value.str x t from r);subst e;exact zdJ P w x t
def Qw {w:World}:∀ {a:List aD} {b:zz},ym (a.map kV) b->ItemsAre (wt P w) a b
 |[],_,r=>by rw[List.map_nil]at r;cases r;exact .nil
 |k::a,_,r=>by
  rw[o4]at r
  cases r with
  |cons h t=>exact .cons (Dr h) (Qw t)
abbrev KT (H:Hp):gO->List (List aD × Addr × Value)->Prop:=Paired λp q=>p.1=q.1/\H q.2.1≈(.tup (p.1.map kV))/\y0 p.2 q.2.2
def KT.val {f:List (List aD × Addr × Value)}(r:KT H a f)(k:List aD):cV (dJ a k) ((atKey f k).map (·.2)):=by
 induction r with
 |nil=>exact True.intro
 | @cons p q l c h t j =>
  obtain⟨g,_,i⟩:=h
  by_cases e:p.1=k
  .have d:q.1=k:=g.symm.trans e
   have b:atKey (q::c) k≈q.2:=by simp[atKey,mC,d]
   rw[Wk e,b];exact i
  .have d:¬ q.1=k:=λz=>e (g.trans z)
   have b:atKey (q::c) k=atKey c k:=by simp[atKey,mC,d]
   rw[Wg e,b];exact j
def KT.repl {a:gO}{d:List (List aD × Addr × Value)}(r:KT H a d)(k:List aD)(j:y0 y u) :
 KT H (a.map λc=>if c.1=k then (c.1,y)else c) (d.map (putAt k u)):=by
 induction r with
 |nil=>exact .nil
 | @cons p q l m h t i =>
  rw[o4,o4]
  refine .cons ?_ i
  obtain⟨b,f,g⟩:=h
  unfold putAt
  by_cases e:p.1=k
  .rw[q4 e,q4 (b.symm.trans e)];exact⟨b,f,j⟩
  .rw[j4 e,j4 (λz=>e (b.trans z))];exact⟨b,f,g⟩
def KT.put {H:Hp}(r:KT H a c)(k:List aD)(f:H b≈(.tup (k.map kV)))(d:y0 y u) :
 KT H (dm a k y) (storedH c k b u):=by
 have e:(a.any λg=>decide (g.1=k))=(atKey c k).isSome:=by
  rw[Gb,(r.val k).isSome_eq,Bb]
 unfold dm storedH
 rw[e]
 by_cases q:(atKey c k).isSome=true
 .rw[q4 q,q4 q];exact r.repl k d
 .rw[j4 q,j4 q];exact Paired.snoc r ⟨rfl,f,d⟩
def KT.keeps {H H':Hp}(r:KT H a c)(e:∀ b d,H b≈(.tup d)->H' b≈(.tup d)):KT H' a c :=
 Paired.mapP r λ_ _ z=>⟨z.1,e _ _ z.2.1,z.2.2⟩
section
variable {P:zM}{w:World}{H:Hp}{h:Heap}{a:Addr}
def Jq (ok:bj P w H h)(e:Rd H a u):yM P w H h a u:=e.ok ok
def Jg {b:List (aD × V)}(ok:bj P w H h)(e:Rd H a (.dK b)):b.length<=sizeLine/\(a == sysModules)=false/\∃ c,KV b c/\h.DictOf (wt P w) a c :=
 show yM P w H h a (.dK b)from Jq ok e
def Te {b:List (aD × V)}(ok:bj P w H h)(e:H a≈(.dK b)):b.length<=sizeLine/\(a == sysModules)=false/\∃ c,KV b c/\h.DictOf (wt P w) a c:=Jg ok (.inl e)
def DW {c:List aD}(ok:bj P w H h)(e:H a≈(.tup (c.map kV))):(tupleKind (wt P w)).is h c a:=by
 obtain⟨_,b,r,o,g,d,n,f⟩:=(show yM P w H h a (.tup (c.map kV))from ok a _ e)
 exact⟨o,b.toArray,n,g,d,f,by simpa using Qw r⟩
def JC {b:gO}(ok:bj P w H h)(e:Rd H a (.dT b)):b.length<=sizeLine/\(a == sysModules)=false /\
 ∃ d,KT H b d/\h.DictOfH (tupleKind (wt P w)) a d:=by
 obtain⟨z,y,d,r,o,s,A,j,n,i,u,k⟩:=(show yM P w H h a (.dT b)from Jq ok e)
 refine⟨z,y,d,r,o,s,A,j,n,i,u,λx c=>?_,k⟩
 have f:∀ {l:gO} {m:List (List aD × Addr × Value)},KT H l m->∀ x∈m,(tupleKind (wt P w)).is h x.1 x.2.1:=by
  intro l m q
  induction q with
  |nil=>intro x c;exact nomatch c
  | @cons p q B C g t v =>
   intro x c
   rcases q5.mp c with e|c
   .subst e
    exact DW ok (by rw[<-g.1];exact g.2.1)
   .exact v x c
 exact f r x c
def RQ {b:gO}(ok:bj P w H h)(e:H a≈(.dT b)):b.length<=sizeLine/\(a == sysModules)=false /\
 ∃ c,KT H b c/\h.DictOfH (tupleKind (wt P w)) a c:=JC ok (.inl e)
end
def Cp (H:Hp)(a:Addr)(y:V)(r:Option V):Prop :=
 (∃ c k,Rd H a (.dK c)/\y=kV k/\r=dJ c k)\/∃ c k b,Rd H a (.dT c)/\y=.ref b/\H b≈(.tup (k.map kV))/\r=dJ c k
def gm (H:Hp)(a:Addr)(y v:V)(H':Hp):Prop :=
 (∃ c k,H a≈(.dK c)/\y=kV k/\c.length<sizeLine/\H'=aA H a (.dK (dm c k v))) \/
 ∃ c k b,H a≈(.dT c)/\y=.ref b/\H b≈(.tup (k.map kV))/\c.length<sizeLine/\H'=aA H a (.dT (dm c k v))
def gm.k {H:Hp}{b:List (aD × V)}{k:aD}(e:H a≈(.dK b))(c:b.length<sizeLine):gm H a (kV k) v (aA H a (.dK (dm b k v))):=.inl ⟨b,k,e,rfl,c,rfl⟩
def gm.t {H:Hp}{c:gO}{k:List aD}(e:H a≈(.dT c))(d:H b≈(.tup (k.map kV)))(f:c.length<sizeLine) :
 gm H a (.ref b) v (aA H a (.dT (dm c k v))):=.inr ⟨c,k,b,e,rfl,d,f,rfl⟩
section
variable {X:Cx}{pins:xv}{σ:St}{H:Hp}{s:zn}{a:Addr}{y v:V}{u r:Value}{o:Option V}{A:zN}{E:yI}
def aa.big (I:aa X pins σ H s):sysModules<s.heap.objs.size:=by
 have h:mainGlobals<s.heap.objs.size:=(I.mod.glob.keeps I.bk).lt
 exact Nat.lt_trans ⋯ h
def Ir {Q:yI}(p:A.units+1<cLine)(I:aa X pins σ H s)(g:Cp H a y o)(m:y0 y u)(h:∀ n,aa X pins σ H n->Q (.bool o.isSome) n) :
 wpAny (model X.prog X.w) A (compareOp .In u (.ref a)) Q E s:=by
 rcases g with ⟨f,k,e,j,l⟩|⟨f,k,b,e,j,r,l⟩
 .subst j
  obtain⟨z,d,v,c,i⟩:=Jg I.hok e
  refine wpAny_in_of (Dr m) d i.mapOf ?_
  rw[<-(c.val k).isSome_eq,<- l]
  exact h _ (I.tok _)
 .subst j
  cases (show u=Value.ref b from m)
  obtain⟨z,d,t,c,i⟩:=JC I.hok e
  refine wpAny_in_heap (tupleKind_room_in1 p) (DW I.hok r) d i ?_
  have q:=(c.val k).isSome_eq
  rw[Bb]at q
  rw[<-q,<- l]
  exact h _ (I.tok _)
def Nf {c:Heap}{i:Nat}{f:HO}(I:aa X pins σ H s)(k:mO (H a))(g:Heap.SameBut a s.heap c)(h:∃ q,c.get? a≈q)(d:yM X.prog X.w (aA H a f) c a f) :
 aa X pins σ (aA H a f) { s with heap:=c,toks:=i } :=
 I.write (x:=a) (e:=a) k (.inl rfl) (λb q j z=>(g.2 b j).trans z) h d
def U6 {w:World}{e:Heap}{b:List (aD × V)}{d:List (aD × Value)}(z:b.length<=sizeLine)(f:(a == sysModules)=false)(c:KV b d)(g:e.DictOf (wt P w) a d) :
 yM P w H' e a (.dK b):=⟨z,f,d,c,g⟩
def zgg {Q:Unit->Shared->Prop}(R:A.units+1<cLine)(I:aa X pins σ H s)(g:gm H a y v H')(J:y0 y u)(G:y0 v r)(h:∀ D,aa X pins σ H' D->Q () D) :
 wpAny (model X.prog X.w) A (setItem (.ref a) u r) Q E s:=by
 rcases g with ⟨d,k,e,w,l,x⟩|⟨d,k,b,e,w,C,l,x⟩
 .subst w x
  obtain⟨z,m,L,f,n⟩:=Te I.hok e
  have o:L.length<=sizeLine:=by rw[<-f.length];exact z
  have p:(dm d k v).length<=sizeLine:=by have:=WB d k v;omega
  refine wpAny_setItem_pairs (hsz:=o) (Dr J) n λF i t=>h _ ?_
  have U:∃ q,F.get? a≈q:=let ⟨q,_,_,j,_⟩:=i;⟨q,j⟩
  exact Nf I (by rw[e];exact True.intro) t U (U6 p m (f.put k G) i)
 .subst w x
  cases (show u=Value.ref b from J)
  obtain⟨z,m,K,f,n⟩:=RQ I.hok e
  have o:K.length<=sizeLine:=by rw[<-Al f];exact z
  have p:(dm d k v).length<=sizeLine:=by have:=WB d k v;omega
  refine wpAny_setItem_heap (hsz:=o) (tupleKind_room_in1 R) (DW I.hok C) n λF i t=>h _ ?_
  obtain⟨q,N,P,j,M,S,O,_,T⟩:=i
  refine Nf I (by rw[e];exact True.intro) t ⟨q,j⟩ ⟨p,m,_,(f.put k C G).keeps λc V B=>?_,q,N,P,j,M,S,O,T⟩
  rw[zj (sU B e (λz=>nomatch z))]
  exact B
end
def Tg (c ty d:TE):TS:=λD b H=>d b H λv H1=>c b H1 λx H2=>ty b H2 λy H3=>∃ a H4,x=.ref a/\gm H3 a y v H4/\D.nx b H4
section
variable {X:Cx}{o i e value:Expr}{pos pos' tpos:Pos}{td ty tv:TE}
def znk (k:X.A.units+1<cLine)(d:PE X o td)(e:PE X i ty)(n:PE X value tv)(j:swapsWith value (some (.Subscript o i pos')) pos.line X.env=pure false) :
 PS X (.Assign [.Subscript o i pos'] value pos) (Tg td ty tv):=by
 intro b s c H D I h
 refine wpAny_Assign_Subscript (aC (n b s c H _ I h) λr w ⟨v,H1,I1,l,t⟩=>aC (d b w c H1 _ I1 t) λu p ⟨x,H2,I2,q,f⟩=>aC (e b p c H2 _ I2 f) λC B hh9=>?_) j
 obtain⟨y,H3,I3,z,a,H4,ex,g,m⟩:=hh9
 subst ex
 obtain rfl:u=Value.ref a:=q
 exact zgg k I3 g z l λA I4=>⟨c,H4,I4,m⟩
end
def zjN {w:World} (h:Heap) (a:sysModules<h.objs.size):yM P w H (h.push { cls:=.type "dict",data:=.dict #[] }) h.objs.size (.dK []) :=
 ⟨cX _,g8.mpr (bw (j9 a)),[],.nil,Heap.DictOf.new h⟩
def zkb {w:World} (h:Heap) (a:sysModules<h.objs.size):yM P w H (h.push { cls:=.type "dict",data:=.dict #[] }) h.objs.size (.dT []) :=
 ⟨cX _,g8.mpr (bw (j9 a)),[],.nil,_,#[],0,j5 _ rfl,⟨rfl,rfl,rfl⟩,rfl,rfl,pP⟩
def zo5:TE:=λ_ H Q=>∀ p,H p=none->Q (.ref p) (aA H p (.dK []))
def Uj:TE:=λ_ H Q=>∀ p,H p=none->Q (.ref p) (aA H p (.dT []))
section
variable {X:Cx}{pos:Pos}
def zkI:PE X (.Dict [] [] pos) zo5:=λb s c H Q I h =>
 wpAny_Dict_empty ⟨.ref s.heap.objs.size,_,I.laid (a:=s.heap.objs.size) (o:=.dK []) (t':=s.toks) (λ_ _ q=>u6 _ q) (t7 _) (zjN s.heap I.big),rfl,h _ (I.hok.fresh (t7 _))⟩
def zky:PE X (.Dict [] [] pos) Uj:=λb s c H Q I h =>
 wpAny_Dict_empty ⟨.ref s.heap.objs.size,_,I.laid (a:=s.heap.objs.size) (o:=.dT []) (t':=s.toks) (λ_ _ q=>u6 _ q) (t7 _) (zkb s.heap I.big),rfl,h _ (I.hok.fresh (t7 _))⟩
end
def zdP {X:Cx}:v5 X (.builtin "isinstance") (λa H Q=>∃ x n t b,a=[x,.ty n]/\dF X.K H x t/\W.kitOne X.K t (.type n)≈b/\Q (.bl b) H):=by
 intro c s j H a i Q I r h
 obtain⟨x,n,t,b,rfl,ty,e,q⟩:=h
 obtain⟨u,f,rfl,d,rt⟩:=kY r
 cases (show f=Value.type n from rt)
 exact zf2 I d ty e λg=>⟨.bl b,H,I.tok _,rfl,q⟩
def zjj:aP X (compareOp .Is) (λx y H Q=>∃ i j,x=.bl i/\y=.bl j/\Q (.bl (i == j)) H):=by
 intro a s d H x y v u Q I b c h
 obtain⟨i,j,rfl,rfl,q⟩:=h
 cases b
 cases c
 refine wpAny_is_plain (by rfl) ⟨.bl (i == j),H,I,?_,q⟩
 cases i <;> cases j <;> rfl
def zdu:aP X (compareOp .IsNot) (λx y H Q=>∃ i j,x=.bl i/\y=.bl j/\Q (.bl (!(i == j))) H):=by
 intro a s d H x y v u Q I b c h
 obtain⟨i,j,rfl,rfl,q⟩:=h
 cases b
 cases c
 refine wpAny_isNot_plain (by rfl) ⟨.bl (!(i == j)),H,I,?_,q⟩
 cases i <;> cases j <;> rfl
def K5 (K:zx):R2:=λx y H Q=>∃ a b c d,x=.ref a/\y=.ref b/\aJ K H a c/\aJ K H b d/\c.length+d.length<=sizeLine /\
 (c=[]->Q (.ref b) H)/\(c≠[]->d=[]->Q (.ref a) H)/\(c≠[]->d≠[]->∀ p,H p=none->Q (.ref p) (aA H p (.tup (c++d))))
def zkN {X:Cx}:aP X (binaryOp .Add) (K5 X.K):=by
 intro i s M H x y v u Q I A C h
 obtain⟨a,b,o,L,rfl,rfl,w,D,G,J,P,K⟩:=h
 by_cases j:o=[]
 .subst j
  cases A
  cases C
  obtain⟨N,r,p,_⟩:=I.tuple w
  obtain⟨f,S,R,_⟩:=I.tuple D
  cases r
  obtain⟨⟨cls,E,data,O⟩,t,B,n,q⟩:=id p
  obtain⟨⟨z,l,m,k⟩,g,c,F,d⟩:=id R
  simp only at B q c d
  subst B q c d
  exact concat_meets ⟨_,t,rfl⟩ ⟨_,g,rfl⟩ noFill_tuple_add seq_tuple_add Hj Hk (Hc _ _)
   (tuple_addW0 a b #[] f.toArray n F E l O k rfl) ⟨t,g,⟨.ref b,H,I,rfl,J rfl⟩⟩
 .refine zms i s M H (.ref a) (.ref b) v u Q I A C ⟨a,b,o,L,rfl,rfl,w,D,j,G,?_⟩
  exact⟨λe=>P j e,λe=>K j e⟩
inductive Xq:St->St->Prop where
 |nil:Xq [] []
 |non {a:Option V} {s t:St}:Xq s t->Xq (none::s) (a::t)
 |same {a:Option V} {s t:St}:Xq s t->Xq (a::s) (a::t)
def Xq.refl:∀ s:St,Xq s s
 |[]=>.nil
 |_::r=>.same (Xq.refl r)
def Xq.length {s t:St}(h:Xq s t):s.length=t.length:=by
 induction h with
 |nil=>rfl
 |non _ a=>simp[a]
 |same _ a=>simp[a]
def Xq.get {t:St}(h:Xq s t):∀ (i:Nat) (v:V),s[i]?≈(some v)->t[i]?≈(some v):=by
 induction h with
 |nil=>intro i v e;exact e
 |non _ a =>
  intro i v e
  cases i with
  |zero=>simp at e
  |succ i=>simpa using a i v (by simpa using e)
 |same _ a =>
  intro i v e
  cases i with
  |zero=>simpa using e
  |succ i=>simpa using a i v (by simpa using e)
def Xq.set {n:Nat}:∀ {s t:St},Xq s t->s[n]?≈none->Xq s (t.set n (some v))
 |_,_,.nil,_=>.nil
 |_,_,.non (a:=a) h,e=>by
  cases n with
  |zero=>exact .non h
  |succ n=>exact .non (Xq.set h (by simpa using e))
 |_,_,.same (a:=a) h,e=>by
  cases n with
  |zero =>
   have b:a=none:=by simpa using e
   subst b
   exact .non h
  |succ n=>exact .same (Xq.set h (by simpa using e))
def aa.sub (I:aa X a c H s)(h:Xq b c):aa X a b H s:=I.weak h.length h.get
def qR (X:Cx)(b:yO)(t:TT):Prop :=
 ∀ (a:xv) (s:zn) (d:St) (H:Hp) (Q:Bool->Hp->Prop),aa X a d H s->t d H Q ->
  wpAny (model X.prog X.w) X.A (forIn b true λc r=>if r then do let ok<-isTrue c X.env (eval c X.env);pure (ForInStep.yield ok)else pure (ForInStep.yield r)) (TP X a d Q) X.xe s
def qi:TT:=λ_ H Q=>Q true H
def Oz:qR X [] qi:=by
 intro a s b H Q I h
 rw[Ao]
 exact t5 ⟨H,I,h⟩
def M8 {t:TT}(e:PT X c t):qR X [c] t:=by
 intro a s d H Q I h
 rw[pW]
 refine u5 ?_
 rw[q4 rfl]
 refine u5 (aC (e a s d H Q I h) λb f q=>t5 ?_)
 show wpAny _ _ (forIn [] b _) _ _ _
 rw[Ao]
 exact t5 q
section
variable {prog:zM}{w:World}{A:zN}{R:Result->Shared->Prop}{s:zn}
def Y9 {k:Expr}{D:Pos}{t:Value}(I:Nat->Shared->Prop) (turn:∀ n s,I n s->wpAny (model prog w) A (pyNext E) (λr b=>match r with
 |none=>R (.ok .next) b
 |some v=>wpAny (model prog w) A (letOwnedTupleGo a E v) (λ_ d=>wpAny (model prog w) A (assign a env v) (λ_ i =>
  wpAny (model prog w) A (forIn q true λc r=>if r then do let ok<-isTrue c env (eval c env);pure (ForInStep.yield ok)else pure (ForInStep.yield r)) (λok f =>
   if ok then wpAny (model prog w) A (eval u env) (λx o =>
    wpAny (model prog w) A (call (.builtin "list.append") [t,x]) (λ_ l=>∃ m,m<n/\I m l) (λ_ _=>False) o) (λ_ _=>False) f
   else ∃ m,m<n/\I m f) (λ_ _=>False) i) (λ_ _=>False) d) (λ_ _=>False) b) (λ_ _=>False) s) (n:Nat) (h:I n s) :
 codeAny (model prog w) A (.compLoop (.ListComp u [⟨a,k,q,0⟩] e D) 0 E t env) R s:=by
 refine codeAny_loop rfl I (λn s F=>?_) n h
 show wpAny _ A ((compTurn (.ListComp u [⟨a,k,q,0⟩] e D) 0 E t env).onRaise (λx=>do noteFrame x env;theTreesLotGoes x)) _ _ s
 refine wpAny_noted ?_
 rw[compTurn_list]
 refine u5 (jC (u5 (p0 (turn n s F) (λr b p=>?_) λ_ _ g=>g.elim)))
 cases r with
 |none=>exact t5 p
 |some v =>
  refine u5 (p0 p (λ_ d y=>?_) λ_ _ g=>g.elim)
  refine u5 (p0 y (λ_ i z=>u5 (p0 z (λok f j=>?_) λ_ _ g=>g.elim)) λ_ _ g=>g.elim)
  cases ok with
  |false=>exact t5 ⟨rfl,j⟩
  |true =>
   exact u5 (u5 (p0 j (λx o C=>u5 (p0 C (λ_ l B=>t5 (t5 ⟨rfl,B⟩)) λ_ _ g=>g.elim)) λ_ _ g=>g.elim))
end
def Bx (j:TI)(n:Nat)(g:TG)(h:TT)(f:TE):TE:=λe H Q=>j e H λJ H1=>∀ D,H1 D=none->∃ W:Nat->Nat->zy->Hp->Prop,(∃ m,W 0 m [] (aA H1 D (.lst []))) /\
 ∀ i m a H2,W i m a H2->(J.stop i H2/\Q (.ref D) H2)\/(J.go i H2/\a.length<sizeLine/\∀ x H3,J.yld i H2 x H3->g x (List.replicate n none++e) H3 λc H4=>h c H4 λb H5 =>
  if b then f c H5 λy H6=>H6 D≈(.lst a)/\∃ d,d<m/\W (i+1) d (a++[y]) (aA H6 D (.lst (a++[y])))else ∃ d,d<m/\W (i+1) d a H5)
def Ze {d:Type}:∀ {l:List (Str × d)} {y:Str},y∈l.map Prod.fst->∃ c,l.lookup y≈c
 |[],_,h=>by simp at h
 | (k,v)::r,y,h=>by
  by_cases e:y=k
  .exact⟨v,by simp[List.lookup,e]⟩
  .obtain⟨c,b⟩:=Ze (l:=r) (y:=y) (by simpa [e]using h)
   have a:(y == k)=false:=g8.mpr e
   exact⟨c,by simp only[List.lookup,a];exact b⟩
def wU {a:Type}{P:a->Prop}:∀ p∈([]:List a),P p:=λ_ h=>nomatch h
def all_cons {c:Type}{P:c->Prop}{a:c}{l:List c}(h:P a)(t:∀ p∈l,P p):∀ p∈a::l,P p:=λp b=>by
 rcases q5.mp b with e|b
 .rw[e];exact h
 .exact t p b
def eX (b:St)(v:V)(H:Hp)(Q:Ya)(h:VH 0 v (List.replicate 1 none++b) H Q):VH 0 v (List.replicate 1 none++b) H (λa H2=>Xq (List.replicate 1 none++b) a/\Q a H2):=⟨.set (.refl _) rfl,h⟩
def YY (X:Cx)(L M:zG)(a:Scope)(b:Vh)(s₀:zn)(H₀:Hp)(ex:xW)(pn:xv):Cx :=
 { X with N:=L++M,s₀:=s₀,H₀:=H₀,env:=compEnvC a b s₀.heap.objs.size X.env,outer:=X.stack,stack:=X.stack,ex:=ex,fn:=λ_=>false,pn:=pn,xe:=λ_ _=>False }
structure xU (X:Cx) (L M:zG) (scope:Scope) (cl:Vh):Prop where
 clos:closureFor scope X.env=pure cl
 cell:∀ y∈scope.names,y.2≠.cell
 kind:scope.kind=.function
 names:∀ y∈scope.names,y.2=.local->scope.names.lookup y.1≈.local
 sub:∀ y c,cl.lookup y≈c->X.env.cells.lookup y≈c
 has:∀ y,((relabel scope X.env).names.lookup y≈.cell\/(relabel scope X.env).names.lookup y≈.free)->∃ c,cl.lookup y≈c
 mlen:M.length=X.N.length
 msk:∀ (i:Nat) y,M[i]?≈y->eY (relabel scope X.env) y->X.N[i]?≈y
 vis:∀ (i:Nat) y,M[i]?≈y->eY (relabel scope X.env) y->((relabel scope X.env).names.lookup y≈.cell\/(relabel scope X.env).names.lookup y≈.free)
 out:∀ (i:Nat) y,M[i]?≈y->eY (relabel scope X.env) y->eY X.env.scope y/\X.env.kindOf y≠some .local
def aa.letGo {k:St}{s:zn}(I:aa X a k H s)(f:dD X a H C)(g:Heap.SameBut C s.heap i):aa X a k H { s with heap:=i }:=by
 obtain⟨l,r,y,w,u,p⟩:=f
 have h:∀ b,b∉[C]->b≠C:=λb j z=>j (by rw[z];exact j6.mpr rfl)
 refine I.call' (s':={ s with heap:=i }) (ch:=[C]) rfl ⟨λb o e _ _ d=>(g.2 b (h b d)).trans e,λb o e _ _ d=>⟨o.slots,(g.2 b (h b d)).trans e⟩,λ_ _ _ n _=>n,λb o e d=>⟨o,(g.2 b (h b d)).trans e⟩,λ_ _ q=>q,λ_ _ _ q=>q,λ_ x q=>⟨#[],by rw[q];simp⟩⟩ ?_ I.bare λb j=>?_
 .intro b m e
  refine(I.hok b m e).stay (λc v t q=>(g.2 c ?_).trans q) (λ_ q=>q) λ_ _ q=>q
  rintro rfl
  rcases t with z|z
  .rw[<-z,l]at e;cases e
  .rw[l]at z;cases z
 .rw[j6.mp j]
  exact⟨w,r,u,p⟩
def M4 {X:Cx}{w:Expr}{L:zG}{g:TG}{tt:TT}(hc:X.calm=true)(S:xU X L M a cl)(hi:PI X tg w wi)(d7:∀ (t:St) (v:V) (H:Hp) (Q:Ya),g v (List.replicate L.length none++t) H Q->g v (List.replicate L.length none++t) H (λd6 H2=>Xq (List.replicate L.length none++t) d6/\Q d6 H2))(hg:∀ s₀ H₀ ex pn,PG (YY X L M a cl s₀ H₀ ex pn) tg g)(ht:∀ s₀ H₀ ex pn,qR (YY X L M a cl s₀ H₀ ex pn) b5 tt)(he:∀ s₀ H₀ ex pn,PE (YY X L M a cl s₀ H₀ ex pn) a9 te)(hs:∀ x,foldedSetIterable w X.env x=pure x:=by intro _;rfl) :
 ∀ (U:Pos) (f:xv) (s:zn) (t:St) (H:Hp) (Q:VK),aa X f t H s->Bx wi L.length g tt te t H Q ->
  (∀ (D C:Addr) (H':Hp) (K:zn),aa X f t H' K->(∃ m,K.heap.Ns C m)->dD X f H' C->Q (.ref D) H'->compPost (model X.prog X.w) X.A X.xe use Qf (.ref D) C (.ok .next) K) ->
  wpAny (model X.prog X.w) X.A (comprehension (.ListComp a9 [⟨tg,w,b5,0⟩] a d5) a X.env U (newList []) false (eval w X.env) use) Qf X.xe s:=by
 intro U f s t H Q I h fin
 refine wpAny_comprehension_free (use:=use) rfl hs S.clos S.kind S.names (aC (hi f s t H _ I h) λv s1 h1=>aC h1 λf5 l h2=>?_)
 obtain⟨it,G,tn,J,H2,e,I2,T,c3,f2,q⟩:=h2
 subst e
 have hD:H2 l.heap.objs.size=none:=I2.hok.fresh (t7 _)
 obtain⟨W,⟨m0,w0⟩,turn⟩:=q _ hD
 refine i6 (wpAny_newFunctionEnv S.cell (by intro y hy;simp at hy) (λB A E=>?_) S.kind)
 have I3:aa X f t (aA H2 l.heap.objs.size (.lst [])) { l with heap:=l.heap.push { cls:=.type "list",data:=.seq ([]:zz).toArray } }:=by
  refine I2.laid (t':=l.toks) (λb u e=>u6 _ e) (t7 _) ?_
  exact⟨cX _,[],0,.nil,j5 _ rfl⟩
 generalize d4:({ l with heap:=l.heap.push { cls:=.type "list",data:=.seq ([]:zz).toArray } }:zn)=s3 at I3 A E ⊢
 have a6:∀ b∈G,b<l.heap.objs.size:=λb j=>by
  obtain⟨o,ho,_⟩:=T.obj _ _ c3 b j
  exact q7 ho
 have f3:s3.heap.objs.size=l.heap.objs.size+1:=by rw[<-d4];exact p9 ..
 have e4:∀ b o,l.heap.get? b≈o->s3.heap.get? b≈o:=λb o e=>by rw[<-d4];exact u6 _ e
 have F:∀ b o,s3.heap.get? b≈o->B.get? b≈o:=λb o e=>(E.2 b (j9 (q7 e))).trans (u6 _ e)
 generalize d9:aA H2 l.heap.objs.size (.lst [])=H3 at I3 w0
 have c4:∀ b∈G,H3 b=none:=λb j=>by
  rw[<-d9,zj (j9 (a6 b j))]
  exact(f2 b j).1
 have c0:∀ b∈G,b∉bH X.stack:=λb j z=>by
  obtain⟨_,n1,n2,_⟩:=f2 b j
  rcases q5.mp (I3.stkSub b z)with e|e
  .exact n1 e
  .exact n2 e
 let Y:Cx:=YY X L M a cl s3 H3 G (X.pn++f)
 have OkY:Y.Ok:=by
  refine⟨I.ok.mod,S.kind,I.ok.glob,I.ok.blt,t7 _,λx y c h1 h2=>I.ok.inj x y c (S.sub x c h1) (S.sub y c h2),λx hx=>S.has x hx,(λx c h _=>absurd h u7),I.ok.hd,I.ok.frames,.inl rfl,λb j=>⟨?_,λx c e z=>?_⟩,
   λb o e=>I3.bs b o e,r6 I.ok.bsz I3.sz,λb o e j=>?_,c0,I3.stack,I3.stkFree⟩
  .show b≠s3.heap.objs.size
   exact j9 (j0 (a6 b j) (by rw[f3];exact gU _))
  .exact(f2 b j).2.2.2.2.1 x c (S.sub x c e) z
  .rcases(f2 b j).2.2.2.1 with z|z
   .exact I.ok.noex b o e z
   .have h1:=q7 e
    have h2:=I.ok.bsz
    exact absurd (j0 h1 (r6 h2 z)) (dY _)
 have I4:aa Y [] (List.replicate L.length none++t) H3 { s3 with heap:=B,toks:=s3.toks+([]:List (Str × Value)).length }:=by
  refine⟨OkY,rfl,I3.bare,Un.kept F,⟨_,A,λi y v e1 e2 e3=>?_⟩,λx c e=>?_,I3.hok.fresh (t7 _),λx c e=>I3.freeC x c (S.sub x c e),λp hp=>?_,I3.hok.kept F,?_⟩
  .have hi:¬ i<L.length:=λe9=>by
    rw[g6 (by simpa using e9),lY]at e2
    split at e2 <;> cases e2
   have a7:M[i-L.length]?≈y:=by
    have e1:(L++M)[i]?≈y:=e1
    rw[g9 ∅]at e1
    exact e1
   have f4:t[i-L.length]?≈(some v):=by rw[g9 (by simpa using jJ hi)]at e2;simpa using e2
   have e8:=S.msk _ y a7 e3
   obtain⟨ov,ok⟩:=S.out _ y a7 e3
   obtain⟨m,hn,hl⟩:=I3.loc
   obtain⟨u,ru,lk⟩:=hl _ y v e8 f4 ov
   refine⟨u,ru,?_⟩
   rcases lk with ⟨hk,_⟩|⟨_,c,e0,b8⟩
   .exact absurd hk ok
   .have kn:=S.vis _ y a7 e3
    obtain⟨c',c1⟩:=S.has y kn
    have:=S.sub y c' c1
    rw[e0]at this
    cases this
    refine .inr ⟨kn,c,c1,?_⟩
    obtain⟨o,ho,hd⟩:=b8
    exact⟨o,F _ _ ho,hd⟩
  .obtain⟨v,o,ho,hd⟩:=I3.cell x c (S.sub x c e)
   exact⟨v,o,F _ _ ho,hd⟩
  .have b0:p∈X.pn++f:=r9 (X.pn++f) ▸ hp
   obtain⟨a1,a2,a3,a4,a5⟩:=I3.pin p b0
   refine⟨F _ _ a1,a2,j9 (q7 a1),λz=>?_,a5⟩
   rcases q5.mp (I3.stkSub p.1 z)with e|e
   .exact a3 e
   .exact a4 e
  .show(List.replicate L.length none++t).length=(L++M).length
   rw[k7,k7,Br,I.len,S.mlen]
 have a8:∀ {H':Hp},(∀ b∈G,H' b=none)->∀ b∈G,dD Y [] H' b:=λ{H'} hn b j=>by
  refine⟨hn b j,(OkY.exf b j).1,c0 b j,.inl j,(OkY.exf b j).2,λp hp=>?_⟩
  have b0:p∈X.pn++f:=r9 (X.pn++f) ▸ hp
  exact(f2 b j).2.2.2.2.2 p b0
 have b9:tn 0 B:=T.keep _ _ _ c3 λb j o e=>F b o (e4 b o e)
 -- behind the O
 have c2:∀ (H':Hp) (K:zn),aa Y [] (List.replicate L.length none++t) H' K->Q (.ref l.heap.objs.size) H'->compPost (model X.prog X.w) X.A X.xe use Qf (.ref l.heap.objs.size) s3.heap.objs.size (.ok .next) K:=λH' K J' q'=>by
  obtain⟨m,hn,_⟩:=J'.loc
  refine fin _ _ H' K (I3.call' (ch:=G) J'.os J'.base J'.hok J'.bare λb j=>?_) ⟨m,hn⟩ (I3.fpOk (t7 _) J'.free) q'
  obtain⟨_,n1,_,n3,n4,n5⟩:=f2 b j
  exact⟨n3,n1,n4,n5⟩
 have O:codeAny (model X.prog X.w) X.A (.compLoop (.ListComp a9 [⟨tg,w,b5,0⟩] a d5) 0 (.ref it) (.ref l.heap.objs.size) (compEnvC a cl s3.heap.objs.size X.env))
  (compPost (model X.prog X.w) X.A X.xe use Qf (.ref l.heap.objs.size) s3.heap.objs.size) { s3 with heap:=B,toks:=s3.toks+([]:List (Str × Value)).length }:=by
  refine Y9 (λn K=>∃ i P H',aa Y [] (List.replicate L.length none++t) H' K/\tn i K.heap/\(∀ b∈G,H' b=none)/\W i n P H') ?_ m0 ⟨0,[],H3,I4,b9,c4,w0⟩
  rintro n s5 ⟨i,P,H5,I5,c8,c6,w5⟩
  rcases turn i n P H5 w5 with ⟨c9,qn⟩|⟨go,d2,c7⟩
  .refine aC (T.done Y rfl rfl rfl hc i [] s5 _ H5 _ I5 (a8 c6) c8 c9) λr s6 hh9=>?_
   obtain⟨hr,I6⟩:=hh9
   subst hr
   exact c2 H5 s6 I6 qn
  .refine aC (T.item Y rfl rfl rfl hc i [] s5 _ H5 _ I5 (a8 c6) c8 go) λr s6 hh9=>?_
   obtain⟨u,hr,h6⟩:=hh9
   subst hr
   refine aC h6 λ_ s7 hh9=>?_
   obtain⟨x,H7,I7,r7,y7,b6,e7⟩:=hh9
   have I7':=I7.pinned (a8 e7) (T.obj _ _ b6)
   have g7:=d7 t x H7 _ (c7 x H7 y7)
   refine aC (hg _ _ _ _ _ s7 _ H7 x u _ I7' r7 g7) λ_ s8 hh9=>?_
   obtain⟨b7,H8,I8,a0,q8⟩:=hh9
   have again:∀ {b4:St} {H9:Hp} {s9:zn} {zs:zy},aa Y ([]++VY G s7.heap) b4 H9 s9->Xq (List.replicate L.length none++t) b4->(∃ m',m'<n/\W (i+1) m' zs H9) ->
    ∃ m,m<n/\∃ i P H',aa Y [] (List.replicate L.length none++t) H' s9/\tn i s9.heap/\(∀ b∈G,H' b=none)/\W i m P H':=λ{b4 H9 s9 zs} I9 sub9 w9=>by
    obtain⟨m',hm,w9⟩:=w9
    refine⟨m',hm,i+1,zs,H9,(I9.sub sub9).unpinned,T.keep _ _ _ b6 λb j o e=>(I9.pin (b,o) (o8 _ (o8 _ (vY j e)))).1,λb j=>?_,w9⟩
    obtain⟨o,e,d⟩:=T.obj _ _ b6 b j
    exact(I9.pin (b,o) (o8 _ (o8 _ (vY j e)))).2.1
   refine aC (ht _ _ _ _ _ s8 b7 H8 _ I8 q8) λb s9 hh9=>?_
   obtain⟨H9,I9,q9⟩:=hh9
   cases b with
   |false =>
    rw[j4 u7]at q9
    rw[j4 u7]
    exact again I9 a0 q9
   |true =>
    rw[q4 rfl]at q9
    rw[q4 rfl]
    refine aC (he _ _ _ _ _ s9 b7 H9 _ I9 q9) λy R hh9=>?_
    obtain⟨yv,H10,I10,e6,Z,f0⟩:=hh9
    obtain⟨f1,N,k,rv,d8⟩:P.length<=sizeLine/\∃ (N:zz) (n:Nat),ym P N/\R.heap.get? l.heap.objs.size≈{ cls:=.type "list",data:=.seq N.toArray n }:=I10.hok _ _ Z
    have c5:R.heap.PlainList l.heap.objs.size N.toArray:=⟨k,d8⟩
    refine wpAny_list_append_plain (hsz:=by rw[t9,<- rv.length];exact f1) c5 λe5 d0 d1=>?_
    obtain⟨k',d3⟩:=d0
    have I11:aa Y ([]++VY G s7.heap) b7 (aA H10 l.heap.objs.size (.lst (P++[yv]))) { R with heap:=e5 }:=by
     refine I10.write (x:=l.heap.objs.size) (e:=l.heap.objs.size) (t':=R.toks) (by rw[Z];exact True.intro) (.inl rfl) (λb u j e=>(d1.2 b j).trans e) ⟨_,d3⟩ ?_
     refine⟨by rw[k7];show P.length+1<=sizeLine;exact d2,N++[y],k',rv.append (.cons e6 .nil),?_⟩
     rw[d3]
     simp
    exact again I11 a0 f0
 exact codeAny_compStart_list O (T.self _ 0 _ _ _ b9 O)
def KY {X:Cx}{L:zG}{k:Vh}{t:TI}{g:TG}{p:TE}(B:X.calm=true)(S:xU X L M a k)(z:PI X n b t)(l:∀ (d:St) (v:V) (H:Hp) (Q:Ya),g v (List.replicate L.length none++d) H Q->g v (List.replicate L.length none++d) H (λj H2=>Xq (List.replicate L.length none++d) j/\Q j H2))(y:∀ s₀ H₀ ex pn,PG (YY X L M a k s₀ H₀ ex pn) n g)(u:∀ s₀ H₀ ex pn,qR (YY X L M a k s₀ H₀ ex pn) c r)(F:∀ s₀ H₀ ex pn,PE (YY X L M a k s₀ H₀ ex pn) i p)(w:∀ x,foldedSetIterable b X.env x=pure x:=by intro _;rfl) :
 PE X (.ListComp i [⟨n,b,c,0⟩] a o) (Bx t L.length g r p):=by
 intro e s d H Q I h
 rw[eval_ListComp]
 refine M4 B S z l y u F w _ e s d H Q I h λD C H' J I' ⟨m,E⟩ f q=>⟨m,E,λG A=>⟨.ref D,_,I'.letGo f A,rfl,q⟩⟩
def KJ {i:Nat}{x:Str}{y p:Pos}{X:Cx}{k u c:Expr}{j:yO}{L M:zG}{a:Scope}{A:Vh}{l:Pos}{T:TI}{g:TG}{N:TT}{K:TE}
 (Y:X.N.Nodup) (B:X.N[i]?≈x) (Z:bY X.env.scope x) (hc:X.calm=true) (S:xU X L M a A) (hi:PI X u c T)
 (E:∀ (t:St) (v:V) (H:Hp) (Q:Ya),g v (List.replicate L.length none++t) H Q->g v (List.replicate L.length none++t) H (λn H2=>Xq (List.replicate L.length none++t) n/\Q n H2))
 (hg:∀ s₀ H₀ ex pn,PG (YY X L M a A s₀ H₀ ex pn) u g) (U:∀ s₀ H₀ ex pn,qR (YY X L M a A s₀ H₀ ex pn) j N) (he:∀ s₀ H₀ ex pn,PE (YY X L M a A s₀ H₀ ex pn) k K)
 (W:∀ x,foldedSetIterable c X.env x=pure x:=by intro _;rfl)
 (G:swapsWith (.ListComp k [⟨u,c,j,0⟩] a l) (some (.Name x y)) p.line X.env=pure true:=by rfl)
 (hf:X.fn x=true\/X.env.scope.names.lookup x≈.local:=by first|exact .inl rfl|exact .inr rfl|assumption) :
 PS X (.Assign [.Name x y] (.ListComp k [⟨u,c,j,0⟩] a l) p) (kh (Bx T L.length g N K) (VH i)):=by
 intro r s t H D I h
 rw[exec_Assign_Name_used _ _ _ _ G]
 refine u5 (jC (u5 ?_))
 show wpAny _ X.A (do let _<-comprehension (.ListComp k [⟨u,c,j,0⟩] a l) a X.env _ (newList []) false (eval c X.env) (some (assign (.Name x y) X.env))) _ _ s
 refine u5 (aC (M4 (use:=some (assign (.Name x y) X.env)) (Qf:=λ_ w=>SP X r D .next w) hc S hi E hg U he W _ r s t H _ I h λD' C H' w I' ⟨m,R⟩ f q=>?_) λ_ w hq=>t5 (t5 hq))
 have F:∀ b∈[C],∃ o,w.heap.get? b≈o/\∀ v,o.data≠.cell v:=λb J=>by
  rw[j6.mp J]
  obtain⟨o,O,P,e,d,_⟩:=R
  exact⟨o,e,λv z=>by rw[z]at d;cases d⟩
 have I2:=I'.pinned (fp:=[C]) (λb J=>by rw[j6.mp J];exact f) F
 refine aC (yi (pos:=y) Y B Z hf _ w t H' (.ref D') (.ref D') _ I2 rfl q) λ_ s2 hh9=>?_
 obtain⟨n,H2,I3,q3⟩:=hh9
 obtain⟨o,O,P,e,d⟩:=R
 have pn:=I3.pin (C,o) (o8 _ (o8 _ (vY (j6.mpr rfl) e)))
 exact⟨m,⟨o,O,P,pn.1,d⟩,λh' sb=>⟨n,H2,I3.unpinned.letGo ⟨pn.2.1,f.2⟩ sb,q3⟩⟩
def vc (names a b:List (Str × NameKind))(N M c:zG):Bool :=
 names.all (λy=>decide (y.2≠.cell))&&names.all (λy=>decide (y.2=.local->names.lookup y.1≈.local)) &&
 a.all (λy=>decide ((y.2=.cell\/y.2=.free)->y.1∈c)) &&
 (M.length == N.length)&&(M.zip N).all (λp=>decide ((a.lookup p.1≈.local\/a.lookup p.1≈.cell\/a.lookup p.1≈.free)->p.1=p.2)) &&
 M.all (λy=>decide ((a.lookup y≈.local\/a.lookup y≈.cell\/a.lookup y≈.free) ->
  (a.lookup y≈.cell\/a.lookup y≈.free)/\(b.lookup y≈.local\/b.lookup y≈.cell\/b.lookup y≈.free)/\b.lookup y≠some .local))
def Yt {X:Cx}{N:zG}{a:Scope}{f:Vh}{t:List (Str × NameKind)}(g:(relabel a X.env).names=t)(n:X.env.scope.names=s)(o:X.N=N)(d:closureFor a X.env=pure f)(kind:a.kind=.function)(z:f.map Prod.fst=l)(b:vc a.names t s N M l=true)(k:∀ p∈f,X.env.cells.lookup p.1≈p.2):xU X L M a f:=by
 unfold vc at b
 simp only[j7,o5,j8]at b
 obtain⟨⟨⟨⟨⟨A,x⟩,r⟩,j⟩,D⟩,m⟩:=b
 have j:M.length=N.length:=by simpa using j
 refine⟨d,A,kind,x,λy c h=>k (y,c) (iJ h),λy h=>?_,by rw[o];exact j,λi y e v=>?_,λi y e v=>?_,λi y e v=>?_⟩
 .rw[g]at h
  have u:y∈l:=by
   rcases h with h|h
   .exact r _ (iJ h) (.inl rfl)
   .exact r _ (iJ h) (.inr rfl)
  exact Ze (by rw[z];exact u)
 .unfold eY at v
  rw[g]at v
  have B:=(j3.mp e).1
  have q:i<N.length:=by rw[<-j];exact B
  have w:(M.zip N)[i]?≈(y,N[i]):=by
   rw[List.getElem?_zip_eq_some]
   exact⟨e,o6 q⟩
  have:=D _ (o0 w) v
  rw[o,o6 q]
  exact bN some this.symm
 .unfold eY at v
  rw[g]at v ⊢
  exact(m y (o0 e) v).1
 .unfold eY at v
  rw[g]at v
  obtain⟨_,E,C⟩:=m y (o0 e) v
  refine⟨?_,?_⟩
  .unfold eY;rw[n];exact E
  .show X.env.scope.names.lookup y≠_;rw[n];exact C
end L2
namespace PySem
open Sem (wp)
open AutoSeq1 (wpAny_loadPart')
section
variable {prog:zM}{w:World}{A:zN}{E:yI}{s:zn}
def YE {items}{Q:yI}(hit:s.heap.IsTupleIter a l i)(hl:s.heap.IsTuple l items)(hx:items[i]?≈x)(hQ:∀ d,d.IsTupleIter a l (i+1)->Heap.SameBut a s.heap d->Q x { s with heap:=d }) :
 wpAny (model prog w) A (Builtin.SmallTypes.nextOf (.ref a)) Q E s:=by
 obtain⟨o,c,g,b⟩:=id hit
 obtain⟨j,f,_,h,e⟩:=hl
 unfold Builtin.SmallTypes.nextOf
 refine u5 (p5 (name:=Str.ofString "__next__") hit.typeIs Bp
  (l9 Bp hit.typeIs F.entry_tuple_iterator_next ?_ (F.args_tuple_iterator_next_1 _)))
 show wpAny _ _ (field (.ref a) 0>>=_) _ _ s
 refine u5 (cW c b (x:=.ref l) rfl ?_)
 show wpAny _ _ (if (Value.ref l == Value.none) then _ else _) _ _ s
 rw[j4 (show ¬ ((Value.ref l == Value.none)=true)from u7)]
 show wpAny _ _ (field (.ref a) 1>>=_) _ _ s
 refine u5 (cW c b (x:=.int i 0) rfl ?_)
 show wpAny _ _ (seqItems? (.ref l)>>=_) _ _ s
 refine u5 (jN f e ?_)
 simp only[mj,hx]
 refine u5 (An c b (by simp) (t5 ⟨x,rfl,t5 (hQ _ ?_ (Ar ..))⟩))
 exact⟨_,h9 _ c (Obj.isFreed_of_fields (Be b _)),(Obj.cls_mapFields ..).trans g,by
  rw[Be b];simp[rawInt]⟩
def wY {items} (hh:A.handled=none) (hit:s.heap.IsTupleIter b l i) (hl:s.heap.IsTuple l items) (hx:items[i]?=none) (hE:∀ c e,Heap.ExtBut b s.heap c->(∃ o,c.get? e≈o/\o.cls=.type "StopIteration")->E (.ref e) { s with heap:=c }) :
 wpAny (model prog w) A (Builtin.SmallTypes.nextOf (.ref b)) Q E s:=by
 obtain⟨o,h,j,f⟩:=id hit
 obtain⟨n,g,_,k,d⟩:=hl
 unfold Builtin.SmallTypes.nextOf
 refine u5 (p5 (name:=Str.ofString "__next__") hit.typeIs Bp
  (l9 Bp hit.typeIs F.entry_tuple_iterator_next ?_ (F.args_tuple_iterator_next_1 _)))
 show wpAny _ _ (field (.ref b) 0>>=_) _ _ s
 refine u5 (cW h f (x:=.ref l) rfl ?_)
 show wpAny _ _ (if (Value.ref l == Value.none) then _ else _) _ _ s
 rw[j4 (show ¬ ((Value.ref l == Value.none)=true)from u7)]
 show wpAny _ _ (field (.ref b) 1>>=_) _ _ s
 refine u5 (cW h f (x:=.int i 0) rfl ?_)
 show wpAny _ _ (seqItems? (.ref l)>>=_) _ _ s
 refine u5 (jN g d ?_)
 simp only[mj,hx]
 refine u5 (iH (u5 (An h f (by simp) ?_)))
 show wpAny _ _ (newExc (.type "StopIteration") []>>=_) _ _ _
 refine u5 ?_
 simp only[newExc,newTuple]
 refine u5 (i6 ?_ (by size_fits))
 refine u5 (m:=firstArgMember _ _) (wpAny_of_eq (a:=Value.none) (by first|rfl | (simp only[firstArgMember];rfl)) ?_)
 refine i6 ?_ (by size_fits)
 simp only[raiseNew]
 refine u5 (wpAny_handled ?_)
 first|rw[show A.in1.handled=none from hh]|rw[hh]
 refine u5 (t5 (wpAny_throw ?_))
 exact hE _ _ (((Ar ..).extBut.push _).push _) ⟨_,j5 _ rfl,rfl⟩
end
def Za {c:zM}{w:World}{A:zN}{E:yI}{s:zn}{e d l:Addr}{i:Nat}{a:wb}{j:Value}{Q:Option Value->Shared->Prop}(v:A.handled=none)
 (n:IsEnum s.heap e d i j) (h:s.heap.IsTupleIter d l i) (r:s.heap.IsTuple l a) (p:a[i]?=none)
 (u:∀ f,Heap.ExtBut d s.heap f->Q none { s with heap:=f }):wpAny (model c w) A (pyNext (.ref e)) Q E s:=by
 have m:s.TypeIs (.ref e) "enumerate":=⟨_,n,rfl⟩
 unfold pyNext
 refine u5 (ie (p5 (name:=Str.ofString "__next__") m F.slot_enumerate_next
  (l9 F.slot_enumerate_next m F.entry_enumerate_next ?_ (F.args_enumerate_next_1 _))))
 show wpAny _ _ (field (.ref e) 2>>=_) _ _ _
 refine u5 (cW n rfl (x:=.ref d) rfl ?_)
 refine u5 (wY v h r p λf x g k=>?_)
 obtain⟨o,q,t⟩:=k
 refine u5 (wpAny_isInstance (T:="StopIteration") (b:=true) ⟨o,q,t⟩ isSubtype_stop ?_)
 exact t5 (u _ g)
def YT {prog:zM}{w:World}{A:zN}(hh:A.handled=none)(it l:Addr)(hne:l≠it)(items:wb) :
 Draws prog w A it [it,l] items.size (λi v=>items[i]?≈v) (λi h=>h.IsTupleIter it l i/\h.IsTuple l items) where
 live:=λ_ _ st=>let ⟨o,ho,_⟩:=st.1;⟨o,ho⟩
 frame:=λ_ _ _ st hk=>by
  obtain⟨⟨o,ho,r⟩,⟨o2,ho2,r2⟩⟩:=st
  exact⟨⟨o,hk it (by simp) o ho,r⟩,⟨o2,hk l (by simp) o2 ho2,r2⟩⟩
 item:=λi s Q E hi st hQ=>by
  refine YE st.1 st.2 (x:=items[i]) (by simp[hi]) λh' hit' hs'=>?_
  exact hQ _ h' s.toks (by simp[hi]) ⟨hit',st.2.extBut hs'.extBut hne⟩ hs'
 done:=λs Q E st hE=>wY hh st.1 st.2 (by simp) hE
def ZC (l:Addr)(a:wb)(n:Nat)(j:yN)(o:Array (Option Value)) :
 Meets (Builtin.«enumerate.__new__» ⟨[.type "enumerate",.ref l],[]⟩) (λ_ R s=>s.heap.get? l≈{ cls:=.type "tuple",dict:=j,data:=.seq a n,slots:=o } /\
  R (.ok (.ret (.ref (s.heap.push { cls:=.type "tuple_iterator",data:=.fields #[.ref l,.int 0 0] }).objs.size)))
   { s with heap:=(s.heap.push { cls:=.type "tuple_iterator",data:=.fields #[.ref l,.int 0 0] }).push { cls:=.type "enumerate",data:=.fields #[.none,.bool false,.ref s.heap.objs.size,rawInt 0,.none,.none] } }) :=
 .of_wp λi w A R s h=>by
  obtain⟨m,g,d,k,os⟩:=s;obtain⟨b,h⟩:=h
  have f:=sub_enumerate
  have e:Heap.IsTuple (Shared.heap ⟨m,g,d,k,os⟩) l a:=⟨_,b,rfl,n,rfl⟩
  wp_walk using mz b
  refine wpAny_stack_any λp=>t5 ?_
  split
  .rename_i c _ _ _ _ _
   cases (c == Value.type "enumerate")
   .wp_walk using mz b,gY e
    exact⟨_,rfl,h⟩
   .wp_walk using mz b,gY e
    exact⟨_,rfl,h⟩
  .wp_walk using mz b,gY e
   exact⟨_,rfl,h⟩
section
variable {prog:zM}{w:World}{A:zN}{E:yI}{s:zn}
def Y8 {Q:yI}(k:s.heap.IsTuple l a) (h:∀ c,IsEnum c (s.heap.objs.size+1) s.heap.objs.size 0 .none->c.IsTupleIter s.heap.objs.size l 0->c.objs.size=s.heap.objs.size+2 ->
 (∀ b o,s.heap.get? b≈o->c.get? b≈o)->Q (.ref (s.heap.objs.size+1)) { s with heap:=c }) :
 wpAny (model prog w) A (call (.type "enumerate") [.ref l]) Q E s:=by
 obtain⟨⟨cls,i,data,m⟩,j,f,n,e⟩:=k
 simp only at f e
 subst f e
 refine callType_new F.called_enumerate ⋯ (F.typeCall_enumerate_1 _) (F.newCall_enumerate_1 _) (λobj=>F.args_object_init_2 obj _) F.entry_enumerate_new
  (ZC l a n i m) ⟨j,?_⟩
 have d:(s.heap.push { cls:=.type "tuple_iterator",data:=.fields #[.ref l,.int 0 0] }).objs.size=s.heap.objs.size+1:=p9 ..
 show _/\_
 rw[d]
 have g:IsEnum ((s.heap.push { cls:=.type "tuple_iterator",data:=.fields #[.ref l,.int 0 0] }).push
  { cls:=.type "enumerate",data:=.fields #[.none,.bool false,.ref s.heap.objs.size,rawInt 0,.none,.none] }) (s.heap.objs.size+1) s.heap.objs.size 0 .none:=by
  have:=j5 (s.heap.push { cls:=.type "tuple_iterator",data:=.fields #[.ref l,.int 0 0] })
   (o:={ cls:=.type "enumerate",data:=.fields #[.none,.bool false,.ref s.heap.objs.size,rawInt 0,.none,.none] }) rfl
  rw[d]at this;exact this
 refine⟨⟨_,g,rfl⟩,h _ g ⟨_,u6 _ (j5 _ rfl),rfl,rfl⟩ (by rw[p9,d]) λb o x=>u6 _ (u6 _ x)⟩
end
end PySem
namespace L2
open PySem PySem.Spec PyProof.Rows
section
variable {X:Cx}{pins:xv}{σ:St}{H:Hp}{s:zn}{h':Heap}
def aa.grown {ch:xW}{T:Addr}{o:HO}{x:Nat}(I:aa X pins σ H s)(a:∀ b∈ch,dD X pins H b)(t:s.heap.objs.size<=T)(k:∀ b u,b∉ch->s.heap.get? b≈u->h'.get? b≈u)
 (i:yM X.prog X.w (aA H T o) h' T o):aa X pins σ (aA H T o) { s with heap:=h',toks:=x }:=by
 have g:H T=none:=I.hok.fresh t
 have j:∀ b u,s.heap.get? b≈u->b≠T:=λb u e=>j9 (j0 (q7 e) t)
 have f:∀ b u,H b≈u->b∉ch:=λb u e z=>by rw[(a b z).1]at e;cases e
 refine I.step (g':=s.gens) (d':=s.drawn) (ch:=ch) (λb h=>?_) (λb u _ _ d e _=>k b u d e) (λb u _ _ d e _=>⟨u.slots,k b u d e⟩) (λb u _ e n=>by rw[zj (j b u e)];exact n)
  (λb u d e=>⟨u,k b u d e⟩) (λb l e=>by rw[zj (zf e g)];exact e) (λb u l e=>by rw[zj (zf e g)];exact e) (λb G e=>⟨#[],by rw[zj (zf e g),e];simp⟩) (λm D=>?_) (λb u e=>?_) I.bare
 .obtain⟨_,w,_,y,E,F⟩:=a b h
  exact⟨y,w,E,F⟩
 .obtain⟨p,B,C,A,r⟩:=D
  exact⟨p,B,C,k _ p (λz=>(a _ z).2.1 rfl) A,r⟩
 .by_cases h:b=T
  .subst h;rw[zl]at e;cases e;exact i
  .rw[zj h]at e
   refine(I.hok b u e).stay (λc v d q=>k c v ?_ q) (λc q=>by rw[zj (zf q g)];exact q) λc l q=>by rw[zj (zf q g)];exact q
   rcases d with z|z
   .rw[z];exact f b u e
   .exact f c _ z
def aa.turnedN {ch:xW}{t':Nat}(I:aa X pins σ H s)(a:∀ b∈ch,dD X pins H b)(k:∀ b u,b∉ch->s.heap.get? b≈u->h'.get? b≈u):aa X pins σ H { s with heap:=h',toks:=t' }:=by
 have f:∀ b u,H b≈u->b∉ch:=λb u e z=>by rw[(a b z).1]at e;cases e
 refine I.step (g':=s.gens) (d':=s.drawn) (ch:=ch) (λb y=>?_) (λb u _ _ d e _=>k b u d e) (λb u _ _ d e _=>⟨u.slots,k b u d e⟩) (λb u _ e n=>n)
  (λb u d e=>⟨u,k b u d e⟩) (λb g e=>e) (λb u g e=>e) (λb A e=>⟨#[],by rw[e];simp⟩) (λm j=>?_) (λb u e=>?_) I.bare
 .obtain⟨_,i,_,l,p,t⟩:=a b y
  exact⟨l,i,p,t⟩
 .obtain⟨h,w,x,o,r⟩:=j
  exact⟨h,w,x,k _ h (λz=>(a _ z).2.1 rfl) o,r⟩
 .refine(I.hok b u e).stay (λc v d q=>k c v ?_ q) (λc q=>q) λc g q=>q
  rcases d with z|z
  .rw[z];exact f b u e
  .exact f c _ z
end
def Rr (K:zx)(a:Addr):It :=
 ⟨λi H=>∃ b x,aK K H a b/\b[i]?≈x,λi H v H'=>∃ T x,v=.ref T/\H T=none/\H'=aA H T (.tup [.int i,x])/\∀ b,aK K H a b->b[i]?≈x,λi H=>∃ b,aK K H a b/\b.length<=i⟩
def Rq (K:zx)(a:Addr):It :=
 ⟨λi H=>∃ b x,aJ K H a b/\b[i]?≈x,λi H v H'=>∃ T x,v=.ref T/\H T=none/\H'=aA H T (.tup [.int i,x])/\∀ b,aJ K H a b->b[i]?≈x,λi H=>∃ b,aJ K H a b/\b.length<=i⟩
def zfL {P:zM}{w:World}{K:zx}{es:yO}{k:Nat}{tp:Pos}(a e it:Addr)(hne:e≠it) :
 iB P w K (.Tuple es k tp) (Rr K a) [e,it] e (λi h=>(∃ old,IsEnum h e it i old)/\h.IsListIter it a i) where
 mem:=by simp
 obj:=λi h st b hb=>by
  obtain⟨⟨old,he⟩,o,ho,_,hd⟩:=st
  rcases q5.mp hb with rfl|hb
  .exact⟨_,he,λv z=>by cases z⟩
  .rw[j6.mp hb]
   exact⟨o,ho,λv z=>by rw[hd]at z;cases z⟩
 keep:=λi h h' st kk=>by
  obtain⟨⟨old,he⟩,hit⟩:=st
  exact⟨⟨old,kk e (by simp) _ he⟩,hit.at λo q=>kk it (by simp) o q⟩
 item:=by
  intro X hP hw hK hc i pins s σ H E I hf st hg
  subst hP hw hK
  obtain⟨⟨old,he⟩,hit⟩:=st
  obtain⟨xs,x,hq,hx⟩:=hg
  obtain⟨its,rv,p,hz⟩:=I.list hq
  obtain⟨u,hu,ru⟩:=rv.get hx
  refine wpAny_pyNext_enum_item he hit p.isList (x:=u) (by simpa using hu) hne λh1 ho1 hit1 hT1 hz1 hk1=>?_
  refine⟨_,rfl,wpAny_letOwnedTupleGo_enum ho1 λh2 he2 hs2=>?_⟩
  have hfr:H s.heap.objs.size=none:=I.hok.fresh (t7 _)
  have neE:s.heap.objs.size≠e:=gZ (q7 he)
  have hT2:h2.get? s.heap.objs.size≈{ cls:=.type "tuple",data:=.seq #[.int i s.toks,u] }:=(hs2.2 _ neE).trans hT1
  refine⟨.ref s.heap.objs.size,aA H s.heap.objs.size (.tup [.int i,x]),?_,rfl,⟨_,x,rfl,hfr,rfl,λys hy=>by rw[I.list_inj hy hq];exact hx⟩,⟨⟨_,by simpa using he2⟩,hit1.at λo q=>(hs2.2 it (bw hne)).trans q⟩,λb hb=>?_⟩
  .refine I.grown (ch:=[e,it]) hf (t7 _) (λb v hb q=>?_) ?_
   .have n1:b≠e:=λz=>hb (by simp[z])
    have n2:b≠it:=λz=>hb (by simp[z])
    exact(hs2.2 b n1).trans (hk1 b v n1 n2 q)
   .exact⟨by show 2<=sizeLine;decide,[.int i s.toks,u],.cons ⟨_,rfl⟩ (.cons ru .nil),⟨_,hT2,rfl,0,rfl⟩⟩
  .obtain⟨o,bU,_⟩:∃ o,s.heap.get? b≈o/\True:=by
    rcases q5.mp hb with rfl|hb
    .exact⟨_,he,trivial⟩
    .rw[j6.mp hb]
     obtain⟨o,ho,_⟩:=hit
     exact⟨o,ho,trivial⟩
   rw[zj (j9 (q7 bU))]
   exact(hf b hb).1
 done:=by
  intro X hP hw hK hc i pins s σ H E I hf st hg
  subst hP hw hK
  obtain⟨⟨old,he⟩,hit⟩:=st
  obtain⟨xs,hq,hx⟩:=hg
  obtain⟨its,rv,p,hz⟩:=I.list hq
  have hl:=rv.length
  exact wpAny_pyNext_enum_end (I.ok.hd hc) he hit p.isList (by simp;omega) λh1 hx1=>⟨rfl,I.turnedN (ch:=[e,it]) (t':=s.toks) hf λb v hb q=>hx1 b v (λz=>hb (by simp[z])) q⟩
 self:=λ_ _ _ _ _ st h=>Ay st.1.choose_spec h
def zfd {P:zM}{w:World}{K:zx}{es:yO}{k:Nat}{tp:Pos}(a e it:Addr)(hne:e≠it)(hai:a≠it)(hae:a≠e) :
 iB P w K (.Tuple es k tp) (Rq K a) [e,it] e (λi h=>(∃ old,IsEnum h e it i old)/\h.IsTupleIter it a i) where
 mem:=by simp
 obj:=λi h st b hb=>by
  obtain⟨⟨old,he⟩,o,ho,_,hd⟩:=st
  rcases q5.mp hb with rfl|hb
  .exact⟨_,he,λv z=>by cases z⟩
  .rw[j6.mp hb]
   exact⟨o,ho,λv z=>by rw[hd]at z;cases z⟩
 keep:=λi h h' st kk=>by
  obtain⟨⟨old,he⟩,o,ho,r⟩:=st
  exact⟨⟨old,kk e (by simp) _ he⟩,o,kk it (by simp) o ho,r⟩
 item:=by
  intro X hP hw hK hc i pins s σ H E I hf st hg
  subst hP hw hK
  obtain⟨⟨old,he⟩,hit⟩:=st
  obtain⟨xs,x,hq,hx⟩:=hg
  obtain⟨its,rv,p,hz⟩:=I.tuple hq
  obtain⟨u,hu,ru⟩:=rv.get hx
  have p':s.heap.IsTuple a its.toArray:=p
  have D:=YT (prog:=X.prog) (w:=X.w) (A:=X.A.in1) (I.ok.hd hc) it a hai its.toArray
  have hlt:i<its.toArray.size:=by
   obtain⟨h1,_⟩:=j3.mp hu
   simpa using h1
  refine wpAny_pyNext_enum_itemD D he ⟨hit,p'⟩ hlt hne (by simp[hne,bw hae]) λu' h1 tk hP1 ho1 hit1 hT1 hz1 hk1=>?_
  have eu:u'=u:=by
   have:its[i]?≈u':=by simpa using hP1
   rw[hu]at this
   exact(g0 this).symm
  subst eu
  refine⟨_,rfl,wpAny_letOwnedTupleGo_enum ho1 λh2 he2 hs2=>?_⟩
  have hfr:H s.heap.objs.size=none:=I.hok.fresh (t7 _)
  have neE:s.heap.objs.size≠e:=gZ (q7 he)
  have hT2:h2.get? s.heap.objs.size≈{ cls:=.type "tuple",data:=.seq #[.int i tk,u'] }:=(hs2.2 _ neE).trans hT1
  refine⟨.ref s.heap.objs.size,aA H s.heap.objs.size (.tup [.int i,x]),?_,rfl,⟨_,x,rfl,hfr,rfl,λys hy=>by rw[I.tuple_inj hy hq];exact hx⟩,⟨⟨_,by simpa using he2⟩,?_⟩,λb hb=>?_⟩
  .refine I.grown (ch:=[e,it]) hf (t7 _) (λb v hb q=>?_) ?_
   .have n1:b≠e:=λz=>hb (by simp[z])
    have n2:b≠it:=λz=>hb (by simp[z])
    exact(hs2.2 b n1).trans (hk1 b v n1 n2 q)
   .exact⟨by show 2<=sizeLine;decide,[.int i tk,u'],.cons ⟨_,rfl⟩ (.cons ru .nil),⟨_,hT2,rfl,0,rfl⟩⟩
  .obtain⟨o,ho,r⟩:=hit1.1
   exact⟨o,(hs2.2 it (bw hne)).trans ho,r⟩
  .obtain⟨o,bU,_⟩:∃ o,s.heap.get? b≈o/\True:=by
    rcases q5.mp hb with rfl|hb
    .exact⟨_,he,trivial⟩
    .rw[j6.mp hb]
     obtain⟨o,ho,_⟩:=hit
     exact⟨o,ho,trivial⟩
   rw[zj (j9 (q7 bU))]
   exact(hf b hb).1
 done:=by
  intro X hP hw hK hc i pins s σ H E I hf st hg
  subst hP hw hK
  obtain⟨⟨old,he⟩,hit⟩:=st
  obtain⟨xs,hq,hx⟩:=hg
  obtain⟨its,rv,p,hz⟩:=I.tuple hq
  have hl:=rv.length
  have p':s.heap.IsTuple a its.toArray:=p
  exact Za (I.ok.hd hc) he hit p' (by simp;omega) λh1 hx1=>⟨rfl,I.turnedN (ch:=[e,it]) (t':=s.toks) hf λb v hb q=>hx1 b v (λz=>hb (by simp[z])) q⟩
 self:=λ_ _ _ _ _ st h=>Ay st.1.choose_spec h
def RZ (K:zx)(d:TA):TI:=λc H R=>d c H λe H1=>∃ a,e=[.ref a]/\((∃ b,H1 a≈(.lst b)/\R (Rr K a) H1)\/(∃ b,aJ K H1 a b/\R (Rq K a) H1))
def znw {X:Cx} {K:yO} {k:Nat} {F:Pos} {a:Expr} {z:TA} {p t:Pos} (C:Gl X "enumerate") (N:X.mg "enumerate"=none) (g:bootBuiltins "enumerate"≈(.type "enumerate")) (J:PA X [a] z)
 (M:starEach [a] X.env=[(false,eval a X.env)]:=by rfl):PI X (.Tuple K k F) (.Call (.Name "enumerate" p) [a] [] t) (RZ X.K z):=by
 intro c s O H R I h
 refine Call_ (Vi I C N g (pY (aC (J t c s O H _ I h) λT f hh9=>?_) M rfl))
 obtain⟨S,H1,I1,L,P⟩:=hh9
 obtain⟨l,e,q⟩:=P
 subst e
 obtain⟨u,rfl,Q⟩:=Z9 L
 cases Q
 have B:∀ b,f.heap.objs.size<=b->dD X c H1 b:=λb g=>I1.fpOk g (I1.hok.fresh g)
 have m:f.heap.objs.size+1≠f.heap.objs.size:=by omega
 have j:∀ b∈[f.heap.objs.size+1,f.heap.objs.size],dD X c H1 b:=λb g=>by
  rcases q5.mp g with rfl|g
  .exact B _ (gU _)
  .rw[j6.mp g];exact B _ (t7 _)
 rcases q with ⟨v,x,q⟩|⟨v,x,q⟩
 .obtain⟨_,d,n,_,e⟩:v.length<=sizeLine/\∃ (d:zz) (n:Nat),ym v d/\f.heap.get? l≈{ cls:=.type "list",data:=.seq d.toArray n }:=I1.hok _ _ x
  refine call_enumerate_1 e λG r i D w=>Ay r ?_
  exact⟨_,_,_,_,H1,rfl,I1.kept (t':=f.toks) w,zfL l _ _ m,⟨⟨_,r⟩,i⟩,j,q⟩
 .obtain⟨d,_,y,_⟩:=I1.tuple x
  have A:l<f.heap.objs.size:=by
   obtain⟨o,E,_⟩:=y
   exact q7 E
  refine Y8 (show f.heap.IsTuple l d.toArray from y) λG r i D w=>Ay r ?_
  exact⟨_,_,_,_,H1,rfl,I1.kept (t':=f.toks) w,zfd l _ _ m (j9 A) (j9 (jM A)),⟨⟨_,r⟩,i⟩,j,q⟩
end L2
namespace HT
open PySem PyProof.Rows
def lexLe:zB->zB->Bool
 |[],_=>true
 |_::_,[]=>false
 |x::xs,y::ys=>if x=y then lexLe xs ys else decide (x<=y)
def zfA (x y:Int)(a b:zB):lexLe (x::a) (y::b)=if x=y then lexLe a b else decide (x<=y):=rfl
def zjV (A:zN)(s:zn)(a:Int)(t:Tok)(c:Int)(u:Tok)(b:zM)(w:World)(E:yI)(Q:yI)(h:Q (.bool (decide (a<=c))) s) :
 wpAny (model b w) A (richCompare .LtE (.int a t) (.int c u)) Q E s :=
 (PyProof.Rows.le_int h:wpAny (model b w) A (compareOp .LtE (.int a t) (.int c u)) Q E s)
section
open PySem.SeqAt
open PySem.AutoSeq1 (wpAny_loadPart')
open PySem.MeetsSeq PySem.MeetsSeq2 PySem.MeetsSeq3
theorem zax (l b:Addr)(i f:wb)(n T:Nat)(S L:yN)(V K:Array (Option Value))(ns G:zB)(O:IntsAre i.toList ns)(P:IntsAre f.toList G) :
 Meets (Builtin.«tuple.__le__» ⟨[.ref l,.ref b],[]⟩)
  (λ_ R s=>s.heap.get? l≈{ cls:=.type "tuple",dict:=S,data:=.seq i n,slots:=V }/\s.heap.get? b≈{ cls:=.type "tuple",dict:=L,data:=.seq f T,slots:=K } /\
   R (.ok (.ret (.bool (lexLe ns G)))) s) :=
 .of_wp λr w A R s h=>by
  obtain⟨J,g,d,F,os⟩:=s;obtain⟨U,X,h⟩:=h
  have Z:=AutoSeq1.sub_tuple_tuple
  have z1:i.size=ns.length:=by rw[<-O.length];simp
  have Y:f.size=G.length:=by rw[<-P.length];simp
  wp_walk using mz U,mz X,wpAny_forIn_list _ (λrest b M=>b.1=none/\M=⟨J,g,d,F,os⟩/\∃ (I H:zz) (k m:zB),rest=I.zip H /\
   IntsAre I k/\IntsAre H m/\k.length+f.size=m.length+i.size/\R (.ok (.ret (.bool (lexLe k m)))) ⟨J,g,d,F,os⟩) _
  case turn =>
   rintro⟨y,x⟩ rest b M ⟨C,rfl,I,H,k,m,o,z,B,j,v⟩
   cases z with
   |nil=>rw[List.zip_nil_left]at o;cases o
   |cons a t D =>
    cases B with
    |nil=>rw[List.zip_nil_right]at o;cases o
    |cons c u E =>
     rw[G5]at o
     injection o with hyx hrest
     injection hyx with hy hx
     subst hy hx
     rw[zfA]at v
     simp only[r4]at j
     obtain⟨e,W,p⟩:=zkC A.in1 ⟨J,g,d,F,os⟩ a t c u
     refine u5 (W r w _ _ ?_)
     cases e with
     |true =>
      rw[q4 (p.mp rfl)]at v
      wp_walk
      exact⟨rfl,rfl,_,_,_,_,hrest,D,E,by omega,v⟩
     |false =>
      rw[j4 (λq=>absurd (p.mpr q) u7)]at v
      have N:=zjV A.in1 ⟨J,g,d,F,os⟩ a t c u r w
      wp_walk using N
      exact⟨_,rfl,by simpa using v⟩
  case fin =>
   rintro⟨b1,b2⟩ M ⟨C,rfl,I,H,k,m,o,z,B,j,v⟩
   simp only at C
   subst C
   have Q:lexLe k m=decide (i.size<=f.size):=by
    cases z with
    |nil =>
     simp only[Ai]at j
     show true=_
     exact(t8 ∅).symm
    |cons a t Q =>
     cases B with
     |nil =>
      simp only[Ai,r4]at j
      show false=_
      exact(t6 ∅).symm
     |cons c u hw =>
      rw[G5]at o
      cases o
   rw[Q]at v
   wp_walk
   exact⟨_,rfl,by simpa [Builtin.Tuple.tupleCompareSizes]using v⟩
  case h =>
   exact⟨rfl,rfl,i.toList,f.toList,ns,G,rfl,O,P,by omega,h⟩
end
section
variable {prog:zM}{w:World}{A:zN}{E:yI}{s:zn}
def le_tupInts {c a:wb}{Q:yI}(y:IsTup s.heap l c)(C:IsTup s.heap b a)(z:IntsAre c.toList ns)(v:IntsAre a.toList e)(r:A.units<cLine)(h:Q (.bool (lexLe ns e)) s):wpAny (model prog w) A (compareOp .LtE (.ref l) (.ref b)) Q E s:=by
 obtain⟨⟨cls,t,data,B⟩,o,q,n,m⟩:=id y
 obtain⟨⟨p,k,i,j⟩,g,d,u,f⟩:=id C
 simp only at q m d f
 subst q m d f
 exact richCompare_meets_room (op:=.LtE) ⟨_,o,rfl⟩ ⟨_,g,rfl⟩ PySem.F.slot_tuple_le PySem.F.entry_tuple_le (PySem.F.args_tuple_le_2 _ _) (zax l b c a n u t k B j ns e z v)
  ⟨o,g,show Value.bool (lexLe ns e)≠Value.notImplemented/\Q (.bool (lexLe ns e)) s from⟨(λx=>nomatch x),h⟩⟩ r
end
end HT
namespace L2
open PySem PySem.Spec PyProof.Rows
def qz (K:zx):R2:=λx y H Q=>∃ a b ns c,x=.ref a/\y=.ref b/\aJ K H a (ns.map V.int)/\aJ K H b (c.map V.int)/\Q (.bl (HT.lexLe ns c)) H
def Uo {X:Cx}(i:X.A.units<cLine):aP X (compareOp .LtE) (qz X.K):=by
 intro f s w H x y v u Q I l p h
 obtain⟨a,b,ns,e,rfl,rfl,m,r,q⟩:=h
 cases l
 cases p
 obtain⟨d,o,n,_⟩:=I.tuple m
 obtain⟨c,t,k,_⟩:=I.tuple r
 have g:IntsAre d.toArray.toList ns:=v8 o
 have j:IntsAre c.toArray.toList e:=v8 t
 exact HT.le_tupInts n k g j i ⟨.bl (HT.lexLe ns e),H,I,rfl,q⟩
end L2
namespace HT
open PySem PyProof.Rows
section
variable {prog:zM}{w:World}{A:zN}{E:yI}{s:zn}
def own_getItem_whole {t g:Addr}{a:wb}{Q:yI}(d:IsTup s.heap t a)(k:s.heap.IsSliceOf g n l .none)(pl:IsPart n b)(o:IsPart l e)(hw:sIx a.size 0 b=0/\sIx a.size a.size e=a.size)(h:Q (.ref t) s):wpAny (model prog w) A (getItem (.ref t) (.ref g)) Q E s:=by
 obtain⟨os,i,f,p⟩:=id k
 have j:s.TypeIs (.ref g) "slice":=⟨os,i,f⟩
 unfold getItem
 try with_reducible refine o9 ?_
 first|refine u5 (t5 ?_)|skip
 refine u5 (wpAny_sequenceKey d.typeIs ⋯ ?_)
 refine u5 (p5 (name:=Str.ofString "__getitem__") d.typeIs p8
  (l9 p8 d.typeIs entry_tuple_getitem ?_ (args_tuple_getitem _ _)))
 show wpAny _ _ (Builtin.Tuple.tupleItemsOf (.ref t)>>=_) _ _ s
 refine u5 (tupleItemsOf_ d ?_)
 refine u5 (lR j ?_)
 rw[q4 ⋯]
 refine u5 (Yr k pl o ?_)
 have c:(((sIx a.size 0 b:Nat):Int) == 0&&(1:Int) == 1&&(sIx a.size a.size e-sIx a.size 0 b) == a.size)=true:=by
  rw[hw.1,hw.2]
  simp
 show wpAny _ _ (if (((sIx a.size 0 b:Nat):Int) == 0&&(1:Int) == 1&&(sIx a.size a.size e-sIx a.size 0 b) == a.size) then _ else _) _ _ s
 rw[q4 c]
 refine u5 (m:=Builtin.Tuple.tupleIsExact (.ref t)) ?_
 unfold Builtin.Tuple.tupleIsExact
 refine u5 (lR d.typeIs (t5 ?_))
 rw[q4 ⋯]
 refine u5 (iH ?_)
 first
  |exact t5 ⟨_,rfl,t5 h⟩
  |exact u5 (t5 (t5 ⟨_,rfl,t5 h⟩))
end
end HT
namespace PySem
open Sem (wp)
def wl {w:World}{f:xW}{k:Nat}{St:Nat->Heap->Prop}(D:Draws c w A i f n P St){d:Heap}(l:St k h)(m:Heap.SameBut a h d)(g:a∉f):St k d :=
 D.frame _ _ _ l λb j o e=>(m.2 b λz=>g (z ▸ j)).trans e
structure tO (z TI TO i1 i2:Addr) (fp1 fp2:xW):Prop where
 nd:[z,TI,TO,i1,i2].Nodup
 z1:z∉fp1
 z2:z∉fp2
 o1:TO∉fp1
 o2:TO∉fp2
 i12:i1∉fp2
 i21:i2∉fp1
section
variable {prog:zM}{w:World}{A:zN}{E:yI}{s:zn}{z TI TO i1 i2:Addr}{fp1 fp2:xW}{n1 n2 k1 k2:Nat}{P1 P2:Nat->Value->Prop}{St1 gb:Nat->Heap->Prop}{a b:Value}
theorem zcc {Q:yI}(D1:Draws prog w A i1 fp1 n1 P1 St1)(D2:Draws prog w A i2 fp2 n2 P2 gb)(ap:tO z TI TO i1 i2 fp1 fp2)
 (r:IsZip s.heap z TI TO .none) (H:IsPair s.heap TI (.ref i1) (.ref i2)) (G:IsPair s.heap TO a b) (h1:St1 k1 s.heap) (h2:gb k2 s.heap) (l1:k1 < n1) (l2:k2 < n2)
 (hQ:∀ x y g tk,P1 k1 x->P2 k2 y->IsZip g z TI TO (rawInt s.heap.objs.size)->IsPair g TO x y->St1 (k1+1) g->gb (k2+1) g->IsPair g s.heap.objs.size x y ->
  (∀ c o,c∉[z,TO,i1,i2]->s.heap.get? c≈o->g.get? c≈o)->Q (.ref s.heap.objs.size) { s with heap:=g,toks:=tk }) :
 wpAny (model prog w) A (Builtin.«zip.__next__» ⟨[.ref z],[]⟩) (λfin s'=>∃ v,fin=.done (.ret v)/\Q v s') E s:=by
 obtain⟨W,u,l,p,i,L,N⟩:=ap
 simp only[iT,q5,n0,bT,fu,Az,pP,and_true]at W
 obtain⟨⟨a1,f,J,K⟩,⟨n5,n6,n7⟩,⟨n8,n9⟩,a3⟩:=W
 show wpAny _ _ (field (.ref z) 2>>=_) _ _ _
 refine u5 (cW r rfl (x:=.bool false) rfl ?_)
 show wpAny _ _ (field (.ref z) 3>>=_) _ _ _
 refine u5 (cW r rfl (x:=.ref TI) rfl (u5 (jN H rfl ?_)))
 show wpAny _ _ (Builtin.SmallTypes.ownedTupleIsFree (.ref z)>>=_) _ _ _
 refine u5 ?_
 unfold Builtin.SmallTypes.ownedTupleIsFree
 refine u5 (cW r rfl (x:=.none) rfl (t5 ?_))
 simp only[dW]
 refine u5 (iH (u5 (cW r rfl (x:=.ref TO) rfl (u5 (qd r (by simp) λg1 z1 b1=>?_)))))
 refine u5 ?_
 simp only[G8,List.zipIdx_nil,pW,Ao]
 refine u5 (u5 (wpAny_onRaise ?_))
 show wpAny _ _ (Builtin.SmallTypes.nextOf (.ref i1)>>=_) _ _ _
 refine u5 (D1.item k1 _ _ _ l1 (wl D1 h1 b1 u) λx Z a0 px I b2=>t5 ?_)
 have U:IsPair Z TO a b:=(b2.2 TO n8).trans ((b1.2 TO (bw f)).trans G)
 refine u5 (jN U rfl (u5 (wpAny_updateSeq_pair U λg3 o3 b3=>?_)))
 refine u5 (wpAny_letGo (t5 ?_))
 refine u5 (u5 (wpAny_onRaise ?_))
 show wpAny _ _ (Builtin.SmallTypes.nextOf (.ref i2)>>=_) _ _ _
 have M:gb k2 g3:=wl D2 (wl D2 (wl D2 h2 b1 l) b2 L) b3 i
 refine u5 (D2.item k2 _ _ _ l2 M λy g4 a2 py F m=>t5 ?_)
 have V:IsPair g4 TO x b:=(m.2 TO n9).trans o3
 refine u5 (jN V rfl (u5 (wpAny_updateSeq_pair V λd C k=>?_)))
 replace C:IsPair d TO x y:=C
 refine u5 (wpAny_letGo (t5 (t5 ?_)))
 refine u5 (jN C rfl ?_)
 show wpAny _ _ (newTuple [x,y]>>=_) _ _ _
 refine u5 (wpAny_newTuple ?_)
 have t:d.objs.size=s.heap.objs.size:=by rw[k.1,m.1,b3.1,b2.1,b1.1]
 have Y:IsZip d z TI TO .ellipsis:=(k.2 z f).trans ((m.2 z K).trans ((b3.2 z f).trans ((b2.2 z J).trans z1)))
 have j:z < d.objs.size:=q7 Y
 show wpAny _ _ (Builtin.SmallTypes.ownedTupleHandOut (.ref z) (.ref d.objs.size)>>=_) _ _ _
 refine u5 ?_
 unfold Builtin.SmallTypes.ownedTupleHandOut
 have z6:IsZip (d.push { cls:=.type "tuple",data:=.seq #[x,y] }) z TI TO .ellipsis:=u6 _ Y
 refine u5 (qd z6 (by simp) λg7 z7 O=>?_)
 refine qd z7 (by simp) λD z8 X=>?_
 have B:∀ c o,c≠z->d.get? c≈o->D.get? c≈o:=λc o n e=>(X.2 c n).trans ((O.2 c n).trans (u6 _ e))
 have S:IsPair D d.objs.size x y:=(X.2 _ (gZ j)).trans ((O.2 _ (gZ j)).trans (j5 _ rfl))
 have R:IsZip D z TI TO (rawInt d.objs.size):=z8
 rw[t]at R S
 refine t5 ⟨_,rfl,?_⟩
 show Q (.ref d.objs.size) _
 rw[t]
 have f1:St1 (k1+1) d:=wl D1 (wl D1 (wl D1 I b3 p) m N) k p
 have f2:gb (k2+1) d:=wl D2 F k i
 refine hQ x y D _ px py R (B _ _ (bw f) C) (D1.frame _ _ _ f1 λc h o e=>B c o (λq=>u (q ▸ h)) e) (D2.frame _ _ _ f2 λc h o e=>B c o (λq=>l (q ▸ h)) e) S λc o h e=>?_
 simp only[q5,n0,bT,fu]at h
 obtain⟨T,P,c3,c4⟩:=h
 exact B c o T ((k.2 c P).trans ((m.2 c c4).trans ((b3.2 c P).trans ((b2.2 c c3).trans ((b1.2 c T).trans e)))))
def zds (D1:Draws prog w A i1 fp1 n1 P1 St1) (h:z∉fp1) (n:i1≠z) (b:IsZip s.heap z TI TO .none) (g:IsPair s.heap TI (.ref i1) (.ref i2)) (r:St1 n1 s.heap) (y:∀ f e,(∀ c o,c≠z->c≠i1->s.heap.get? c≈o->f.get? c≈o)->(∃ o,f.get? e≈o/\o.cls=.type "StopIteration")->E (.ref e) { s with heap:=f }) :
 wpAny (model prog w) A (Builtin.«zip.__next__» ⟨[.ref z],[]⟩) Q E s:=by
 show wpAny _ _ (field (.ref z) 2>>=_) _ _ _
 refine u5 (cW b rfl (x:=.bool false) rfl ?_)
 show wpAny _ _ (field (.ref z) 3>>=_) _ _ _
 refine u5 (cW b rfl (x:=.ref TI) rfl (u5 (jN g rfl ?_)))
 show wpAny _ _ (Builtin.SmallTypes.ownedTupleIsFree (.ref z)>>=_) _ _ _
 refine u5 ?_
 unfold Builtin.SmallTypes.ownedTupleIsFree
 refine u5 (cW b rfl (x:=.none) rfl (t5 ?_))
 simp only[dW]
 refine u5 (iH (u5 (cW b rfl (x:=.ref TO) rfl (u5 (qd b (by simp) λB v b1=>?_)))))
 refine u5 ?_
 simp only[G8,List.zipIdx_nil,pW,Ao]
 refine u5 (u5 (wpAny_onRaise ?_))
 show wpAny _ _ (Builtin.SmallTypes.nextOf (.ref i1)>>=_) _ _ _
 refine u5 (D1.done _ _ _ (wl D1 r b1 h) λl e b2 u=>?_)
 obtain⟨p,a,d⟩:=u
 have k:IsZip l z TI TO .ellipsis:=b2 _ _ (bw n) v
 have i:e≠z:=λq=>by subst q;rw[k]at a;cases a;simp at d
 exact qd k (by simp) λt _ b3=>y t e (λc o j m q=>(b3.2 c j).trans (b2 c o m ((b1.2 c j).trans q))) ⟨p,(b3.2 e i).trans a,d⟩
end
def gF (b:Bool)(h:Heap)(a l:Addr)(k:Nat):Prop:=if b then h.IsListIter a l k else h.IsTupleIter a l k
def lu (b:Bool)(h:Heap)(l:Addr)(a:wb):Prop:=if b then h.IsList l a else h.IsTuple l a
def WI {w:World}{A:zN}(e:A.handled=none)(b:Bool)(c l:Addr)(d:l≠c)(a:wb) :
 Draws prog w A c [c,l] a.size (λi v=>a[i]?≈v) (λi h=>gF b h c l i/\lu b h l a):=by
 cases b with
 |true=>exact Draws.list e c l d a
 |false=>exact YT e c l d a
def ou (b:Bool) (l:Addr):Obj:={ cls:=.type (if b then "list_iterator" else "tuple_iterator"),data:=.fields #[.ref l,.int 0 0] }
abbrev su (h:Heap)(b1:Bool)(a:Addr):Heap:=h.push (ou b1 a)
abbrev sr (h:Heap)(b1 b2:Bool)(a b:Addr):Heap:=(su h b1 a).push (ou b2 b)
abbrev rZ (h:Heap) (b1 b2:Bool) (a b:Addr):Heap:=(sr h b1 b2 a b).push (Obj.mk (.type "tuple") none (.seq #[.ref h.objs.size,.ref (su h b1 a).objs.size]) #[])
abbrev rY (h:Heap) (b1 b2:Bool) (a b:Addr):Heap:=(rZ h b1 b2 a b).push (Obj.mk (.type "tuple") none (.seq #[.none,.none]) #[])
abbrev iw (h:Heap) (b1 b2:Bool) (a b:Addr):Heap:=(rY h b1 b2 a b).push (Obj.mk (.type "zip") none (.fields #[.none,.bool false,.bool false,.ref (sr h b1 b2 a b).objs.size,.ref (rZ h b1 b2 a b).objs.size]) #[])
def zc1 (b1 b2:Bool)(c f:Addr)(m l:wb) :
 Meets (Builtin.«zip.__new__» ⟨[.type "zip",.ref c,.ref f],[]⟩) (λ_ R s=>lu b1 s.heap c m/\lu b2 s.heap f l /\
  R (.ok (.ret (.ref (rY s.heap b1 b2 c f).objs.size))) { s with heap:=iw s.heap b1 b2 c f }) :=
 .of_wp λo w A R s h=>by
  obtain⟨j,g,d,i,os⟩:=s;obtain⟨k,e,h⟩:=h
  have n:=sub_zip
  cases b1 with
  |true =>
   have b:Heap.IsList (Shared.heap ⟨j,g,d,i,os⟩) c m:=k
   cases b2 with
   |true =>
    have a:Heap.IsList (Shared.heap ⟨j.push { cls:=.type "list_iterator",data:=.fields #[.ref c,.int 0 0] },g,d,i,os⟩) f l:=Heap.IsList.push e _
    wp_walk using jL b,jL a
    exact⟨_,rfl,h⟩
   |false =>
    have a:Heap.IsTuple (Shared.heap ⟨j.push { cls:=.type "list_iterator",data:=.fields #[.ref c,.int 0 0] },g,d,i,os⟩) f l:=Heap.IsTuple.push e _
    wp_walk using jL b,gY a
    exact⟨_,rfl,h⟩
  |false =>
   have b:Heap.IsTuple (Shared.heap ⟨j,g,d,i,os⟩) c m:=k
   cases b2 with
   |true =>
    have a:Heap.IsList (Shared.heap ⟨j.push { cls:=.type "tuple_iterator",data:=.fields #[.ref c,.int 0 0] },g,d,i,os⟩) f l:=Heap.IsList.push e _
    wp_walk using gY b,jL a
    exact⟨_,rfl,h⟩
   |false =>
    have a:Heap.IsTuple (Shared.heap ⟨j.push { cls:=.type "tuple_iterator",data:=.fields #[.ref c,.int 0 0] },g,d,i,os⟩) f l:=Heap.IsTuple.push e _
    wp_walk using gY b,gY a
    exact⟨_,rfl,h⟩
end PySem
namespace PySem
section
variable {prog:zM}{w:World}{A:zN}{E:yI}{s:zn}
def zbF {b1 b2:Bool}{d:Addr}{Q:yI}(j:lu b1 s.heap a r)(m:lu b2 s.heap d y) (h:∀ f,IsZip f (s.heap.objs.size+4) (s.heap.objs.size+2) (s.heap.objs.size+3) .none->IsPair f (s.heap.objs.size+2) (.ref s.heap.objs.size) (.ref (s.heap.objs.size+1)) ->
 IsPair f (s.heap.objs.size+3) .none .none->gF b1 f s.heap.objs.size a 0->gF b2 f (s.heap.objs.size+1) d 0 ->
 (∀ c o,s.heap.get? c≈o->f.get? c≈o)->Q (.ref (s.heap.objs.size+4)) { s with heap:=f }) :
 wpAny (model prog w) A (call (.type "zip") [.ref a,.ref d]) Q E s:=by
 refine callType_new F.called_zip ⋯ (F.typeCall_zip_2 _ _) (F.newCall_zip_2 _ _) (λobj=>F.args_object_init_3 obj _ _) F.entry_zip_new
  (zc1 b1 b2 a d r y) ⟨j,m,?_⟩
 have n:(su s.heap b1 a).objs.size=s.heap.objs.size+1:=p9 ..
 have k:(sr s.heap b1 b2 a d).objs.size=s.heap.objs.size+2:=by rw[p9,n]
 have i:(rZ s.heap b1 b2 a d).objs.size=s.heap.objs.size+3:=by rw[p9,k]
 have v:(rY s.heap b1 b2 a d).objs.size=s.heap.objs.size+4:=by rw[p9,i]
 have p:(iw s.heap b1 b2 a d).get? (rY s.heap b1 b2 a d).objs.size≈_:=j5 _ rfl
 have q:(iw s.heap b1 b2 a d).get? (rZ s.heap b1 b2 a d).objs.size≈_:=u6 _ (j5 _ rfl)
 have u:(iw s.heap b1 b2 a d).get? (sr s.heap b1 b2 a d).objs.size≈_:=u6 _ (u6 _ (j5 _ rfl))
 have t:(iw s.heap b1 b2 a d).get? (su s.heap b1 a).objs.size≈(ou b2 d):=u6 _ (u6 _ (u6 _ (j5 _ rfl)))
 have z:(iw s.heap b1 b2 a d).get? s.heap.objs.size≈(ou b1 a):=u6 _ (u6 _ (u6 _ (u6 _ (j5 _ rfl))))
 show _/\_
 rw[k,i,v]at p
 rw[n,k]at u
 rw[i]at q
 rw[n]at t
 rw[v]
 have g:∀ {b:Bool} {l c:Addr},(iw s.heap b1 b2 a d).get? c≈(ou b l)->gF b (iw s.heap b1 b2 a d) c l 0:=λ{b l c} e=>by
  cases b
  .exact⟨_,e,rfl,rfl⟩
  .exact⟨_,e,rfl,rfl⟩
 exact⟨⟨_,p,rfl⟩,h _ p u q (g z) (g t) λc o x =>
  u6 _ (u6 _ (u6 _ (u6 _ (u6 _ x))))⟩
variable {z TI TO i1 i2:Addr}{fp1 fp2:xW}{n1 n2 k1 k2:Nat}{P1 P2:Nat->Value->Prop}{St1 gb:Nat->Heap->Prop}{a b:Value}
theorem Zq {Q:Option Value->Shared->Prop}(D1:Draws prog w A.in1 i1 fp1 n1 P1 St1)(D2:Draws prog w A.in1 i2 fp2 n2 P2 gb)(C:tO z TI TO i1 i2 fp1 fp2)
 (h:IsZip s.heap z TI TO .none) (g:IsPair s.heap TI (.ref i1) (.ref i2)) (f:IsPair s.heap TO a b) (t:St1 k1 s.heap) (n:gb k2 s.heap) (m:k1 < n1) (q:k2 < n2)
 (B:∀ x y d e,P1 k1 x->P2 k2 y->IsZip d z TI TO (rawInt s.heap.objs.size)->IsPair d TO x y->St1 (k1+1) d->gb (k2+1) d->IsPair d s.heap.objs.size x y ->
  (∀ c o,c∉[z,TO,i1,i2]->s.heap.get? c≈o->d.get? c≈o)->Q (some (.ref s.heap.objs.size)) { s with heap:=d,toks:=e }) :
 wpAny (model prog w) A (pyNext (.ref z)) Q E s:=by
 have i:s.TypeIs (.ref z) "zip":=⟨_,h,rfl⟩
 unfold pyNext
 exact u5 (ie (p5 (name:=Str.ofString "__next__") i Aj
  (l9 Aj i F.entry_zip_next
   (zcc D1 D2 C h g f t n m q λx y d e u D p j r k l v=>t5 (B x y d e u D p j r k l v)) (F.args_zip_next_1 _))))
def ZE {Q:Option Value->Shared->Prop}(D1:Draws prog w A.in1 i1 fp1 n1 P1 St1)(f:z∉fp1)(k:i1≠z)
 (h:IsZip s.heap z TI TO .none) (d:IsPair s.heap TI (.ref i1) (.ref i2)) (n:St1 n1 s.heap)
 (j:∀ a,(∀ c o,c≠z->c≠i1->s.heap.get? c≈o->a.get? c≈o)->Q none { s with heap:=a }):wpAny (model prog w) A (pyNext (.ref z)) Q E s:=by
 have g:s.TypeIs (.ref z) "zip":=⟨_,h,rfl⟩
 unfold pyNext
 refine u5 (ie (p5 (name:=Str.ofString "__next__") g Aj
  (l9 Aj g F.entry_zip_next (zds D1 f k h d n λa e l m=>?_) (F.args_zip_next_1 _))))
 obtain⟨o,p,i⟩:=m
 refine u5 (wpAny_isInstance (T:="StopIteration") (b:=true) ⟨o,p,i⟩ isSubtype_stop ?_)
 exact t5 (j _ l)
end
end PySem
namespace L2
open PySem PySem.Spec PyProof.Rows
def Sq (b:Bool)(K:zx)(H:Hp)(a:Addr)(c:zy):Prop:=if b then aK K H a c else aJ K H a c
def aa.sq {X:Cx}{d:xv}{g:St}{s:zn}(I:aa X d g H s)(h:Sq b X.K H a e):∃ c:zz,ym e c/\lu b s.heap a c.toArray/\a<s.heap.objs.size:=by
 cases b with
 |true =>
  obtain⟨c,r,p,_⟩:=I.list (show aK X.K H a e from h)
  exact⟨c,r,p.isList,by obtain⟨o,n,f,_⟩:=p;exact q7 f⟩
 |false =>
  obtain⟨c,r,p,_⟩:=I.tuple (show aJ X.K H a e from h)
  exact⟨c,r,p,by obtain⟨o,f,_⟩:=p;exact q7 f⟩
def aa.sq_inj {X:Cx}{g:St}{f:zy}(I:aa X c g H s)(h:Sq b X.K H a e)(d:Sq b X.K H a f):e=f:=by
 cases b with
 |true=>exact I.list_inj h d
 |false=>exact I.tuple_inj h d
def Rp (K:zx)(b1 b2:Bool)(c d:Addr):It :=
 ⟨λi H=>∃ a b x y,Sq b1 K H c a/\Sq b2 K H d b/\a[i]?≈x/\b[i]?≈y,
  λi H v H'=>∃ T x y,v=.ref T/\H T=none/\H'=aA H T (.tup [x,y])/\(∀ a,Sq b1 K H c a->a[i]?≈x)/\(∀ b,Sq b2 K H d b->b[i]?≈y),
  λi H=>∃ a,Sq b1 K H c a/\i=a.length⟩
def ZW {h:Heap}{d:Addr}{k:Nat}(x:gF b h d l k):∃ o,h.get? d≈o/\∀ v,o.data≠.cell v:=by
 cases b
 .obtain⟨o,c,_,a⟩:=x
  exact⟨o,c,λv z=>by rw[a]at z;cases z⟩
 .obtain⟨o,c,_,a⟩:=x
  exact⟨o,c,λv z=>by rw[a]at z;cases z⟩
def Wf {h d:Heap}{k:Nat}(x:gF b h a l k)(e:∀ o,h.get? a≈o->d.get? a≈o):gF b d a l k:=by
 cases b
 .obtain⟨o,c,r⟩:=x
  exact⟨o,e o c,r⟩
 .obtain⟨o,c,r⟩:=x
  exact⟨o,e o c,r⟩
def zk4 {P:zM}{w:World}{K:zx}{es:yO}{k:Nat}{tp:Pos}(b1 b2:Bool)(l1 l2 z TI TO i1 i2:Addr)(ap:tO z TI TO i1 i2 [i1,l1] [i2,l2])(n1:l1≠i1)(n2:l2≠i2) :
 iB P w K (.Tuple es k tp) (Rp K b1 b2 l1 l2) [z,TI,TO,i1,i2] z (λi h=>IsZip h z TI TO .none/\IsPair h TI (.ref i1) (.ref i2)/\(∃ a b,IsPair h TO a b)/\gF b1 h i1 l1 i/\gF b2 h i2 l2 i) where
 mem:=by simp
 obj:=λi h st b hb=>by
  obtain⟨hz,hTI,⟨a,c,hTO⟩,h1,h2⟩:=st
  simp only[q5,n0,bT]at hb
  rcases hb with rfl|rfl|rfl|rfl|rfl
  .exact⟨_,hz,λv z=>by cases z⟩
  .exact⟨_,hTI,λv z=>by cases z⟩
  .exact⟨_,hTO,λv z=>by cases z⟩
  .exact ZW h1
  .exact ZW h2
 keep:=λi h h' st kk=>by
  obtain⟨hz,hTI,⟨a,c,hTO⟩,h1,h2⟩:=st
  exact⟨kk z (by simp) _ hz,kk TI (by simp) _ hTI,⟨a,c,kk TO (by simp) _ hTO⟩,Wf h1 λo q=>kk i1 (by simp) o q,Wf h2 λo q=>kk i2 (by simp) o q⟩
 item:=by
  intro X hP hw hK hc i pins s σ H E I hf st hg
  subst hP hw hK
  obtain⟨hz,hTI,⟨a,c,hTO⟩,h1,h2⟩:=st
  obtain⟨xs,ys,x,y,hq1,hq2,hx,hy⟩:=hg
  obtain⟨its,rv,p,_⟩:=I.sq hq1
  obtain⟨its2,rv2,p2,_⟩:=I.sq hq2
  obtain⟨u,hu,ru⟩:=rv.get hx
  obtain⟨u2,hu2,ru2⟩:=rv2.get hy
  have hl1:i<its.toArray.size:=by simpa using (j3.mp hu).1
  have hl2:i<its2.toArray.size:=by simpa using (j3.mp hu2).1
  have hh:X.A.in1.handled=none:=I.ok.hd hc
  refine Zq (WI hh b1 i1 l1 n1 its.toArray) (WI hh b2 i2 l2 n2 its2.toArray) ap hz hTI hTO ⟨h1,p⟩ ⟨h2,p2⟩ hl1 hl2 λv1 v2 h' tk e1 e2 hz' hTO' s1 s2 hT' hk=>?_
  have eu:v1=u:=by
   have:its[i]?≈v1:=by simpa using e1
   rw[hu]at this
   exact(g0 this).symm
  have eu2:v2=u2:=by
   have:its2[i]?≈v2:=by simpa using e2
   rw[hu2]at this
   exact(g0 this).symm
  subst eu eu2
  obtain⟨nd,az1,az2,ao1,ao2,a12,a21⟩:=ap
  simp only[iT,q5,n0,bT,fu,Az,pP,and_true]at nd
  obtain⟨⟨m1,m2,m3,m4⟩,⟨m5,m6,m7⟩,⟨m8,m9⟩,m10⟩:=nd
  refine⟨_,rfl,wpAny_letOwnedTupleGo_zip hz' λh2' hz2 hs2=>?_⟩
  have hfr:H s.heap.objs.size=none:=I.hok.fresh (t7 _)
  have neZ:s.heap.objs.size≠z:=gZ (q7 hz)
  have hT2:IsPair h2' s.heap.objs.size v1 v2:=(hs2.2 _ neZ).trans hT'
  have hTI':IsPair h' TI (.ref i1) (.ref i2):=hk TI _ (by simp[bw m1,m5,m6,m7]) hTI
  have lt:∀ b∈[z,TI,TO,i1,i2],b<s.heap.objs.size:=λb hb=>by
   simp only[q5,n0,bT]at hb
   rcases hb with rfl|rfl|rfl|rfl|rfl
   .exact q7 hz
   .exact q7 hTI
   .exact q7 hTO
   .obtain⟨o,ho,_⟩:=ZW h1;exact q7 ho
   .obtain⟨o,ho,_⟩:=ZW h2;exact q7 ho
  refine⟨.ref s.heap.objs.size,aA H s.heap.objs.size (.tup [x,y]),?_,rfl,⟨_,x,y,rfl,hfr,rfl,λzs hz=>by rw[I.sq_inj hz hq1];exact hx,λzs hz=>by rw[I.sq_inj hz hq2];exact hy⟩,
   ⟨hz2,(hs2.2 TI (bw m1)).trans hTI',⟨_,_,(hs2.2 TO (bw m2)).trans hTO'⟩,Wf s1.1 λo q=>(hs2.2 i1 (bw m3)).trans q,Wf s2.1 λo q=>(hs2.2 i2 (bw m4)).trans q⟩,λb hb=>?_⟩
  .refine I.grown (ch:=[z,TI,TO,i1,i2]) hf (t7 _) (λb v hb q=>?_) ?_
   .have nb:b≠z:=λw=>hb (by simp[w])
    refine(hs2.2 b nb).trans (hk b v (λw=>hb ?_) q)
    simp only[q5,n0,bT]at w ⊢
    rcases w with w|w|w|w
    .exact .inl w
    .exact .inr (.inr (.inl w))
    .exact .inr (.inr (.inr (.inl w)))
    .exact .inr (.inr (.inr (.inr w)))
   .exact⟨by show 2<=sizeLine;decide,[v1,v2],.cons ru (.cons ru2 .nil),⟨_,hT2,rfl,0,rfl⟩⟩
  .rw[zj (j9 (lt b hb))]
   exact(hf b hb).1
 done:=by
  intro X hP hw hK hc i pins s σ H E I hf st hg
  subst hP hw hK
  obtain⟨hz,hTI,⟨a,c,hTO⟩,h1,h2⟩:=st
  obtain⟨xs,hq,rfl⟩:=hg
  obtain⟨its,rv,p,_⟩:=I.sq hq
  have hl:=rv.length
  have hh:X.A.in1.handled=none:=I.ok.hd hc
  have D:=WI (prog:=X.prog) (w:=X.w) hh b1 i1 l1 n1 its.toArray
  refine ZE D ap.z1 ?_ hz hTI ⟨by rw[t9,<- hl];exact h1,p⟩ λh' hk=>⟨rfl,I.turnedN (ch:=[z,TI,TO,i1,i2]) (t':=s.toks) hf λb v hb q=>hk b v (λw=>hb (by simp[w])) (λw=>hb (by simp[w])) q⟩
  have nd:=ap.nd
  simp only[iT,q5,n0,bT,fu,Az,pP,and_true]at nd
  exact bw nd.1.2.2.1
 self:=λ_ _ _ _ _ st h=>wpAny_pyIter_zip st.1 h
def Ih (K:zx)(e:TA):TI:=λc H R=>e c H λg H1=>∃ b1 b2 a b d f,g=[.ref a,.ref b]/\Sq b1 K H1 a d/\Sq b2 K H1 b f/\R (Rp K b1 b2 a b) H1
def T6 {X:Cx} {V:yO} {k:Nat} {p:Pos} (O:Gl X "zip") (hm:X.mg "zip"=none) (r:bootBuiltins "zip"≈(.type "zip")) (S:PA X [a,b] L) (Z:starEach [a,b] X.env=[(false,eval a X.env),(false,eval b X.env)]:=by rfl) (w:starEach [b] X.env=[(false,eval b X.env)]:=by rfl):PI X (.Tuple V k Q) (.Call (.Name "zip" p) [a,b] [] v) (Ih X.K L):=by
 intro g s σ H R I h
 refine Call_ (Vi I O hm r (pY (aC (S v g s σ H _ I h) λus c hh9=>?_) (by rw[Z,w]) (by rw[w];rfl)))
 obtain⟨vs,H1,I1,Y,N⟩:=hh9
 obtain⟨b1,b2,x,B,xs,ys,e,D,y,q⟩:=N
 subst e
 obtain⟨u,u2,rfl,ru,E⟩:=kY Y
 cases ru
 cases E
 obtain⟨a0,rv,T,d⟩:=I1.sq D
 obtain⟨M,U,P,o⟩:=I1.sq y
 refine zbF T P λh2 K F A J C W=>wpAny_pyIter_zip K ?_
 have t:∀ b,c.heap.objs.size<=b->dD X g H1 b:=λb r=>I1.fpOk r (I1.hok.fresh r)
 have ap:tO (c.heap.objs.size+4) (c.heap.objs.size+2) (c.heap.objs.size+3) c.heap.objs.size (c.heap.objs.size+1) [c.heap.objs.size,x] [c.heap.objs.size+1,B]:=by
  have N:x≠c.heap.objs.size:=j9 d
  have z:∀ j:Nat,c.heap.objs.size+j≠x:=λj e=>dY _ (j0 (by rw[<-e]at d;exact d) (gV _ _))
  have G:∀ j:Nat,c.heap.objs.size+j≠B:=λj e=>dY _ (j0 (by rw[<-e]at o;exact o) (gV _ _))
  have f:∀ i j:Nat,i≠j->c.heap.objs.size+i≠c.heap.objs.size+j:=λi j h e=>h (Nat.add_left_cancel e)
  have l:∀ i:Nat,i≠0->c.heap.objs.size+i≠c.heap.objs.size:=λi h e=>h (Nat.add_left_cancel (n:=c.heap.objs.size) (m:=i) (k:=0) e)
  refine⟨?_,?_,?_,?_,?_,?_,?_⟩
  .simp only[iT,q5,n0,bT,fu,Az,pP,and_true]
   exact⟨⟨f 4 2 ⋯,f 4 3 ⋯,l 4 ⋯,f 4 1 ⋯⟩,⟨f 2 3 ⋯,l 2 ⋯,f 2 1 ⋯⟩,⟨l 3 ⋯,f 3 1 ⋯⟩,bw (l 1 ⋯)⟩
  .simp only[q5,n0,bT,fu];exact⟨l 4 ⋯,z 4⟩
  .simp only[q5,n0,bT,fu];exact⟨f 4 1 ⋯,G 4⟩
  .simp only[q5,n0,bT,fu];exact⟨l 3 ⋯,z 3⟩
  .simp only[q5,n0,bT,fu];exact⟨f 3 1 ⋯,G 3⟩
  .simp only[q5,n0,bT,fu];exact⟨bw (l 1 ⋯),G 0⟩
  .simp only[q5,n0,bT,fu];exact⟨l 1 ⋯,z 1⟩
 refine⟨_,_,_,_,H1,rfl,I1.kept (t':=c.toks) W,zk4 b1 b2 x B _ _ _ _ _ ap (j9 d) (j9 (jM o)),⟨K,F,⟨_,_,A⟩,J,C⟩,λb r=>?_,q⟩
 simp only[q5,n0,bT]at r
 rcases r with rfl|rfl|rfl|rfl|rfl
 .exact t _ (gV _ _)
 .exact t _ (gV _ _)
 .exact t _ (gV _ _)
 .exact t _ (t7 _)
 .exact t _ (gV _ _)
end L2
namespace OwnSort
open PySem PyProof.Rows
section pure
variable {κ:KeyKind}{xs:Array Keyed}
def up1 (b:SortedToK κ xs x)(e:1<=x)(h:κ.kle (KK κ xs (x-1)) (KK κ xs x)):SortedToK κ xs (x+1):=λi j a f=>by
 by_cases c:j<x
 .exact b i j a c
 .obtain rfl:j=x:=by omega
  by_cases d:i=j
  .rw[d];exact iU _
  .exact Bj (b i (j-1) ∅ ∅) h
def tU (b:NonIncK κ xs x)(e:1<=x)(h:κ.kle (KK κ xs x) (KK κ xs (x-1))):NonIncK κ xs (x+1):=λi j a f=>by
 by_cases c:j<x
 .exact b i j a c
 .obtain rfl:j=x:=by omega
  by_cases d:i=j
  .rw[d];exact iU _
  .exact Bj h (b i (j-1) ∅ ∅)
def WS (e:∀ i,KK κ b i=KK κ xs i)(h:NonIncK κ xs n):NonIncK κ b n:=λi j a c=>by rw[e,e];exact h i j a c
def turned {n:Nat}(a:n<=xs.size)(h:NonIncK κ xs n):SortedToK κ (mirror xs 0 n ((n-0)/2)) n:=λi j b c=>by
 rw[KK_mirror a,KK_mirror a,q4 ⟨by omega,by omega⟩,q4 ⟨by omega,by omega⟩]
 exact h _ _ ∅ ∅
def zeW:SortedToK κ xs 1:=λi j a b=>by
 obtain rfl:i=j:=by omega
 exact iU _
def zff:NonIncK κ xs 1:=λi j a b=>by
 obtain rfl:i=j:=by omega
 exact iU _
end pure
structure SB (k:SortKind) (a₀:Array Keyed) (st:SortSt):Prop where
 pm:(arrOf st).Perm a₀
 kd:kindOf st=k
 fl:failedOf st=none
 pd:pendingOf st=#[]
def SB.sz {k:SortKind}{a:Array Keyed}(B:SB k a b):(arrOf b).size=a.size:=B.pm.size_eq
def SB.put {k:SortKind}{c:Array Keyed}(B:SB k a b)(p:c.Perm (arrOf b)):SB k a (setArr b c):=⟨p.trans B.pm,B.kd,B.fl,B.pd⟩
section
variable {prog:zM}{w:World}{A:zN}{E:yI}{s:zn}{a₀:Array Keyed}{κ:KeyKind}{k:SortKind}{st:SortSt}
def LtOk (prog:zM)(w:World)(A:zN)(E:yI)(s:zn)(a₀:Array Keyed)(κ:KeyKind)(k:SortKind):Prop :=
 ∀ (st:SortSt) (i j:Nat) (Q:Option Bool->SortSt->Prop),SB k a₀ st->i<a₀.size->j<a₀.size->Q (some (κ.blt (KK κ (arrOf st) i) (KK κ (arrOf st) j))) st->wpS (model prog w) A E s (ltAt' i j) Q st
def Np {a n:Nat}{Q:AscSt->SortSt->Prop}(L:LtOk prog w A E s a₀ κ k)(o:n<=a₀.size)(l:1<=a)(f:a<=n)(B:SB k a₀ st)(g:SortedToK κ (arrOf st) a)
 (h:∀ m,a<=m->m<=n->SortedToK κ (arrOf st) m->(m=n\/κ.klt (KK κ (arrOf st) m) (KK κ (arrOf st) (m-1)))->Q (none,m) st):wpS (model prog w) A E s (ascLoop a n) Q st:=by
 unfold ascLoop
 refine lV (I:=λx c t=>(t=st/\c=(none,x))/\SortedToK κ (arrOf st) x) (λx c t i j d=>?_) (λc t d=>?_) ⟨⟨rfl,rfl⟩,g⟩
 .obtain⟨⟨rfl,rfl⟩,b⟩:=d
  refine l7 (L _ x (x-1) _ B ∅ ∅ ?_)
  cases c:κ.blt (KK κ (arrOf t) x) (KK κ (arrOf t) (x-1)) with
  |true=>exact bR (h x i ∅ b (.inr c))
  |false=>exact bR ⟨⟨rfl,rfl⟩,up1 b ∅ c⟩
 .obtain⟨⟨rfl,rfl⟩,b⟩:=d
  have e:max a n=n:=by omega
  rw[e]at b ⊢
  exact h n f (t7 _) b (.inl rfl)
def PQ {n m:Nat}{Q:Option Nat->SortSt->Prop}(L:LtOk prog w A E s a₀ κ k)(c:m<=a₀.size)(d:1<=n)(a:n<=m)(B:SB k a₀ st)(b:NonIncK κ (arrOf st) n)
 (h:∀ r t,SB k a₀ t->1<=r->r<=m->SortedToK κ (arrOf t) r->Q (some r) t):wpS (model prog w) A E s (tail3 n m) Q st:=by
 unfold tail3
 have B':=B.put (mirror_perm (arrOf st) 0 n ((n-0)/2))
 exact l7 (wpS_reverse (l7 (Np L c d a B' (turned (by rw[B.sz];omega) b) λr g e f _=>bR (h r _ B' ∅ e f))))
def zkY {n m:Nat}{Q:DescSt->SortSt->Prop}(L:LtOk prog w A E s a₀ κ k)(J:m<=a₀.size)(D:1<=n)(p:n<=m)(B:SB k a₀ st)(G:NonIncK κ (arrOf st) n)
 (h:∀ r q t,SB k a₀ t->n<=r->r<=m->NonIncK κ (arrOf t) r->q+1<=r->(∀ i,r-(q+1)<=i->i<r->KK κ (arrOf t) i=KK κ (arrOf t) (r-1))->Q (none,r,q) t):wpS (model prog w) A E s (descLoop n m) Q st:=by
 unfold descLoop
 refine lV (I:=λx c t=>∃ q,c=(none,x,q)/\SB k a₀ t/\NonIncK κ (arrOf t) x/\q+1<=x/\∀ i,x-(q+1)<=i->i<x->KK κ (arrOf t) i=KK κ (arrOf t) (x-1))
  (λx c t C z y=>?_) (λc t y=>?_) ⟨0,rfl,B,G,D,λi o b=>by rw[show i=n-1 from Ah (Ax b) o]⟩
 .obtain⟨q,rfl,B1,g,v,j⟩:=y
  have a:x<a₀.size:=j0 z J
  have f:x-1<a₀.size:=i8 (Nat.sub_le _ _) a
  have l:1<=x:=r6 D C
  have F:x<=(arrOf t).size:=by rw[B1.sz];exact p6 a
  refine l7 (L _ x (x-1) _ B1 a f ?_)
  cases c:κ.blt (KK κ (arrOf t) x) (KK κ (arrOf t) (x-1)) with
  |true =>
   have d:=tU g l (Bc c)
   by_cases u:q>0
   .show wpS _ _ _ _ (if q>0 then _ else _) _ _
    rw[q4 u]
    exact l7 (wpS_reverse (bR ⟨0,rfl,B1.put (mirror_perm _ _ _ _),WS (KK_mirror_equal F j) d,pH (cX _),λi o b=>by rw[show i=x+1-1 from Ah (fW b) o]⟩))
   .show wpS _ _ _ _ (if q>0 then _ else _) _ _
    rw[j4 u]
    exact bR ⟨0,rfl,B1,d,pH (cX _),λi o b=>by rw[show i=x+1-1 from Ah (fW b) o]⟩
  |false =>
   refine l7 (L _ (x-1) x _ B1 f a ?_)
   cases b:κ.blt (KK κ (arrOf t) (x-1)) (KK κ (arrOf t) x) with
   |true=>exact bR (h x q t B1 C (p6 z) g v j)
   |false =>
    have same:KK κ (arrOf t) x=KK κ (arrOf t) (x-1):=KeyOrd.kle_antisymm b c
    refine bR ⟨q+1,rfl,B1,tU g l b,pH v,λi M K=>?_⟩
    show KK κ (arrOf t) i=KK κ (arrOf t) x
    by_cases H:i=x
    .rw[H]
    .rw[same];exact j i ∅ ∅
 .obtain⟨q,rfl,B1,g,v,j⟩:=y
  have e:max n m=m:=Nat.max_eq_right p
  rw[e]at g v j ⊢
  exact h m q t B1 p (t7 _) g v j
def XN {n m:Nat}{Q:Option Nat->SortSt->Prop}(L:LtOk prog w A E s a₀ κ k)(b:m<=a₀.size)(c:n+1<=m)(B:SB k a₀ st)(f:NonIncK κ (arrOf st) (n+1))
 (h:∀ r t,SB k a₀ t->1<=r->r<=m->SortedToK κ (arrOf t) r->Q (some r) t):wpS (model prog w) A E s (descPart n m) Q st:=by
 unfold descPart
 refine l7 (wpS_lift (iH ⟨rfl,l7 (zkY L b ∅ c B f λr q t B1 l e d j i=>?_)⟩))
 have g:r<=(arrOf t).size:=by rw[B1.sz];omega
 by_cases a:q>0
 .show wpS _ _ _ _ (if q>0 then _ else _) _ _
  rw[q4 a]
  exact l7 (wpS_reverse (PQ (n:=r) L b ∅ e (B1.put (mirror_perm _ _ _ _)) (WS (KK_mirror_equal g i) d) h))
 .show wpS _ _ _ _ (if q>0 then _ else _) _ _
  rw[j4 a]
  exact PQ (n:=r) L b ∅ e B1 d h
def zn8 {m:Nat}{Q:Option Nat->SortSt->Prop}(L:LtOk prog w A E s a₀ κ k)(d:m<=a₀.size)(p:1<=m)(B:SB k a₀ st)
 (h:∀ r t,SB k a₀ t->1<=r->r<=m->SortedToK κ (arrOf t) r->Q (some r) t):wpS (model prog w) A E s (countRun' 0 m) Q st:=by
 rw[countRun0_eq]
 refine l7 (Np L d (t7 1) p B zeW λn l f a or=>?_)
 show wpS _ _ _ _ (if (n == m) then _ else if n>1 then _ else _) _ _
 by_cases e:n=m
 .rw[q4 (by rw[e];exact mD m)]
  exact bR (h n st B l f a)
 .rw[j4 (λz=>e (eq_of_beq z))]
  have o:=or.resolve_left e
  by_cases g:n>1
  .rw[q4 g]
   refine l7 (L _ 0 (n-1) _ B ∅ ∅ ?_)
   cases c:κ.blt (KK κ (arrOf st) 0) (KK κ (arrOf st) (n-1)) with
   |true=>exact bR (h n st B l f a)
   |false =>
    have u:n<=(arrOf st).size:=by rw[B.sz];omega
    have b:∀ i,0<=i->i<n->KK κ (arrOf st) i=KK κ (arrOf st) (n-1):=λi _ x =>
     KeyOrd.kle_antisymm (a i (n-1) ∅ ∅) (Bj c (a 0 i ∅ x))
    have v:NonIncK κ (arrOf st) n:=λi j _ q=>by rw[b i ∅ ∅,b j ∅ q];exact iU _
    exact l7 (wpS_reverse (XN L d ∅ (B.put (mirror_perm _ _ _ _)) (WS (KK_mirror_equal u b) (tU v ∅ (Bc o))) h))
  .rw[j4 g]
   obtain rfl:n=1:=by omega
   exact XN L d ∅ B (tU zff (t7 1) (Bc o)) h
def Tz {l u a:Nat}(h:(l+u)/2=a)(c:¬ l >= u):l<=a/\a<u:=by
 have b:l<u:=Nat.lt_of_not_le c
 rw[<-h]
 exact⟨(Nat.le_div_iff_mul_le ⋯).mpr (by rw[Nat.mul_two];exact pZ (p6 b) l),(Nat.div_lt_iff_lt_mul ⋯).mpr (by rw[Nat.mul_two];exact Nat.add_lt_add_right b u)⟩
def Ru {l u a x y:Nat}(d:l<=a)(b:a<u)(c:u-l<=x-y):a-l<=x-(y+1) :=
 r6 (Ax (Nat.sub_lt_sub_right d b)) (Hq c 1)
def SM {l u a x y:Nat}(c:l<=a)(b:u-l<=x-y):u-(a+1)<=x-(y+1) :=
 r6 (Nat.sub_le_sub_left (pH c) u) (Hq b 1)
def TJ (r n:Nat):min (max (max r 1) n) n=n:=G7 (Nat.le_max_right _ _)
def U7 {r n:Nat}(b:¬ r=0)(a:r<=n):min (max r 1) n=r:=by
 rw[Nat.max_eq_left (Nat.pos_of_ne_zero b),pR a]
def zpG {i j r:Nat}(c:r=0)(a:i<=j)(b:j<min (max r 1) n):i=j:=by
 subst c
 have h0:j=0:=Nat.lt_one_iff.mp (j0 b (Nat.min_le_left _ _))
 subst h0
 exact Nat.le_zero.mp a
def zmt {n r:Nat}{Q:Bool->SortSt->Prop}(L:LtOk prog w A E s a₀ κ k)(X:n<=a₀.size)(Y:r<=n)(B:SB k a₀ st)(W:SortedToK κ (arrOf st) r)
 (h:∀ t,SB k a₀ t->SortedToK κ (arrOf t) n->Q true t):wpS (model prog w) A E s (binarySort' 0 n r) Q st:=by
 rw[binarySort'_eq]
 refine l7 (wpS_mono (lV (I:=λx c t=>(c=(none,())/\SB k a₀ t)/\SortedToK κ (arrOf t) (min x n)) (Q:=λc t=>(c=(none,())/\SB k a₀ t)/\SortedToK κ (arrOf t) n)
  (λx c t Z N C=>?_) (λc t C=>?_) ⟨⟨rfl,B⟩,?_⟩) λc t C=>?_)
 .obtain⟨⟨rfl,B1⟩,d⟩:=C
  rw[pR (p6 N)]at d
  have P:x<a₀.size:=j0 N X
  refine l7 (wpS_mono (lV
   (I:=λy c f=>f=t/\∃ l u,c=(none,l,u)/\(l<=u/\u<=x/\u-l<=x-y)/\(∀ i,i<l->κ.kle (KK κ (arrOf t) i) (KK κ (arrOf t) x))/\∀ i,u<=i->i<x->κ.klt (KK κ (arrOf t) x) (KK κ (arrOf t) i))
   (Q:=λc f=>f=t/\∃ l u,c=(none,l,u)/\l<=x/\(∀ i,i<l->κ.kle (KK κ (arrOf t) i) (KK κ (arrOf t) x))/\∀ i,l<=i->i<x->κ.klt (KK κ (arrOf t) x) (KK κ (arrOf t) i))
   (λy c f y1 y2 D=>?_) (λc f D=>?_) ⟨rfl,0,x,rfl,⟨cX _,t7 _,t7 _⟩,λi V=>absurd V (Nat.not_lt_zero _),λi b m=>absurd (i8 b m) (dY _)⟩) λc f D=>?_)
  .obtain⟨rfl,l,u,rfl,⟨J,g,M⟩,v,z⟩:=D
   show wpS _ _ _ _ (if l >= u then _ else _) _ _
   by_cases F:l >= u
   .rw[q4 F]
    obtain rfl:l=u:=Ah J F
    exact bR ⟨rfl,l,l,rfl,g,v,z⟩
   .rw[j4 F]
    generalize G:(l+u)/2=md
    obtain⟨O,K⟩:=Tz G F
    clear G F J
    refine l7 (L _ (0+x) (0+md) _ B1 (by rw[l0];exact P) (by rw[l0];exact j0 K (r6 g (p6 P))) ?_)
    rw[l0,l0]
    cases S:κ.blt (KK κ (arrOf f) x) (KK κ (arrOf f) md) with
    |true=>exact bR ⟨rfl,l,md,rfl,⟨O,r6 (p6 K) g,Ru O K M⟩,v,λi b m=>KeyOrd.klt_of_klt_of_kle S (d _ _ b m)⟩
    |false=>exact bR ⟨rfl,md+1,u,rfl,⟨K,g,SM O M⟩,λi b=>Bj (d i md (fW b) (j0 K g)) S,z⟩
  .obtain⟨rfl,l,u,rfl,⟨J,g,M⟩,v,z⟩:=D
   obtain rfl:l=u:=by omega
   exact⟨rfl,l,l,rfl,g,v,z⟩
  .obtain⟨rfl,l,u,rfl,g,v,z⟩:=D
   show wpS _ _ _ _ (do moveDown' (0+x) (0+l);pure (ForInStep.yield (none,()))) _ _
   rw[moveDown'_eq,l0,l0]
   refine l7 (wpS_modify (bR ⟨⟨rfl,B1.put (bubble_perm _ _ _)⟩,?_⟩))
   have R:x<(arrOf f).size:=by rw[B1.sz];exact P
   rw[pR (Nat.succ_le_of_lt N)]
   show SortedToK κ (bubble (arrOf f) x (x-l)) (x+1)
   intro i j a o
   rw[KK_bubble R (Nat.sub_le _ _),KK_bubble R (Nat.sub_le _ _),Nat.sub_sub_self g]
   by_cases b:i=l
   .rw[q4 b]
    by_cases q:j=l
    .rw[q4 q];exact iU _
    .have p:l<j:=G4 (by rw[<-b];exact a) (λe=>q e.symm)
     rw[j4 q,q4 ⟨p,fW o⟩];exact Bc (z _ (Ax p) (j0 (Nat.sub_lt (GD p) Nat.one_pos) (fW o)))
   .rw[j4 b]
    by_cases m:l<i/\i<=x
    .have p:=j0 m.1 a
     rw[q4 m,j4 (λe=>absurd p (by rw[e];exact dY _)),q4 ⟨p,fW o⟩];exact d _ _ (Hq a 1) (j0 (Nat.sub_lt (GD p) Nat.one_pos) (fW o))
    .rw[j4 m]
     have T:i<l:=G4 (jJ λh=>m ⟨h,r6 a (fW o)⟩) b
     clear m b
     by_cases q:j=l
     .rw[q4 q];exact v i T
     .rw[j4 q]
      by_cases H:l<j/\j<=x
      .rw[q4 H];exact d _ _ (Ax (Nat.lt_trans T H.1)) (j0 (Nat.sub_lt (GD H.1) Nat.one_pos) (fW o))
      .rw[j4 H];exact d _ _ a (j0 (G4 (jJ λh=>H ⟨h,fW o⟩) q) g)
 .obtain⟨⟨J,B1⟩,d⟩:=C
  rw[TJ]at d
  exact⟨⟨J,B1⟩,d⟩
 .by_cases U:r=0
  .intro i j a o
   obtain rfl:i=j:=zpG U a o
   exact iU _
  .rw[U7 U Y];exact W
 .obtain⟨⟨rfl,B1⟩,d⟩:=C
  exact bR (h t B1 d)
def own_runs {Q:Unit->SortSt->Prop}(L:LtOk prog w A E s a₀ κ k)(B:SB k a₀ st)(D:2<=a₀.size)(v:a₀.size<64)
 (h:∀ t,(arrOf t).Perm a₀->failedOf t=none->SortedToK κ (arrOf t) a₀.size->Q () t):wpS (model prog w) A E s sortRuns' Q st:=by
 rw[sortRuns'_eq]
 have l:minRun' a₀.size a₀.size 0=a₀.size:=by
  cases e:a₀.size with
  |zero=>omega
  |succ f=>rw[minRun'_succ,q4 ∅,Nat.add_zero]
 refine l7 (wpS_get ?_)
 simp only[B.sz,l]
 let Dn:SortSt->Prop:=λt=>(arrOf t).Perm a₀/\failedOf t=none/\pendingOf t=#[(0,a₀.size,0)]/\SortedToK κ (arrOf t) a₀.size
 have fin:∀ t,SB k a₀ t->SortedToK κ (arrOf t) a₀.size->Dn (setPending t ((pendingOf t).push (0,a₀.size,0))):=λt B1 y=>⟨B1.pm,B1.fl,by show(pendingOf t).push _=_;rw[B1.pd];rfl,y⟩
 refine l7 (wpS_mono (lV (I:=λx c t=>(x=0/\c=(none,0)/\SB k a₀ t)\/(1<=x/\c=(none,a₀.size)/\Dn t)) (Q:=λc t=>c=(none,a₀.size)/\Dn t)
  (λx c t F C a=>?_) (λc t a=>?_) (.inl ⟨rfl,rfl,B⟩)) λc t a=>?_)
 .rcases a with ⟨rfl,rfl,B1⟩|⟨_,rfl,D1⟩
  .show wpS _ _ _ _ (if 0 >= a₀.size then _ else _) _ _
   rw[j4 ∅]
   simp only[Nat.sub_zero,Nat.min_self,l0]
   refine l7 (zn8 L (t7 _) ∅ B1 λr g B2 G p j=>?_)
   show wpS _ _ _ _ (if r<a₀.size then _ else _) _ _
   by_cases d:r<a₀.size
   .rw[q4 d]
    refine l7 (wpS_lift (iH ⟨rfl,l7 (zmt L (t7 _) p B2 j λi B3 q=>?_)⟩))
    refine l7 (wpS_get ?_)
    rw[show(pendingOf i).back?=none by rw[B3.pd];rfl]
    exact l7 (wpS_modify (bR (.inr ⟨by omega,rfl,fin i B3 q⟩)))
   .rw[j4 d]
    obtain rfl:r=a₀.size:=by omega
    refine l7 (wpS_get ?_)
    rw[show(pendingOf g).back?=none by rw[B2.pd];rfl]
    exact l7 (wpS_modify (bR (.inr ⟨by omega,rfl,fin g B2 j⟩)))
  .show wpS _ _ _ _ (if a₀.size >= a₀.size then _ else _) _ _
   rw[q4 (t7 _)]
   exact bR ⟨rfl,D1⟩
 .rcases a with ⟨z,_,_⟩|⟨_,e,D1⟩
  .omega
  .exact⟨e,D1⟩
 .obtain⟨rfl,n,m,u,o⟩:=a
  refine l7 (wpS_mono (lV (I:=λ_ c b=>b=t/\c=(none,())) (Q:=λc b=>b=t/\c=(none,())) (λx c b _ _ a=>?_) (λ_ _ z=>z) ⟨rfl,rfl⟩) λc b a=>?_)
  .obtain⟨rfl,rfl⟩:=a
   refine l7 (wpS_get ?_)
   rw[q4 (by rw[u];exact t7 1)]
   exact bR ⟨rfl,rfl⟩
  .obtain⟨rfl,rfl⟩:=a
   exact bR (h _ n m o)
end
abbrev Pr:=Int × Int
def bltP (s t:Pr):Bool:=decide (s.1<t.1\/(s.1=t.1/\s.2<t.2))
def TP (h:Heap) (v:Value) (t:Pr):Prop:=∃ a o n b ty,v=.ref a/\h.get? a≈o/\o.cls=.type "tuple"/\o.data=.seq #[.int t.1 b,.int t.2 ty] n
def TP.uniq {t:Pr}(x:TP h v s)(y:TP h v t):s=t:=by
 obtain⟨a,o,n,k,ty,rfl,g,_,f⟩:=x
 obtain⟨b,m,j,l,i,e,d,_,c⟩:=y
 cases e
 rw[g]at d
 cases d
 rw[f]at c
 injection c with c _
 have:=bN Array.toList c
 simp at this
 exact gQ this.1.1 this.2.1
def TP.keep {h c:Heap}{t:Pr}(x:TP h v t)(k:∀ b o,h.get? b≈o->c.get? b≈o):TP c v t:=by
 obtain⟨a,o,n,d,ty,e,f,r⟩:=x
 exact⟨a,o,n,d,ty,e,k _ _ f,r⟩
open Classical in
noncomputable def keyP (h:Heap)(v:Value):Option Pr:=if x:∃ t,TP h v t then some x.choose else none
def keyP_of {t:Pr}(x:TP h v t):keyP h v≈t:=by
 unfold keyP
 have y:∃ t,TP h v t:=⟨t,x⟩
 rw[dif_pos y,y.choose_spec.uniq x]
@[reducible] noncomputable def kindP (h:Heap):KeyKind where
 α:=Pr
 blt:=bltP
 irrefl a:=by unfold bltP;exact t6 ∅
 trans a b c h1 h2:=by unfold bltP at *;rw[j8]at *;omega
 negTrans a b c h:=by unfold bltP at *;rw[j8]at *;rw[j8];omega
 total a b h1 h2:=by
  unfold bltP at *
  rw[p4]at *
  exact gQ ∅ ∅
 keyOf:=keyP h
 dflt:=(0,0)
def zhF (b:Bool)(x y:Value):keyLt' (tuples' b) x y=(do
 let xs<-Builtin.List.listItems x
 let ys<-Builtin.List.listItems y
 for ((p,q),i)in (xs.toList.zip ys.toList).zipIdx do
  if !(<- eqBool p q)then return<-oneLt' (b&&i == 0) p q
 return xs.size<ys.size):=rfl
def zhN (v:Value):firstOfTuple' v=(do
 if (<- typeOf v) != .type "tuple" then return none
 return (<- Builtin.List.listItems v)[0]?):=rfl
section
variable {prog:zM}{w:World}{A:zN}{E:yI}{s:zn}
def lt0 {a b:Int}{t:Tok}{Q:Bool->Shared->Prop}(h:Q (decide (a<b)) s):wpAny (model prog w) A (oneLt' false (.int a t) (.int b u)) Q E s:=by
 rw[oneLt'_eq]
 rw[j4 u7]
 exact u5 (PyProof.Rows.lt_int (fV h))
def Pk:∀ {a:zz},(∀ f∈a,∃ i t,f=.int i t)->a.mapM typeOf=pure (a.map λ_=>Value.type "int")
 |[],_=>by simp
 |f::a,h=>by
  obtain⟨i,t,rfl⟩:=h f o7
  rw[List.mapM_cons,Pk λg b=>h g (r0 _ b),show typeOf (.int i t)=pure (.type "int")from rfl]
  simp
end
end OwnSort
namespace OwnTim
open PySem PyProof.Rows
def ky (a:KeyKind)(x:Keyed):a.α:=(a.keyOf x.1).getD a.dflt
def LtE (a:zM)(w:World)(A:zN)(E:yI)(s:zn)(b:KeyKind)(k:SortKind)(D:Keyed->Prop):Prop :=
 ∀ (c:SortSt) (x y:Keyed) (Q:Option Bool->SortSt->Prop),kindOf c=k->D x->D y->Q (some (b.blt (ky b x) (ky b y))) c->wpS (model a w) A E s (lt' x y) Q c
section
variable {prog:zM}{w:World}{A:zN}{E:yI}{s:zn}{a₀:Array Keyed}{κ:KeyKind}{k:SortKind}{st:SortSt}
def Jv {i:Nat}(h:a[i]?≈x):KK κ a i=ky κ x:=by
 unfold KK
 rw[h]
 rfl
def zmu (L:LtE prog w A E s κ k (·∈a₀.toList)):OwnSort.LtOk prog w A E s a₀ κ k:=by
 intro st i j Q S b g q
 have a:∀ {i},i<a₀.size->∃ x,(arrOf st)[i]?≈x/\x∈a₀.toList:=λ{i} b=>by
  have c:i<(arrOf st).size:=by rw[S.sz];exact b
  exact⟨(arrOf st)[i],getElem?_pos _ i c,(QW.mp S.pm).mem_iff.mp (by simp)⟩
 obtain⟨x,d,h⟩:=a b
 obtain⟨y,e,f⟩:=a g
 rw[Jv d,Jv e]at q
 rw[ltAt'_eq]
 refine l7 (wpS_get ?_)
 show wpS _ _ _ _ (elem' (arrOf st) i>>=λx=>elem' (arrOf st) j>>=λy=>lt' x y) Q st
 rw[elem'_eq,elem'_eq,d,e]
 exact l7 (bR (l7 (bR (L _ _ _ _ S.kd h f q))))
def own_runsE {Q:Unit->SortSt->Prop}(L:LtE prog w A E s κ k (·∈a₀.toList))(d:(arrOf st).Perm a₀)(f:kindOf st=k)(c:failedOf st=none)(e:pendingOf st=#[])
 (h:∀ t,(arrOf t).Perm a₀->failedOf t=none->SortedToK κ (arrOf t) a₀.size->Q () t) (b:2<=a₀.size) (a:a₀.size<64):wpS (model prog w) A E s sortRuns' Q st:=OwnSort.own_runs (zmu L) ⟨d,f,c,e⟩ b a h
end
end OwnTim
namespace OwnSortT
open PySem PyProof.Rows OwnSort
def lex_irr:∀ a:zB,HT.lexLt a a=false:=by
 intro a
 induction a with
 |nil=>rfl
 |cons x c b=>rw[HT.lexLt_cons,q4 rfl,b]
def lex_trans:∀ a b c:zB,HT.lexLt a b=true->HT.lexLt b c=true->HT.lexLt a c=true:=by
 intro a
 induction a with
 |nil =>
  intro b c e d
  cases c with
  |nil=>cases b <;> cases d
  |cons _ _=>rfl
 |cons x i h =>
  intro b c e d
  cases b with
  |nil=>cases e
  |cons y j=>cases c with
   |nil=>cases d
   |cons z zs =>
    rw[HT.lexLt_cons]at e d ⊢
    by_cases g:x=y
    .rw[q4 g]at e
     by_cases f:y=z
     .rw[q4 f]at d;rw[q4 (g.trans f)];exact h _ _ e d
     .rw[j4 f,j8]at d;rw[j4 ∅,j8];omega
    .rw[j4 g,j8]at e
     by_cases f:y=z
     .rw[j4 ∅,j8];omega
     .rw[j4 f,j8]at d;rw[j4 ∅,j8];omega
def lex_total:∀ a b:zB,HT.lexLt a b=false->HT.lexLt b a=false->a=b:=by
 intro a
 induction a with
 |nil =>
  intro b d c
  cases b with
  |nil=>rfl
  |cons _ _=>cases d
 |cons x g f =>
  intro b d c
  cases b with
  |nil=>cases c
  |cons y h =>
   rw[HT.lexLt_cons]at d c
   by_cases e:x=y
   .rw[q4 e]at d;rw[q4 e.symm]at c;rw[e,f _ d c]
   .rw[j4 e,p4]at d;rw[j4 (bw e),p4]at c;omega
def lex_neg (a b c:zB)(h:HT.lexLt a c=true):HT.lexLt a b=true\/HT.lexLt b c=true:=by
 cases e:HT.lexLt a b with
 |true=>exact .inl rfl
 |false =>
  refine .inr ?_
  cases d:HT.lexLt b a with
  |true=>exact lex_trans _ _ _ d h
  |false=>rw[<-lex_total _ _ e d];exact h
def TT (h:Heap) (v:Value) (t:zB):Prop:=∃ a o n b,v=.ref a/\h.get? a≈o/\o.cls=.type "tuple"/\o.data=.seq b.toArray n/\IntsAre b t/\t≠[]
def zg5:∀ {c:zz} {ns a:zB},IntsAre c ns->IntsAre c a->ns=a:=by
 intro c ns a h
 induction h generalizing a with
 |nil=>intro b;cases b;rfl
 |cons n t h e=>intro b;cases b with|cons f g d=>rw[e d]
def TT.uniq {t:zB}(x:TT h v s)(y:TT h v t):s=t:=by
 obtain⟨a,o,n,d,rfl,q,_,l,i,_⟩:=x
 obtain⟨b,p,m,c,e,g,_,f,j,_⟩:=y
 cases e
 rw[q]at g
 cases g
 rw[l]at f
 have k:d.toArray=c.toArray:=by injection f
 cases List.toArray_inj k
 exact zg5 i j
def TT.keep {h d:Heap}{t:zB}(x:TT h v t)(k:∀ b o,h.get? b≈o->d.get? b≈o):TT d v t:=by
 obtain⟨a,o,n,c,e,f,r⟩:=x
 exact⟨a,o,n,c,e,k _ _ f,r⟩
def TT.keepT {h f:Heap} {t:zB} (x:TT h v t) (k:∀ b o,o.cls=.type "tuple"->h.get? b≈o->f.get? b≈o):TT f v t:=by
 obtain⟨a,o,n,d,e,g,c,r⟩:=x
 exact⟨a,o,n,d,e,k _ _ c g,c,r⟩
open Classical in
noncomputable def keyTT (h:Heap)(v:Value):Option zB:=if x:∃ t,TT h v t then some x.choose else none
def keyTT_of {t:zB}(x:TT h v t):keyTT h v≈t:=by
 unfold keyTT
 have y:∃ t,TT h v t:=⟨t,x⟩
 rw[dif_pos y,y.choose_spec.uniq x]
@[reducible] noncomputable def zek (h:Heap):KeyKind where
 α:=zB
 blt:=HT.lexLt
 irrefl:=lex_irr
 trans:=lex_trans
 negTrans:=lex_neg
 total:=lex_total
 keyOf:=keyTT h
 dflt:=[]
section
variable {prog:zM}{w:World}{A:zN}{E:yI}{s:zn}
def jY (d:Bool):zB->zB->Bool
 |x::xs,y::ys=>if x=y then jY d xs ys else decide (x<y)
 |_,_=>d
def zn2:∀ a b:zB,jY (decide (a.length<b.length)) a b=HT.lexLt a b:=by
 intro a
 induction a with
 |nil=>intro b;cases b with
  |nil=>rfl
  |cons _ _=>rfl
 |cons x d e=>intro b;cases b with
  |nil=>rfl
  |cons y c =>
   rw[HT.lexLt_cons,<- e c]
   show(if x=y then jY (decide (d.length+1<c.length+1)) d c else decide (x<y))=_
   rw[show decide (d.length+1<c.length+1)=decide (d.length<c.length) by congr 1;apply propext;omega]
def MK (x:(Value × Value) × Nat)(_:Option Bool × Unit):Sem (ForInStep (Option Bool × Unit)):=do
 let b<-eqBool x.1.1 x.1.2
 if (!b) then do
  let c<-oneLt' (true&&x.2 == 0) x.1.1 x.1.2
  pure (ForInStep.done (some c,()))
 else pure (ForInStep.yield (none,()))
def zjn {d:Bool}:∀ {f:zz} {ns:zB} {e:zz} {a:zB} {k:Nat} {Q:Option Bool × Unit->Shared->Prop},IntsAre f ns->IntsAre e a->(∀ r:Option Bool × Unit,r.1.getD d=jY d ns a->Q r s) ->
 wpAny (model prog w) A (forIn ((f.zip e).zipIdx k) ((none,()):Option Bool × Unit) MK) Q E s:=by
 intro f ns e a k Q g
 induction g generalizing e a k with
 |nil=>intro b q;exact t5 (q (none,()) rfl)
 |cons x t g i =>
  intro b q
  cases b with
  |nil=>exact t5 (q (none,()) rfl)
  |cons y u b =>
   rw[G5,G8,pW]
   refine u5 (u5 (GQ x t y u prog w E _ ?_))
   by_cases c:x=y
   .rw[show(x == y)=true by rw[c];exact mD _]
    refine t5 (i b λr j=>q r (j.trans ?_))
    show _=(if x=y then jY d _ _ else decide (x<y))
    rw[q4 c]
   .rw[show(x == y)=false by simpa using c]
    have h:Q (some (decide (x<y)),()) s:=q _ (by
     show decide (x<y)=(if x=y then jY d _ _ else decide (x<y))
     rw[j4 c])
    cases k with
    |zero=>exact u5 (oneLt_int (t5 (t5 h)))
    |succ k=>exact u5 (lt0 (t5 (t5 h)))
def znz {Q:Bool->Shared->Prop}(k:TT s.heap x a)(j:TT s.heap y b)(h:Q (HT.lexLt a b) s):wpAny (model prog w) A (keyLt' (tuples' true) x y) Q E s:=by
 obtain⟨p,o,n,c,rfl,t,_,m,g,_⟩:=k
 obtain⟨q,F,D,f,rfl,z,_,l,i,_⟩:=j
 rw[zhF]
 refine u5 (listItems_at t m (u5 (listItems_at z l ?_)))
 show wpAny _ _ (forIn ((c.zip f).zipIdx 0) ((none,()):Option Bool × Unit) MK>>=_) _ _ _
 refine u5 (zjn (d:=decide (c.length<f.length)) g i λr B=>?_)
 have e:Q (r.1.getD (decide (c.length<f.length))) s:=by
  rw[B,g.length,i.length,zn2];exact h
 obtain⟨C,u⟩:=r
 cases C with
 |none=>exact t5 e
 |some v=>exact t5 e
def zko {d:zz}(k:∀ v∈d,∃ t,TT s.heap v t):OwnTim.LtE prog w A E s (zek s.heap) (tuples' true) (·∈(pairsOf d).toList):=by
 intro o x y Q l i g h
 have c:∀ {x:Keyed},x∈(pairsOf d).toList->∃ t,TT s.heap x.1 t/\OwnTim.ky (zek s.heap) x=t:=λ{x} hm=>by
  rw[pairsOf_toList]at hm
  obtain⟨t,e⟩:=k _ (mem_zip_self hm).2
  refine⟨t,e,?_⟩
  unfold OwnTim.ky
  show(keyTT s.heap x.1).getD _=t
  rw[keyTT_of e]
  rfl
 obtain⟨a,m,j⟩:=c i
 obtain⟨b,n,f⟩:=c g
 rw[j,f]at h
 rw[lt'_eq]
 refine l7 (wpS_get ?_)
 rw[l]
 exact l7 (wpS_lift (ie (znz m n ⟨rfl,bR h⟩)))
def V8:∀ {e:zz} {Q:List (Option Value)->Shared->Prop},(∀ v∈e,∃ t,TT s.heap v t)->(∀ c:zz,c.length=e.length->(∀ f∈c,∃ i t,f=.int i t)->Q (c.map some) s)->wpAny (model prog w) A (e.mapM firstOfTuple') Q E s
 |[],Q,_,h=>by rw[List.mapM_nil];exact t5 (h [] rfl (by simp))
 |v::e,Q,hT,h=>by
  obtain⟨t,a,o,n,j,rfl,l,x,q,m,k⟩:=hT v o7
  obtain⟨z,zs,g,d,rfl,rfl⟩:∃ z zs g d,j=z::zs/\z=.int g d:=by
   cases m with
   |nil=>exact absurd rfl k
   |cons g d m=>exact⟨_,_,_,_,rfl,rfl⟩
  rw[List.mapM_cons,zhN]
  refine u5 (u5 (lR (T:="tuple") ⟨o,l,x⟩ ?_))
  rw[j4 (by simp)]
  refine u5 (listItems_at l q (t5 (u5 (V8 (λu p=>hT u (r0 _ p)) λc y r=>t5 ?_))))
  exact h (.int g d::c) (by simp[y]) λf b=>by
   rcases q5.mp b with rfl|b
   .exact⟨_,_,rfl⟩
   .exact r f b
def zhw {Q:SortKind->Shared->Prop}(i:∀ v∈a::c,∃ t,TT s.heap v t)(h:Q (tuples' true) s):wpAny (model prog w) A (keyKind' (a::c).toArray) Q E s:=by
 rw[keyKind'_eq,List.mapM_toArray,<- bind_pure_comp,bind_assoc]
 refine u5 (V8 i λb e d=>u5 (t5 ?_))
 cases b with
 |nil=>simp at e
 |cons f b =>
  rw[q4 (by simp)]
  have j:((f::b).map some).toArray.filterMap id=(f::b).toArray:=by simp
  refine u5 (iH ?_)
  rw[j,oneTypeOnly'_eq,List.mapM_toArray,Pk d]
  simp only[map_pure,pure_bind]
  rw[show(List.map (λ_=>Value.type "int") (f::b)).toArray[0]?≈(Value.type "int") by simp]
  have g:((List.map (λ_=>Value.type "int") (f::b)).toArray.all λx=>x == Value.type "int")=true:=by
   simp only[List.all_toArray,lU,o5]
   intro _ _
   rfl
  simp only[g,dW,pure_bind,Option.any_some]
  rw[show(Value.type "int" != Value.type "tuple")=true by decide +kernel]
  exact t5 h
end
def Rise (h:Heap)(c:zz):Prop:=∃ d:Z2,c.length=d.length/\(∀ (i:Nat) (v:Value) (t:zB),c[i]?≈v->d[i]?≈t->TT h v t)/\d.Pairwise λa b=>HT.lexLt b a=false
def Ac {xs:Array Keyed}(u:∀ v∈a,∃ t,TT h v t)(w:∀ v t,TT h v t->TT b v t)(l:xs.Perm (pairsOf a))(n:SortedToK (zek b) xs (pairsOf a).size):(xs.map (·.2)).toList.Perm a/\Rise h (xs.map (·.2)).toList:=by
 have m:xs.toList.Perm (a.zip a):=by rw[<-pairsOf_toList];exact QW.mp l
 have o:∀ p∈xs.toList,p.1=p.2/\p.1∈a:=λp r=>mem_zip_self (m.mem_iff.mp r)
 have y:(xs.map (·.2)).toList=xs.toList.map (·.2):=by simp
 rw[y]
 refine⟨?_,xs.toList.map λp=>(keyTT b p.1).getD ([]:zB),by simp,λi v t e c=>?_,?_⟩
 .have:=m.map (·.2)
  rwa[show(a.zip a).map (·.2)=a from List.map_snd_zip (t7 _)]at this
 .rw[k8]at e c
  cases f:xs.toList[i]? with
  |none=>rw[f]at e;cases e
  |some p =>
   rw[f]at e c
   cases e
   cases c
   obtain⟨z,x⟩:=o p (o0 f)
   obtain⟨t,c⟩:=u _ x
   show TT h p.2 ((keyTT b p.1).getD ([]:zB))
   rw[keyTT_of (w _ _ c),<- z]
   exact c
 .rw[List.pairwise_iff_getElem]
  intro i j s q g
  have k:i<xs.size:=by simpa using s
  have d:j<xs.size:=by simpa using q
  have:=n i j (p6 g) (by rw[<-l.size_eq];exact d)
  unfold KK at this
  rw[getElem?_pos xs i k,getElem?_pos xs j d]at this
  have this:HT.lexLt ((keyTT b xs[j].1).getD ([]:zB)) ((keyTT b xs[i].1).getD ([]:zB))=false:=this
  simpa using this
section
variable {prog:zM}{w:World}{A:zN}{E:yI}{s:zn}
def ownT_list_sort {d:zz} {P:Fin->Shared->Prop} (p:s.heap.get? a≈(seqObj "list" d.toArray n)) (D:∀ v∈d,∃ t,TT s.heap v t) (F:d.length<64) (h:∀ g:wb,g.toList.Perm d->Rise s.heap g.toList->P (.done (.ret .none)) { s with heap:=sortedHeap s.heap a d g }):wpAny (model prog w) A (Builtin.«list.sort» ⟨[.ref a],[]⟩) P E s:=by
 have M:a<s.heap.objs.size:=q7 p
 have N:d.toArray.size=d.length:=t9
 obtain⟨k,G⟩:∃ k,(s.heap.update a (Obj.mapSeq λ_=>#[])).get? a≈(seqObj "list" #[] k):=⟨_,get?_update_seq p (λ_=>#[])⟩
 have u:(((s.heap.update a (Obj.mapSeq λ_=>#[])).push (seqObj "tuple" d.toArray 0)).push (seqObj "list" #[] 0)).get? a≈(seqObj "list" #[] k):=u6 _ (u6 _ G)
 have H:∀ b o,o.cls=.type "tuple"->s.heap.get? b≈o->(((s.heap.update a (Obj.mapSeq λ_=>#[])).push (seqObj "tuple" d.toArray 0)).push (seqObj "list" #[] 0)).get? b≈o:=λb o c e=>by
  refine u6 _ (u6 _ ((i7 _ _ λz=>?_).trans e))
  subst z
  rw[p]at e
  cases e
  exact absurd (show Value.type "list"=Value.type "tuple" from c) (by decide +kernel)
 have m:∀ v∈d,∃ t,TT (((s.heap.update a (Obj.mapSeq λ_=>#[])).push (seqObj "tuple" d.toArray 0)).push (seqObj "list" #[] 0)) v t:=λv J=>let ⟨t,q⟩:=D v J;⟨t,q.keepT H⟩
 rw[list_sort_plain]
 refine u5 (listItems_at p rfl (u5 (listUpdate_at p rfl (u5 (seqEpoch_at G rfl (u5 (wpAny_newTuple (u5 (wpAny_newList (o9 ?_))))))))))
 show wpAny (model prog w) A _ P E { s with heap:=((s.heap.update a (Obj.mapSeq λ_=>#[])).push (seqObj "tuple" d.toArray 0)).push (seqObj "list" #[] 0) }
 by_cases l:d.toArray.size<2
 .rw[q4 l,q4 l]
  refine u5 (t5 ?_)
  dsimp only
  rw[StateT.run_pure]
  refine u5 (t5 ?_)
  obtain⟨B,C⟩:=Ac (xs:=pairsOf d) D (λv t q=>q) (Array.Perm.refl _) (λi j I K=>by
   obtain rfl:i=j:=by rw[pF]at K;omega
   exact iU _)
  refine u5 (seqEpoch_at u rfl (u5 (listUpdate_at u rfl ?_ (hsz2:=by rw[Array.size_map];show(pairsOf d).size<=_;rw[pF,fC];omega))))
  rw[show(k != k)=false by simp]
  exact t5 (h _ B C)
 .rw[j4 l,j4 l]
  cases d with
  |nil=>simp at l
  |cons f rest =>
   refine u5 (zhw m ?_)
   refine u5 (p0 (OwnTim.own_runsE (st:=SortSt.mk' (tuples' true) ((f::rest).toArray.zip (f::rest).toArray) #[] 7 none) (Q:=λ_ t=>(arrOf t).Perm (pairsOf (f::rest))/\failedOf t=none/\SortedToK (zek _) (arrOf t) (pairsOf (f::rest)).size)
    (zko m) (Array.Perm.refl _) rfl rfl rfl (λt r x y=>⟨r,x,y⟩) (by rw[pF];rw[t9]at l;omega) (by rw[pF];exact F)) ?_ λ_ _ e=>e)
   rintro⟨⟨⟩,t⟩ L ⟨rfl,r,x,y⟩
   obtain⟨B,C⟩:=Ac D (λv t q=>q.keepT H) r y
   refine u5 (seqEpoch_at u rfl (u5 (listUpdate_at u rfl ?_ (hsz2:=by rw[Array.size_map];show(arrOf t).size<=_;rw[r.size_eq,pF,fC];omega))))
   rw[x,show(k != k)=false by simp]
   exact t5 (h _ B C)
def ownT_sorted {a:zz} {Q:yI} (B:s.heap.IsList l a.toArray) (p:∀ v∈a,∃ t,TT s.heap v t) (g:a.length<64) (h:∀ c:wb,c.toList.Perm a->Rise s.heap c.toList->Q (.ref (s.heap.objs.size+1)) { s with heap:=sortedAll s.heap a c }):wpAny (model prog w) A (call (.builtin "sorted") [.ref l]) Q E s:=by
 have q:((s.heap.push (seqObj "list" #[] 0)).update s.heap.objs.size (Obj.mapSeq (·++a.toArray))).objs.size=s.heap.objs.size+1:=(Heap.size_update ..).trans (size_push' _ _)
 have n:(((s.heap.push (seqObj "list" #[] 0)).update s.heap.objs.size (Obj.mapSeq (·++a.toArray))).push (seqObj "list" a.toArray 0)).get? (s.heap.objs.size+1)≈(seqObj "list" a.toArray 0):=q ▸ j5 _ rfl
 have r:∀ b o,s.heap.get? b≈o->(((s.heap.push (seqObj "list" #[] 0)).update s.heap.objs.size (Obj.mapSeq (·++a.toArray))).push (seqObj "list" a.toArray 0)).get? b≈o:=λb o e =>
  u6 _ ((i7 _ _ λz=>by subst z;exact absurd (q7 e) (dY _)).trans (u6 _ e))
 refine Calls.call_function_entry kind_sorted plain_sorted entry_sorted (args_sorted1 _) ?_
 unfold Builtin.«sorted»
 refine u5 (m:=checkCount "sorted" 1 1 _) (t5 (u5 (collect_list B (u5 (wpAny_newList ?_)))))
 show wpAny _ _ _ _ _ (Shared.mk (((s.heap.push (seqObj "list" #[] 0)).update s.heap.objs.size (Obj.mapSeq (·++a.toArray))).push (seqObj "list" a.toArray 0)) s.gens s.drawn s.toks s.os)
 rw[q]
 refine u5 (o9 (l9 slot_list_sort ⟨_,n,rfl⟩ entry_list_sort (ownT_list_sort n (λv f=>let ⟨t,j⟩:=p v f;⟨t,j.keep r⟩) g λc k u=>⟨_,rfl,t5 ⟨_,rfl,h c k ?_⟩⟩) (args_list_sort _)))
 obtain⟨y,D,C,x⟩:=u
 refine⟨y,D,λi v t f j=>?_,x⟩
 obtain⟨F,d⟩:=p v (k.mem_iff.mp (o0 f))
 rw[(C i v t f j).uniq (d.keep r)]
 exact d
end
end OwnSortT
namespace OwnSort
open PySem PyProof.Rows
def Rise (h:Heap)(c:zz):Prop:=∃ d:List Pr,c.length=d.length/\(∀ (i:Nat) (v:Value) (t:Pr),c[i]?≈v->d[i]?≈t->TP h v t)/\d.Pairwise λa b=>bltP b a=false
def TP.tt {t:Pr}(x:TP h v t):OwnSortT.TT h v [t.1,t.2]:=by
 obtain⟨a,o,n,b,ty,c,d,e,f⟩:=x
 exact⟨a,o,n,[.int t.1 b,.int t.2 ty],c,d,e,f,.cons _ _ (.cons _ _ .nil),Bh _ _⟩
def zjY (a b:Pr):HT.lexLt [a.1,a.2] [b.1,b.2]=bltP a b:=by
 rw[HT.lexLt_cons,HT.lexLt_cons]
 unfold bltP
 by_cases c:a.1=b.1
 .rw[q4 c]
  by_cases d:a.2=b.2
  .rw[q4 d,t6 ∅];rfl
  .rw[j4 d,G6];omega
 .rw[j4 c,G6];omega
def ziw {k c:zz}(w:∀ v∈k,∃ t,TP h v t)(m:c.Perm k)(r:OwnSortT.Rise h c):Rise h c:=by
 obtain⟨f,n,x,o⟩:=r
 have key:∀ (i:Nat) (v:Value) (t:zB),c[i]?≈v->f[i]?≈t->∃ p:Pr,TP h v p/\t=[p.1,p.2]:=λi v t d j=>by
  obtain⟨p,g⟩:=w v (m.mem_iff.mp (o0 d))
  exact⟨p,g,OwnSortT.TT.uniq (x i v t d j) g.tt⟩
 have ex:∀ t∈f,∃ p:Pr,t=[p.1,p.2]:=λt y=>by
  obtain⟨i,s,rfl⟩:=iK y
  obtain⟨p,_,e⟩:=key i c[i] f[i] (o6 ∅) (o6 s)
  exact⟨p,e⟩
 refine⟨f.map λt=>(t.getD 0 0,t.getD 1 0),by rw[u8,n],λi v t d j=>?_,?_⟩
 .rw[k8]at j
  obtain⟨u,l,rfl⟩:=t4.mp j
  obtain⟨p,g,rfl⟩:=key i v u d l
  exact g
 .rw[List.pairwise_map]
  refine o.imp_of_mem λ{a b} ha hb hab=>?_
  obtain⟨p,rfl⟩:=ex a ha
  obtain⟨q,rfl⟩:=ex b hb
  rw[zjY]at hab
  exact hab
section
variable {prog:zM}{w:World}{A:zN}{E:yI}{s:zn}
def own_sorted {b:zz} {Q:yI} (e:s.heap.IsList l b.toArray) (c:∀ v∈b,∃ t,TP s.heap v t) (f:b.length<64) (h:∀ a:wb,a.toList.Perm b->Rise s.heap a.toList->Q (.ref (s.heap.objs.size+1)) { s with heap:=sortedAll s.heap b a }):wpAny (model prog w) A (call (.builtin "sorted") [.ref l]) Q E s :=
 OwnSortT.ownT_sorted e (λv d=>(c v d).imp' (λt=>[t.1,t.2]) λ_ g=>g.tt) ∅ λa p r=>h a p (ziw c p r)
end
end OwnSort
namespace Dl
open PySem L2
class KK where
 K:W.Frag
 dk:Addr
inductive D where
 |non|bl (b:Bool)|int (i:Int)|str (x:Str)|tup (ds:List D)|lst (ds:List D)|scr (ns:zB)
  |dct (z t:Bool) (ks:List (List aD)) (vs:List D)
  |obj (w h:D) (ps:List D)
 deriving Inhabited
abbrev fQ:=List D->Option (List D)
abbrev wI:=List D->Option D
abbrev fU:=List D->Option Nat
abbrev xL:=D->D->Option D
abbrev iD:=D->Option (List (Option D))
abbrev zk:=List D
def X7 (a b:V) (q:Addr):List (Str × V):=[("web",a),("heap",b),("past",.ref q)]
section
variable [KK]
def cR (o:HO)(t:Bool)(c:List (List aD))(b:zy):Prop :=
 if t then ∃ a,o=.dT a/\a.map (·.1)=c/\a.map (·.2)=b else ∃ a:List (aD × V),o=.dK a/\a.map (λp=>[p.1])=c/\a.map (·.2)=b
def gD (H:Hp)(a:Addr)(z t:Bool)(c:List (List aD))(b:zy):Prop :=
 ∃ u,cR u t c b/\if z then ∃ d,H a≈(.frz d u)else H a≈u
def gD.mono {t:Bool}{d:List (List aD)}(s:zS H H')(h:gD H a z t d c):gD H' a z t d c:=by
 obtain⟨u,f,b⟩:=h
 refine⟨u,f,?_⟩
 cases z with
 |true =>
  rw[q4 rfl]at b ⊢
  obtain⟨e,b⟩:=b
  exact⟨e,s _ _ b⟩
 |false =>
  rw[j4 u7]at b ⊢
  exact s _ _ b
def gD.rd {t:Bool}{d:List (List aD)}(h:gD H a z t d c):∃ u,cR u t d c/\Rd H a u:=by
 obtain⟨u,f,b⟩:=h
 refine⟨u,f,?_⟩
 cases z with
 |true =>
  rw[q4 rfl]at b
  obtain⟨e,b⟩:=b
  exact .inr ⟨e,b⟩
 |false =>
  rw[j4 u7]at b
  exact .inl b
mutual
def At (H:Hp):D->V->Prop
 |.non,v=>v=.non
 |.bl b,v=>v=.bl b
 |.int i,v=>v=.int i
 |.str x,v=>v=.str x
 |.tup ds,v=>∃ a c,v=.ref a/\H a≈(.tup c)/\aq H ds c
 |.lst ds,v=>∃ a c,v=.ref a/\H a≈(.lst c)/\aq H ds c
 |.scr ns,v=>∃ a,v=.ref a/\aK KK.K H a (ns.map V.int)
 |.dct z t ks vs,v=>∃ a c,v=.ref a/\gD H a z t ks c/\aq H vs c
 |.obj w h ps,v=>∃ p f q e d c,v=.ref p/\H p≈(.ins KK.dk f (X7 e d q))/\H q≈(.lst c)/\At H w e/\At H h d/\aq H ps c
def aq (H:Hp):zk->zy->Prop
 |[],xs=>xs=[]
 |d::ds,xs=>∃ x r,xs=x::r/\At H d x/\aq H ds r
end
mutual
def At.mono (s:zS H H'):∀ {d:D} {v:V},At H d v->At H' d v
 |.non,_,h=>by unfold At at h ⊢;exact h
 |.bl _,_,h=>by unfold At at h ⊢;exact h
 |.int _,_,h=>by unfold At at h ⊢;exact h
 |.str _,_,h=>by unfold At at h ⊢;exact h
 |.tup ds,_,h=>by
  unfold At at h ⊢
  obtain⟨a,c,e,b,f⟩:=h
  exact⟨a,c,e,s _ _ b,aq.mono s f⟩
 |.lst ds,_,h=>by
  unfold At at h ⊢
  obtain⟨a,c,e,b,f⟩:=h
  exact⟨a,c,e,s _ _ b,aq.mono s f⟩
 |.scr ns,_,h=>by
  unfold At at h ⊢
  obtain⟨a,e,b⟩:=h
  exact⟨a,e,s.seq b⟩
 |.dct z t ks vs,_,h=>by
  unfold At at h ⊢
  obtain⟨a,c,e,b,f⟩:=h
  exact⟨a,c,e,b.mono s,aq.mono s f⟩
 |.obj w d ps,_,h=>by
  unfold At at h ⊢
  obtain⟨p,i,q,j,g,c,e,b,k,l,m,f⟩:=h
  exact⟨p,i,q,j,g,c,e,s _ _ b,s _ _ k,At.mono s l,At.mono s m,aq.mono s f⟩
def aq.mono (s:zS H H'):∀ {a:zk} {b:zy},aq H a b->aq H' a b
 |[],_,h=>by unfold aq at h ⊢;exact h
 |d::a,_,h=>by
  unfold aq at h ⊢
  obtain⟨x,r,e,f,c⟩:=h
  exact⟨x,r,e,At.mono s f,aq.mono s c⟩
end
mutual
def bx:D->Bool
 |.tup ds=>dI ds
 |.lst _=>false
 |.scr _=>false
 |.dct _ _ _ _=>false
 |.obj _ _ _=>false
 |_=>true
def dI:zk->Bool
 |[]=>true
 |d::ds=>bx d&&dI ds
end
mutual
def At.flat {G F:Hp}(h:∀ q b,G q≈(.tup b)->F q≈(.tup b)):∀ {d:D} {v:V},bx d=true->At G d v->At F d v
 |.non,_,_,a=>by unfold At at a ⊢;exact a
 |.bl _,_,_,a=>by unfold At at a ⊢;exact a
 |.int _,_,_,a=>by unfold At at a ⊢;exact a
 |.str _,_,_,a=>by unfold At at a ⊢;exact a
 |.tup ds,_,n,a=>by
  unfold At at a ⊢
  unfold bx at n
  obtain⟨p,b,e,c,f⟩:=a
  exact⟨p,b,e,h _ _ c,aq.flat h n f⟩
 |.lst ds,_,n,_=>by unfold bx at n;cases n
 |.scr ds,_,n,_=>by unfold bx at n;cases n
 |.dct _ _ _ _,_,n,_=>by unfold bx at n;cases n
 |.obj _ _ _,_,n,_=>by unfold bx at n;cases n
def aq.flat {G F:Hp}(h:∀ q b,G q≈(.tup b)->F q≈(.tup b)):∀ {c:zk} {b:zy},dI c=true->aq G c b->aq F c b
 |[],_,_,a=>by unfold aq at a ⊢;exact a
 |d::c,_,n,a=>by
  unfold aq at a ⊢
  unfold dI at n
  rw[j7]at n
  obtain⟨x,r,e,g,f⟩:=a
  exact⟨x,r,e,At.flat h n.1 g,aq.flat h n.2 f⟩
end
section
variable {H H':Hp}{d:D}{ds es:zk}{v x:V}{xs ys:zy}
def At.int:At H (.int i) (.int i):=by unfold At;rfl
def At.bl:At H (.bl b) (.bl b):=by unfold At;rfl
def At.non:At H .non .non:=by unfold At;rfl
def At.str:At H (.str y) (.str y):=by unfold At;rfl
def At.tup {a:Addr}(h:H a≈(.tup xs))(b:aq H ds xs):At H (.tup ds) (.ref a):=by unfold At;exact⟨a,xs,rfl,h,b⟩
def At.lst {a:Addr}(h:H a≈(.lst xs))(b:aq H ds xs):At H (.lst ds) (.ref a):=by unfold At;exact⟨a,xs,rfl,h,b⟩
def aq.nil:aq H [] []:=by unfold aq;rfl
def aq.cons (h:At H d x)(a:aq H ds xs):aq H (d::ds) (x::xs):=by unfold aq;exact⟨x,xs,rfl,h,a⟩
def At.int_inv (h:At H (.int i) v):v=.int i:=by unfold At at h;exact h
def At.bl_inv (h:At H (.bl b) v):v=.bl b:=by unfold At at h;exact h
def At.non_inv (h:At H .non v):v=.non:=by unfold At at h;exact h
def At.str_inv (h:At H (.str y) v):v=.str y:=by unfold At at h;exact h
def At.tup_inv (h:At H (.tup ds) v):∃ a xs,v=.ref a/\H a≈(.tup xs)/\aq H ds xs:=by unfold At at h;exact h
def At.lst_inv (h:At H (.lst ds) v):∃ a xs,v=.ref a/\H a≈(.lst xs)/\aq H ds xs:=by unfold At at h;exact h
def At.scr_inv {ns:zB}(h:At H (.scr ns) v):∃ a,v=.ref a/\aK KK.K H a (ns.map V.int):=by unfold At at h;exact h
def At.dct_inv {t:Bool}(h:At H (.dct z t b c) v):∃ a xs,v=.ref a/\gD H a z t b xs/\aq H c xs:=by unfold At at h;exact h
def At.obj_inv {w d:D}(h:At H (.obj w d b) v):∃ p e q c a xs,v=.ref p/\H p≈(.ins KK.dk e (X7 c a q))/\H q≈(.lst xs)/\At H w c/\At H d a/\aq H b xs:=by unfold At at h;exact h
def aq.nil_inv (h:aq H [] xs):xs=[]:=by unfold aq at h;exact h
def aq.cons_inv (h:aq H (d::ds) xs):∃ x r,xs=x::r/\At H d x/\aq H ds r:=by unfold aq at h;exact h
def aq.length:∀ {ds:zk} {xs:zy},aq H ds xs->xs.length=ds.length
 |[],_,h=>by rw[h.nil_inv];rfl
 |_::_,_,h=>by
  obtain⟨x,r,rfl,_,a⟩:=h.cons_inv
  rw[r4,r4,aq.length a]
def aq.get:∀ {ds:zk} {xs:zy} {i:Nat} {d:D},aq H ds xs->ds[i]?≈d->∃ x,xs[i]?≈x/\At H d x
 |[],_,_,_,_,e=>by simp at e
 |_::_,_,i,_,h,e=>by
  obtain⟨x,r,rfl,f,a⟩:=h.cons_inv
  cases i with
  |zero =>
   simp at e
   subst e
   exact⟨x,rfl,f⟩
  |succ i =>
   obtain⟨y,c,b⟩:=aq.get (i:=i) a (by simpa using e)
   exact⟨y,by simpa using c,b⟩
def aq.append:∀ {ds es:zk} {xs ys:zy},aq H ds xs->aq H es ys->aq H (ds++es) (xs++ys)
 |[],_,_,_,h,k=>by rw[h.nil_inv];exact k
 |_::_,_,_,_,h,k=>by
  obtain⟨x,r,rfl,b,a⟩:=h.cons_inv
  exact .cons b (aq.append a k)
def aq.snoc (h:aq H ds xs)(k:At H d v):aq H (ds++[d]) (xs++[v]):=h.append (.cons k .nil)
def aq.take:∀ (n:Nat) {ds:zk} {xs:zy},aq H ds xs->aq H (ds.take n) (xs.take n)
 |0,_,_,_=>by simpa using aq.nil
 |n+1,[],_,h=>by rw[h.nil_inv];simpa using aq.nil
 |n+1,_::_,_,h=>by
  obtain⟨x,r,rfl,b,a⟩:=h.cons_inv
  rw[Gw,Gw]
  exact .cons b (aq.take n a)
def aq.drop:∀ (n:Nat) {ds:zk} {xs:zy},aq H ds xs->aq H (ds.drop n) (xs.drop n)
 |0,_,_,h=>h
 |n+1,[],_,h=>by rw[h.nil_inv];simpa using aq.nil
 |n+1,_::_,_,h=>by
  obtain⟨x,r,rfl,b,a⟩:=h.cons_inv
  rw[List.drop_succ_cons,List.drop_succ_cons]
  exact aq.drop n a
def aq.set:∀ (n:Nat) {ds:zk} {xs:zy},aq H ds xs->At H d v->aq H (ds.set n d) (xs.set n v)
 |_,[],_,h,_=>by rw[h.nil_inv];simpa using aq.nil
 |0,_::_,_,h,k=>by
  obtain⟨x,r,rfl,b,a⟩:=h.cons_inv
  exact .cons k a
 |n+1,_::_,_,h,k=>by
  obtain⟨x,r,rfl,b,a⟩:=h.cons_inv
  exact .cons b (aq.set n a k)
def aq.rep (h:aq H ds xs):∀ k:Nat,aq H (List.replicate k ds).flatten (List.replicate k xs).flatten
 |0=>.nil
 |k+1=>by
  rw[jG,jG,lZ,lZ]
  exact h.append (aq.rep h k)
def aq.ints (ns:zB):aq H (ns.map D.int) (ns.map V.int):=by
 induction ns with
 |nil=>exact .nil
 |cons n r a=>exact .cons .int a
def aq.of_ints:∀ {ns:zB} {xs:zy},aq H (ns.map D.int) xs->xs=ns.map V.int
 |[],_,h=>h.nil_inv
 |n::r,_,h=>by
  obtain⟨x,c,rfl,b,a⟩:=aq.cons_inv (by simpa using h)
  rw[b.int_inv,aq.of_ints a]
  rfl
end
def Q9:D->String
 | .non=>"NoneType" | .bl _=>"bool" | .int _=>"int" | .str _=>"str" | .tup _=>"tuple" | .lst _=>"list" | .scr _=>"list" | .dct _ _ _ _=>"dict" | .obj _ _ _=>"object"
def BX (F':Hp)(p:Addr)(o:HO):Prop:=F' p=none\/((∃ a,o=.tup a)/\F' p≈o)
def IW (F H F' H':Hp):Prop:=∀ p o,F p=none->H p≈o->BX F' p o/\H' p≈o
structure Gr (F H F' H':Hp):Prop where
 ff:zS F F'
 fh:zS F' H'
 kp:IW F H F' H'
def Gr.refl (s:zS F H):Gr F H F H:=⟨zS.refl _,s,λ_ _ a b=>⟨.inl a,b⟩⟩
def Gr.trans (a:Gr F H F1 H1)(b:Gr F1 H1 F2 H2):Gr F H F2 H2 :=
 ⟨a.ff.trans b.ff,b.fh,λp o d e=>by
  obtain⟨x,y⟩:=a.kp p o d e
  rcases x with x|⟨f,c⟩
  .exact b.kp p o x y
  .exact⟨.inr ⟨f,b.ff _ _ c⟩,b.fh _ _ (b.ff _ _ c)⟩⟩
def Gr.kl {F H F' H':Hp}{p:Addr}(g:Gr F H F' H')(n:∀ a,o≠.tup a)(b:F p=none)(c:H p≈o):F' p=none/\H' p≈o:=by
 obtain⟨x,y⟩:=g.kp p o b c
 rcases x with x|⟨⟨a,d⟩,_⟩
 .exact⟨x,y⟩
 .exact absurd d (n a)
def Gr.alloc {H:Hp}{p:Addr}(s:zS F H)(h:H p=none)(o:HO):Gr F H (aA F p o) (aA H p o):=by
 have a:F p=none:=s.free h
 refine⟨λb u q=>?_,λb u q=>?_,λb u q r=>?_⟩
 .rw[zj (zf q a)];exact q
 .by_cases e:b=p
  .subst e;rw[zl]at q ⊢;exact q
  .rw[zj e]at q ⊢;exact s b u q
 .have e:b≠p:=zf r h
  rw[zj e];exact⟨.inl (by rw[zj e];exact q),r⟩
def Gr.hide {H:Hp}{p:Addr}(s:zS F H)(h:H p=none)(o:HO):Gr F H F (aA H p o):=by
 refine⟨zS.refl _,λb u q=>?_,λb u q r=>?_⟩
 .rw[zj (zf (s b u q) h)];exact s b u q
 .have e:b≠p:=zf r h
  rw[zj e];exact⟨.inl q,r⟩
def Gr.show {F H:Hp}{p:Addr}{H0:Hp}(g:Gr F0 H0 F H)(h0:H0 p=none)(a:F p=none)(h:H p≈o):Gr F0 H0 (aA F p o) H:=by
 refine⟨λb u q=>?_,λb u q=>?_,λb u q r=>?_⟩
 .have:=g.ff b u q
  rw[zj (zf this a)];exact this
 .by_cases e:b=p
  .subst e;rw[zl]at q;rw[<-q];exact h
  .rw[zj e]at q;exact g.fh b u q
 .have e:b≠p:=zf r h0
  obtain⟨x,y⟩:=g.kp b u q r
  refine⟨?_,y⟩
  unfold BX
  rw[zj e]
  exact x
abbrev Ev:=List (Option D)
abbrev yE:=Ev->Option (List D)
abbrev vz:=Ev->Option Bool
abbrev cg:=Ev->Option Nat
abbrev zU:=Ev->Option D
def cJ (F:Hp)(b:Ev)(a:St):Prop:=∀ (i:Nat) (d:D),b[i]?≈(some d)->∃ v,a[i]?≈(some v)/\At F d v
def cJ.mono (h:cJ F c b)(s:zS F F'):cJ F' c b:=λi d e=>let ⟨v,e1,a⟩:=h i d e;⟨v,e1,a.mono s⟩
def RE (t:TE)(f:zU):Prop :=
 ∀ (a:St) (b:Ev) (F H:Hp) (d:D) (Q:VK),zS F H->cJ F b a->f b≈d->(∀ F' H' v,Gr F H F' H'->At F' d v->Q v H')->t a H Q
def RT (t:TT)(f:vz):Prop :=
 ∀ (a:St) (c:Ev) (F H:Hp) (b:Bool) (Q:Bool->Hp->Prop),zS F H->cJ F c a->f c≈b->(∀ F' H',Gr F H F' H'->Q b H')->t a H Q
def RA (t:TA)(f:yE):Prop :=
 ∀ (c:St) (d:Ev) (F H:Hp) (a:zk) (Q:zy->Hp->Prop),zS F H->cJ F d c->f d≈a->(∀ F' H' b,Gr F H F' H'->aq F' a b->Q b H')->t c H Q
def RF (t:TE)(f:yE):Prop :=
 ∀ (c:St) (d:Ev) (F H:Hp) (b:zk) (Q:VK),zS F H->cJ F d c->f d≈b->(∀ F' H' p a,Gr F H F' H'->H p=none->F' p=none->H' p≈(.lst a)->aq F' b a->Q (.ref p) H')->t c H Q
def ED (X:Cx)(e:Expr)(f:zU):Prop:=∃ t,PE X e t/\RE t f
def TD (X:Cx)(e:Expr)(f:vz):Prop:=∃ t,PT X e t/\RT t f
def WD (X:Cx)(e:Expr)(f:vz):Prop:=∃ t,PW X e t/\RT t f
def AD (X:Cx)(a:yO)(f:yE):Prop:=∃ t,PA X a t/\RA t f
def FL (X:Cx)(e:Expr)(f:yE):Prop:=∃ t,PE X e t/\RF t f
section
variable {X:Cx}{a b c:Expr}{pos:Pos}
def yc (f:yE):zU:=λa=>(f a).map .lst
def vB {f:yE}(h:FL X a f):ED X a (yc f):=by
 obtain⟨t,k,r⟩:=h
 refine⟨t,k,λn v F H d Q s j e q=>?_⟩
 obtain⟨m,o,rfl⟩:=t4.mp e
 refine r n v F H m Q s j o λF' H' p x g h0 c w l=>?_
 have i:=g.show h0 c w
 exact q _ _ _ i (At.lst zl (l.mono (λb u e=>by rw[zj (zf e c)];exact e)))
def zc (i:Nat):zU:=fun ρ=>(ρ[i]?).getD none
def zp0 (i:Nat)(h:PE X a (Zh i)):ED X a (zc i):=by
 refine⟨_,h,λk b F H d Q s j e q=>?_⟩
 have g:b[i]?≈(some d):=by
  unfold zc at e
  cases h:b[i]? with
  |none=>rw[h]at e;cases e
  |some x=>rw[h]at e;cases x with
   |none=>cases e
   |some y=>cases e;rfl
 obtain⟨v,f,c⟩:=j i d g
 exact⟨v,f,q _ _ _ (.refl s) c⟩
def eC (d:D):zU:=λ_=>some d
def zw (h:PE X a (tC (.int i))):ED X a (eC (.int i)):=⟨_,h,λ_ _ _ _ _ _ s _ e q=>by cases e;exact q _ _ _ (.refl s) .int⟩
def tu (h:PE X a (tC (.bl i))):ED X a (eC (.bl i)):=⟨_,h,λ_ _ _ _ _ _ s _ e q=>by cases e;exact q _ _ _ (.refl s) .bl⟩
def zR (h:PE X a (tC (.str i))):ED X a (eC (.str i)):=⟨_,h,λ_ _ _ _ _ _ s _ e q=>by cases e;exact q _ _ _ (.refl s) .str⟩
def VS (h:PE X a (tC .non)):ED X a (eC .non):=⟨_,h,λ_ _ _ _ _ _ s _ e q=>by cases e;exact q _ _ _ (.refl s) .non⟩
def bh (r:R2)(g:xL):Prop :=
 ∀ (F H:Hp) (x y:V) (d e z:D) (Q:VK),zS F H->At F d x->At F e y->g d e≈z->(∀ F' H' v,Gr F H F' H'->At F' z v->Q v H')->r x y H Q
def ze (g:xL)(f h:zU):zU:=fun ρ=>(f ρ).bind λx=>(h ρ).bind λy=>g x y
def nY {g:xL}{c:TE}{f:zU}(l:bh r g)(o:RE c f)(p:RE j h):RE (iW r c j) (ze g f h):=by
 intro i k F H z Q s d e q
 obtain⟨x,B,e⟩:=u4.mp e
 obtain⟨y,m,e⟩:=u4.mp e
 refine o i k F H x _ s d B λF1 H1 v b t=>?_
 refine p i k F1 H1 y _ b.fh (d.mono b.ff) m λF2 H2 u a C=>?_
 exact l F2 H2 v u x y z Q a.fh (t.mono a.ff) C e λF3 H3 w A n=>q F3 H3 w ((b.trans a).trans A) n
def VW {c:Operator}{g:xL}{f:zU}(j:aP X (binaryOp c) r)(e:bh r g)(d:ED X a f)(i:ED X b h):ED X (.BinOp a c b pos) (ze g f h) :=
 let ⟨_,pa,ra⟩:=d
 let ⟨_,pb,rb⟩:=i
 ⟨_,oh j pa pb,nY e ra rb⟩
def Vs {c:CmpOp}{g:xL}{f:zU}(k:aP X (compareOp c) r)(e:bh r g)(i:behindInMarks c b=false)(d:ED X a f)(j:ED X b h):ED X (.Compare a [c] [b] pos) (ze g f h) :=
 let ⟨_,pa,ra⟩:=d
 let ⟨_,pb,rb⟩:=j
 ⟨_,Ng k pa pb i,nY e ra rb⟩
def bC:D->Option Bool
 |.bl b=>some b
 |_=>none
def ZH {d:D}{b:Bool}(h:bC d≈b):d=.bl b:=by
 cases d <;> first | (cases h;rfl)|cases h
def ao (f:zU):vz:=λa=>(f a).bind bC
def sy {t:TE}{f:zU}(r:RE t f):RT (jx t) (ao f):=by
 intro c h F H b Q s i e q
 obtain⟨x,d,e⟩:=u4.mp e
 cases ZH e
 exact r c h F H _ _ s i d λF1 H1 v g a=>⟨b,a.bl_inv,q F1 H1 g⟩
def zV {c:CmpOp}{g:xL}{f:zU}(k:aP X (compareOp c) r)(e:bh r g)(i:behindInMarks c b=false)(d:ED X a f)(j:ED X b h):TD X (.Compare a [c] [b] pos) (ao (ze g f h)) :=
 let ⟨_,pa,ra⟩:=d
 let ⟨_,pb,rb⟩:=j
 ⟨_,Vg k pa pb i,sy (nY e ra rb)⟩
def wq {f:zU}(c:ED X a f)(d:∀ b,isTrue a X.env b=(do let v<-b;standAt a.pos;holding [v] (truthy v)):=by intro _;rfl):TD X a (ao f) :=
 let ⟨_,pa,ra⟩:=c
 ⟨_,KQ pa d,sy ra⟩
def vT (f g:vz):vz:=λa=>(f a).bind λc=>if c then g a else some false
def YK (f g:vz):vz:=λa=>(f a).bind λc=>if c then some true else g a
def yq (f:vz):vz:=λa=>(f a).map (!·)
def Nt {f:vz}(b:TD X a f):WD X (.BoolOp .And [a] pos) f:=let ⟨_,pa,ra⟩:=b;⟨_,znn pa,ra⟩
def oO {f:vz}(b:TD X a f):WD X (.BoolOp .Or [a] pos) f:=let ⟨_,pa,ra⟩:=b;⟨_,Kq pa,ra⟩
def Kw {rest:yO}{f g:vz}(n:TD X a f)(p:WD X (.BoolOp .And (b::rest) pos) g):WD X (.BoolOp .And (a::b::rest) pos) (vT f g):=by
 obtain⟨t,r,j⟩:=n
 obtain⟨u,l,k⟩:=p
 refine⟨_,zoH r l,λd h F H z Q s i e q=>?_⟩
 obtain⟨x,o,e⟩:=u4.mp e
 refine j d h F H x _ s i o λF1 H1 c=>?_
 cases x with
 |true =>
  rw[q4 rfl]at e ⊢
  exact k d h F1 H1 z Q c.fh (i.mono c.ff) e λF2 H2 m=>q F2 H2 (c.trans m)
 |false =>
  rw[j4 u7]at e ⊢
  cases e
  exact q F1 H1 c
def nM {rest:yO}{f g:vz}(n:TD X a f)(p:WD X (.BoolOp .Or (b::rest) pos) g):WD X (.BoolOp .Or (a::b::rest) pos) (YK f g):=by
 obtain⟨t,r,j⟩:=n
 obtain⟨u,l,k⟩:=p
 refine⟨_,Jk r l,λd h F H z Q s i e q=>?_⟩
 obtain⟨x,o,e⟩:=u4.mp e
 refine j d h F H x _ s i o λF1 H1 c=>?_
 cases x with
 |false =>
  rw[j4 u7]at e ⊢
  exact k d h F1 H1 z Q c.fh (i.mono c.ff) e λF2 H2 m=>q F2 H2 (c.trans m)
 |true =>
  rw[q4 rfl]at e ⊢
  cases e
  exact q F1 H1 c
def jZ {f:vz}(h:WD X a f):TD X a f:=let ⟨_,p,r⟩:=h;⟨_,p.pt,r⟩
def ws {f:vz}(d:TD X a f):TD X (.UnaryOp .Not a pos) (yq f):=by
 obtain⟨l,i,b⟩:=d
 refine⟨_,Lb i,λc j F H z Q s k e q=>?_⟩
 obtain⟨x,g,rfl⟩:=t4.mp e
 exact b c j F H x _ s k g λF1 H1 h=>q F1 H1 h
def ZB (f g:zU):zU:=fun ρ=>((f ρ).bind bC).bind λc=>if c then g ρ else some (.bl false)
def dN (f g:zU):zU:=λa=>((f a).bind bC).bind λc=>if c then some (.bl true)else g a
def dh (f:zU):zU:=λa=>((f a).bind bC).map λc=>.bl (!c)
def zoz {op}{f:zU}(ha:ED X a f):ED X (.BoolOp op [a] pos) f:=let ⟨_,pa,ra⟩:=ha;⟨_,Uh pa,ra⟩
def UG {rest:yO}{f g:zU}(p:ED X a f)(t:ED X (.BoolOp .And (b::rest) pos) g):ED X (.BoolOp .And (a::b::rest) pos) (ZB f g):=by
 obtain⟨B,u,k⟩:=p
 obtain⟨C,m,l⟩:=t
 refine⟨_,Tn u m,λh i F H z Q s j e q=>?_⟩
 obtain⟨x,d,e⟩:=u4.mp e
 obtain⟨y,d,r⟩:=u4.mp d
 cases ZH r
 refine k h i F H _ _ s j d λF1 H1 v c o=>⟨x,o.bl_inv,?_⟩
 cases x with
 |true =>
  rw[q4 rfl]at e ⊢
  exact l h i F1 H1 z Q c.fh (j.mono c.ff) e λF2 H2 w n A=>q F2 H2 w (c.trans n) A
 |false =>
  rw[j4 u7]at e ⊢
  cases e
  exact q F1 H1 _ c .bl
def RM {rest:yO}{f g:zU}(p:ED X a f)(t:ED X (.BoolOp .Or (b::rest) pos) g):ED X (.BoolOp .Or (a::b::rest) pos) (dN f g):=by
 obtain⟨B,u,k⟩:=p
 obtain⟨C,m,l⟩:=t
 refine⟨_,S7 u m,λh i F H z Q s j e q=>?_⟩
 obtain⟨x,d,e⟩:=u4.mp e
 obtain⟨y,d,r⟩:=u4.mp d
 cases ZH r
 refine k h i F H _ _ s j d λF1 H1 v c o=>⟨x,o.bl_inv,?_⟩
 cases x with
 |false =>
  rw[j4 u7]at e ⊢
  exact l h i F1 H1 z Q c.fh (j.mono c.ff) e λF2 H2 w n A=>q F2 H2 w (c.trans n) A
 |true =>
  rw[q4 rfl]at e ⊢
  cases e
  exact q F1 H1 _ c .bl
def Tq {f:zU}(h:ED X a f):ED X (.UnaryOp .Not a pos) (dh f):=by
 obtain⟨n,k,c⟩:=h
 refine⟨_,zp2 k,λg l F H z Q s m e q=>?_⟩
 obtain⟨x,b,rfl⟩:=t4.mp e
 obtain⟨y,b,j⟩:=u4.mp b
 cases ZH j
 exact c g l F H _ _ s m b λF1 H1 v i d=>⟨x,d.bl_inv,q F1 H1 _ i .bl⟩
def cZ (t:vz)(f g:zU):zU:=λa=>(t a).bind λc=>if c then f a else g a
def Ry {t:vz}{f g:zU}(u:TD X c t)(p:ED X a f)(y:ED X b g):ED X (.IfExp c a b pos) (cZ t f g):=by
 obtain⟨C,v,B⟩:=u
 obtain⟨E,A,m⟩:=p
 obtain⟨G,o,n⟩:=y
 refine⟨_,zjC v A o,λi j F H z Q s l e q=>?_⟩
 obtain⟨x,r,e⟩:=u4.mp e
 refine B i j F H x _ s l r λF1 H1 d=>?_
 cases x with
 |true =>
  rw[q4 rfl]at e ⊢
  exact m i j F1 H1 z Q d.fh (l.mono d.ff) e λF2 H2 w h k=>q F2 H2 w (d.trans h) k
 |false =>
  rw[j4 u7]at e ⊢
  exact n i j F1 H1 z Q d.fh (l.mono d.ff) e λF2 H2 w h k=>q F2 H2 w (d.trans h) k
def aF (g:D->Option D)(f:zU):zU:=λa=>(f a).bind g
def V3:D->Option D
 |.int i=>some (.int (-i))
 |_=>none
def VT {f:zU}(g:ED X a f):ED X (.UnaryOp .USub a pos) (aF V3 f):=by
 obtain⟨m,j,b⟩:=g
 refine⟨_,J3 Ke j,λd k F H z Q s l e q=>?_⟩
 obtain⟨x,h,e⟩:=u4.mp e
 cases x <;> try cases e
 exact b d k F H _ _ s l h λF1 H1 v i c=>⟨_,c.int_inv,q F1 H1 _ i .int⟩
def zh:yE:=λ_=>some []
def za (f:zU)(g:yE):yE:=fun ρ=>(f ρ).bind λd=>(g ρ).map (d::·)
def zi:AD X [] zh:=⟨_,z3,λ_ _ _ _ _ _ s _ e q=>by cases e;exact q _ _ _ (.refl s) .nil⟩
def zb {a:yO}{f:zU}{g:yE}(p:ED X e f)(t:AD X a g)(j:starEach (e::a) X.env=(false,eval e X.env)::starEach a X.env:=by rfl):AD X (e::a) (za f g):=by
 obtain⟨B,y,k⟩:=p
 obtain⟨C,m,l⟩:=t
 refine⟨_,zo y m j,λd h F H z Q s i e q=>?_⟩
 obtain⟨x,r,e⟩:=u4.mp e
 obtain⟨o,u,rfl⟩:=t4.mp e
 refine k d h F H x _ s i r λF1 H1 v b n=>?_
 exact l d h F1 H1 o _ b.fh (i.mono b.ff) u λF2 H2 w c A=>q F2 H2 _ (b.trans c) (.cons (n.mono c.ff) A)
def bI (n:Nat):Bool:=decide (n<=sizeLine)
def xb (g:yE):zU:=λb=>(g b).bind λa=>if bI a.length then some (.tup a)else none
def zK (g:yE):yE:=λb=>(g b).bind λa=>if bI a.length then some a else none
def wo {d:yO}{x1}{g:yE}(h:AD X d g):ED X (.Tuple d x1 pos) (xb g):=by
 obtain⟨u,o,f⟩:=h
 refine⟨_,lJ o,λk r F H z Q s t e q=>?_⟩
 obtain⟨n,m,e⟩:=u4.mp e
 split at e <;> cases e
 rename_i l
 refine f k r F H n _ s t m λF1 H1 j c b=>⟨by rw[b.length];exact k9 l,λp i=>?_⟩
 have a:=Gr.alloc c.fh i (.tup j)
 exact q _ _ _ (c.trans a) (.tup zl (b.mono a.ff))
def xZ {c:yO}{g:yE}(h:AD X c g):FL X (.List c pos) (zK g):=by
 obtain⟨w,l,n⟩:=h
 refine⟨_,ZV l,λr v F H z Q s m e q=>?_⟩
 obtain⟨x,t,e⟩:=u4.mp e
 split at e <;> cases e
 rename_i k
 refine n r v F H _ _ s m t λF1 H1 j a f=>⟨by rw[f.length];exact k9 k,λp b=>?_⟩
 have i:=Gr.hide a.fh b (.lst j)
 have h0:H p=none:=by
  cases e:H p with
  |none=>rfl
  |some o =>
   cases d:F p with
   |none=>rw[(a.kp p o d e).2]at b;cases b
   |some u=>rw[a.fh _ _ (a.ff _ _ d)]at b;cases b
 exact q _ _ _ _ (a.trans i) h0 (a.fh.free b) zl f
end
end
end Dl
namespace Dl
open PySem L2
variable [KK]
structure eF where
 z:Option (Addr × Addr × Addr)
 l:zk
 deriving Inhabited
inductive Sl where
 |no|v (d:D)|o (ds:zk)|m (t:Bool) (ks:List (List aD)) (vs:zk)|k (w h:D) (ps:eF)
 deriving Inhabited
abbrev SE:=List Sl
abbrev vA:=D->SE->Option SE
abbrev yW:=SE->Option Nat
abbrev YH:=SE->Prop
def Sl.f:Sl->Option D
 |.v d=>some d
 |_=>none
def Sl.g:Sl->Option D
 |.v d=>some d
 |.o ds=>some (.lst ds)
 |.m t b a=>some (.dct false t b a)
 |.k w h ps=>some (.obj w h ps.l)
 |.no=>none
def Sl.isO:Sl->Bool
 |.o _=>true
 |.m _ _ _=>true
 |.k _ _ _=>true
 |_=>false
def Sl.isK:Sl->Bool
 |.k _ _ _=>true
 |_=>false
def visF (a:SE):Ev:=a.map Sl.f
def visG (a:SE):Ev:=a.map Sl.g
def dC (F:Hp)(o:HO):Sl->Prop
 |.o b=>∃ a,o=.lst a/\aq F b a
 |.m t e b=>∃ a,cR o t e a/\aq F b a
 |.k w h _=>∃ f d c q,o=.ins KK.dk f (X7 d c q)/\At F w d/\At F h c
 |_=>False
def dC.mono (h:dC F o s)(k:zS F F'):dC F' o s:=by
 cases s with
 |no=>exact h
 |v d=>exact h
 |o j=>obtain⟨c,e,a⟩:=h;exact⟨c,e,a.mono k⟩
 |m t l j=>obtain⟨c,e,a⟩:=h;exact⟨c,e,a.mono k⟩
 |k w d ps=>obtain⟨g,i,f,q,e,a,b⟩:=h;exact⟨g,i,f,q,e,a.mono k,b.mono k⟩
def dC.isO {s:Sl}(h:dC F o s):s.isO=true:=by
 cases s with
 |no=>exact h.elim
 |v d=>exact h.elim
 |o a=>rfl
 |m t b a=>rfl
 |k w d c=>rfl
def dC.ntup (h:dC F o s)(b:zy):o≠.tup b:=by
 cases s with
 |no=>exact h.elim
 |v d=>exact h.elim
 |o c=>obtain⟨f,rfl,_⟩:=h;intro e;cases e
 |m t n c =>
  obtain⟨f,e,_⟩:=h
  unfold cR at e
  split at e
  .obtain⟨a,rfl,_⟩:=e;intro e;cases e
  .obtain⟨a,rfl,_⟩:=e;intro e;cases e
 |k w d i=>obtain⟨j,l,g,q,rfl,_⟩:=h;intro e;cases e
def dC.at {G:Hp}{s:Sl}{d:D}{p:Addr}(h:dC F o s)(e:s.g≈d)(c:G p≈o)(k:zS F G)(g:s.isK=false):At G d (.ref p):=by
 cases s with
 |no=>exact h.elim
 |v d=>exact h.elim
 |o f =>
  cases e
  obtain⟨b,rfl,a⟩:=h
  exact .lst c (a.mono k)
 |m t i f =>
  cases e
  obtain⟨b,e,a⟩:=h
  unfold At
  exact⟨p,b,rfl,⟨o,e,c⟩,a.mono k⟩
 |k w d ps=>cases g
def BZ (Hb F H:Hp)(b:SE)(d:St):Prop:=∀ (i:Nat) (w h:D) (c:eF),b[i]?≈(Sl.k w h c)->∃ (p f q:Addr) (k g:V) (e:zy),d[i]?≈(some (.ref p))/\H p≈(.ins KK.dk f (X7 k g q))/\Hb q=none/\F q=none/\H q≈(.lst e)/\aq F c.l e/\(∀ (j:Nat) (s:Sl),b[j]?≈s->s.isO=true->d[j]?≠some (some (.ref q)))/\(∀ (j:Nat) (s:Sl),b[j]?≈s->s.isK=true->j=i)/\∀ a,c.z≈a->a=(p,f,q)
def Sl.isK_eq {s:Sl}(h:s.isK=true):∃ w d a,s=.k w d a:=by
 cases s with
 |k w d a=>exact⟨w,d,a,rfl⟩
 |_=>cases h
def BZ.step {Hb F H Hb' F' H':Hp}{k:St}(r:BZ Hb F H ρ k)(n:∀ (i:Nat) (w h:D) (a:eF),ρ'[i]?≈(.k w h a)->ρ[i]?≈(.k w h a)/\b[i]?=k[i]?)(N:zS F F') (M:∀ (i:Nat) (w h:D) (a:eF) (p f q:Addr) (g d:V) (c:zy),ρ[i]?≈(.k w h a)->k[i]?≈(some (.ref p))->H p≈(.ins KK.dk f (X7 g d q))->Hb q=none->F q=none->H q≈(.lst c)->(∀ (j:Nat) (s:Sl),ρ[j]?≈s->s.isO=true->k[j]?≠some (some (.ref q))) ->
 H' p≈(.ins KK.dk f (X7 g d q))/\Hb' q=none/\F' q=none/\H' q≈(.lst c)/\∀ (j:Nat) (s:Sl),ρ'[j]?≈s->s.isO=true->b[j]?≠some (some (.ref q))):BZ Hb' F' H' ρ' b:=λi w h a e=>by
 obtain⟨o,C⟩:=n i w h a e
 obtain⟨p,f,q,g,d,c,m,O,Q,P,x,u,G,K,A⟩:=r i w h a o
 obtain⟨z,y,L,t,E⟩:=M i w h a p f q g d c o m O Q P x G
 refine⟨p,f,q,g,d,c,by rw[C];exact m,z,y,L,t,u.mono N,E,λj s I B=>?_,A⟩
 obtain⟨J,v,l,rfl⟩:=Sl.isK_eq B
 exact K j _ (n j J v l I).1 rfl
def zoZ {d:V}(h:X7 e d q=X7 a b c):q=c:=by
 unfold X7 at h
 simp at h
 exact h.2.2
def Dm {f d:Addr}{g:V}(h:(some (HO.ins C f (X7 g e q)):Option HO)≈(.ins C b (X7 c a d))):q=d:=zoZ (HO.ins.inj (g0 h)).2.2
structure Rl (Fb Hb F H:Hp) (ρ:SE) (σ:St):Prop where
 gr:Gr Fb Hb F H
 vals:∀ (i:Nat) (d:D),ρ[i]?≈(.v d)->∃ v,σ[i]?≈(some v)/\At F d v
 ows:∀ (i:Nat) (s:Sl),ρ[i]?≈s->s.isO=true->∃ p o,σ[i]?≈(some (.ref p))/\Hb p=none/\F p=none/\H p≈o/\dC F o s
 dis:∀ (i j:Nat) (p:Addr) (s t:Sl),ρ[i]?≈s->ρ[j]?≈t->s.isO=true->t.isO=true->σ[i]?≈(some (.ref p))->σ[j]?≈(some (.ref p))->i=j
 len:ρ.length=σ.length
 dk:BZ Hb F H ρ σ
section
variable {Fb Hb F H F' H':Hp}{ρ ρ':SE}{σ σ':St}
def Rl.owns (r:Rl Fb Hb F H ρ σ)(i:Nat)(c:zk)(e:ρ[i]?≈(.o c)):∃ p b,σ[i]?≈(some (.ref p))/\Hb p=none/\F p=none/\H p≈(.lst b)/\aq F c b:=by
 obtain⟨p,o,d,f,g,h,b,rfl,a⟩:=r.ows i _ e rfl
 exact⟨p,b,d,f,g,h,a⟩
def Rl.grow (r:Rl Fb Hb F H ρ σ)(g:Gr F H F' H'):Rl Fb Hb F' H' ρ σ:=by
 refine⟨r.gr.trans g,λi d e=>?_,λi s e h=>?_,r.dis,r.len,r.dk.step (λ_ _ _ _ e=>⟨e,rfl⟩) g.ff λi w h G p D q E C B b f c j y x t=>?_⟩
 .obtain⟨v,b,a⟩:=r.vals i d e
  exact⟨v,b,a.mono g.ff⟩
 .obtain⟨p,o,b,f,c,j,a⟩:=r.ows i s e h
  obtain⟨m,k⟩:=g.kl a.ntup c j
  exact⟨p,o,b,f,m,k,a.mono g.ff⟩
 .obtain⟨K,o,l,I,A,J,a⟩:=r.ows i _ b rfl
  rw[f]at l
  cases l
  obtain⟨m,k⟩:=g.kl (λ_ z=>by cases z) A c
  obtain⟨n,u⟩:=g.kl (λ_ z=>by cases z) y x
  exact⟨k,j,n,u,t⟩
def Rl.visF (r:Rl Fb Hb F H ρ σ):cJ F (visF ρ) σ:=λi d e=>by
 unfold Dl.visF at e
 rw[k8]at e
 cases h:ρ[i]? with
 |none=>rw[h]at e;cases e
 |some x =>
  rw[h]at e
  cases x with
  |no=>cases e
  |v f =>
   cases e
   exact r.vals i d h
  |o a=>cases e
  |m t b a=>cases e
  |k w d c=>cases e
def qT (ρ:SE)(σ:St)(H:Hp)(p:Addr):Prop:=∃ (i:Nat) (s:Sl) (r:Addr),ρ[i]?≈s/\s.isO=true/\σ[i]?≈(some (.ref r))/\(p=r\/(s.isK=true/\∃ b c a,H r≈(.ins KK.dk b (X7 c a p))))
open Classical in
noncomputable def cI (ρ:SE)(σ:St)(F H:Hp):Hp:=λp=>if qT ρ σ H p then H p else F p
open Classical in
noncomputable def je (ρ:SE)(σ:St)(H G:Hp):Hp:=λp=>if qT ρ σ H p then none else G p
def Rl.own (r:Rl Fb Hb F H ρ σ){p:Addr}(h:qT ρ σ H p):Hb p=none/\F p=none/\∃ o,H p≈o/\∀ c,o≠.tup c:=by
 obtain⟨i,s,E,k,t,e,b⟩:=h
 rcases b with b|⟨v,J,K,I,b⟩
 .subst b
  obtain⟨q,o,g,A,u,n,a⟩:=r.ows i s k t
  rw[e]at g
  cases g
  exact⟨A,u,o,n,a.ntup⟩
 .obtain⟨w,d,y,rfl⟩:=Sl.isK_eq v
  obtain⟨L,C,q,x,l,c,f,j,D,B,m,G,_⟩:=r.dk i w d y k
  rw[e]at f
  cases f
  rw[b]at j
  cases Dm j
  exact⟨D,B,_,m,λ_ z=>by cases z⟩
def Ca (ρ:SE)(σ:St)(H:Hp)(q:Addr):Prop:=(∀ (j:Nat) (s:Sl),ρ[j]?≈s->s.isO=true->σ[j]?≠some (some (.ref q)))/\∀ (j:Nat) (w h:D) (b:eF) (p c:Addr) (d a:V),ρ[j]?≈(.k w h b)->σ[j]?≈(some (.ref p))->H p≠some (.ins KK.dk c (X7 d a q))
def Rl.notown (r:Rl Fb Hb F H ρ σ)(g:Gr F H F' H')(h:H q=none):Ca ρ σ H' q:=by
 refine⟨λj s b c e=>?_,λj w d m p L O J b c e=>?_⟩
 .obtain⟨p,o,a,_,_,f,_⟩:=r.ows j s b c
  rw[e]at a
  cases a
  rw[h]at f
  cases f
 .obtain⟨V,C,U,x,t,G,a,T,W,f,M,I,_⟩:=(r.grow g).dk j w d m b
  obtain⟨K,v,Q,A,D,y,i,u,S,E,l,R,_⟩:=r.dk j w d m b
  rw[c]at a i
  cases a
  cases i
  obtain⟨N,o,n,_,B,P,_⟩:=r.ows j _ b rfl
  rw[c]at n
  cases n
  have k:=(g.kl (λ_ z=>by cases z) B u).2
  rw[e]at k
  cases Dm k
  rw[h]at l
  cases l
def Rl.notbase (r:Rl Fb Hb F H ρ σ)(h:H q=none):Hb q=none:=by
 cases z:Hb q with
 |none=>rfl
 |some o =>
  cases a:Fb q with
  |none=>rw[(r.gr.kp q o a z).2]at h;cases h
  |some u=>rw[r.gr.fh _ _ (r.gr.ff _ _ a)]at h;cases h
def Rl.fg (r:Rl Fb Hb F H ρ σ):zS F (cI ρ σ F H):=λp o e=>by
 unfold cI
 split
 .exact r.gr.fh p o e
 .exact e
def Rl.gh (r:Rl Fb Hb F H ρ σ):zS (cI ρ σ F H) H:=λp o e=>by
 unfold cI at e
 split at e
 .exact e
 .exact r.gr.fh p o e
def Rl.visG (r:Rl Fb Hb F H ρ σ):cJ (cI ρ σ F H) (visG ρ) σ:=λi d e=>by
 unfold Dl.visG at e
 rw[k8]at e
 cases h:ρ[i]? with
 |none=>rw[h]at e;cases e
 |some x =>
  rw[h]at e
  have e:x.g≈d:=g0 e
  have own:x.isO=true->∃ v,σ[i]?≈(some v)/\At (cI ρ σ F H) d v:=λu=>by
   obtain⟨p,o,b,N,M,c,a⟩:=r.ows i x h u
   cases n:x.isK with
   |false =>
    refine⟨_,b,a.at e ?_ r.fg n⟩
    unfold cI
    rw[q4 ⟨i,x,p,h,u,b,.inl rfl⟩]
    exact c
   |true =>
    obtain⟨w,y,s,rfl⟩:=Sl.isK_eq n
    cases e
    obtain⟨S,g,q,j,f,A,l,z,T,R,C,B,_⟩:=r.dk i w y s h
    rw[b]at l
    cases l
    obtain⟨D,E,K,O,J,G,L⟩:=a
    rw[c]at z
    cases z
    cases J
    refine⟨_,b,?_⟩
    unfold At
    refine⟨p,g,q,j,f,A,rfl,?_,?_,G.mono r.fg,L.mono r.fg,B.mono r.fg⟩
    .unfold cI
     rw[q4 ⟨i,_,p,h,rfl,b,.inl rfl⟩]
     exact c
    .unfold cI
     rw[q4 ⟨i,_,p,h,rfl,b,.inr ⟨rfl,g,j,f,c⟩⟩]
     exact C
  cases x with
  |no=>cases e
  |v Q =>
   cases e
   obtain⟨v,b,a⟩:=r.vals i d h
   exact⟨v,b,a.mono r.fg⟩
  |o I=>exact own rfl
  |m t P I=>exact own rfl
  |k w d s=>exact own rfl
def Rl.back {G':Hp}(r:Rl Fb Hb F H ρ σ)(g:Gr (cI ρ σ F H) H G' H'):Gr F H (je ρ σ H G') H'/\∀ q a,G' q≈(.tup a)->je ρ σ H G' q≈(.tup a):=by
 refine⟨⟨λp o e=>?_,λp o e=>?_,λp o c b=>?_⟩,λq a e=>?_⟩
 .unfold je
  rw[j4 (λh=>by rw[(r.own h).2.1]at e;cases e)]
  exact g.ff p o (r.fg p o e)
 .unfold je at e
  split at e
  .cases e
  .exact g.fh p o e
 .by_cases h:qT ρ σ H p
  .refine⟨.inl (by unfold je;rw[q4 h]),g.fh p o (g.ff p o ?_)⟩
   unfold cI
   rw[q4 h]
   exact b
  .obtain⟨x,y⟩:=g.kp p o (by unfold cI;rw[j4 h];exact c) b
   refine⟨?_,y⟩
   unfold BX je
   rw[j4 h]
   exact x
 .unfold je
  rw[j4 (λh=>?_)]
  .exact e
  .obtain⟨_,_,o,b,n⟩:=r.own h
   have:G' q≈o:=g.ff q _ (by unfold cI;rw[q4 h];exact b)
   rw[this]at e
   cases e
   exact n a rfl
def Rl.out (r:Rl Fb Hb F H ρ σ)(g:Gr (cI ρ σ F H) H G' H'):Gr Fb Hb G' H':=by
 refine⟨λp o e=>g.ff p o (r.fg p o (r.gr.ff p o e)),g.fh,λp o d b=>?_⟩
 obtain⟨a,f⟩:=r.gr.kp p o d b
 have c:cI ρ σ F H p=F p:=by
  unfold cI
  rw[j4 (λh=>by rw[(r.own h).1]at b;cases b)]
 rcases a with a|⟨a,i⟩
 .exact g.kp p o (by rw[c];exact a) f
 .have:=g.ff p o (by rw[c];exact i)
  exact⟨.inr ⟨a,this⟩,g.fh _ _ this⟩
def Rl.set (r:Rl Fb Hb F H ρ σ){d:D}(a:At F d v):Rl Fb Hb F H (ρ.set i (.v d)) (σ.set i (some v)):=by
 have g:∀ {j:Nat} {s:Sl},(ρ.set i (.v d))[j]?≈s->s.isO=true->i≠j:=λ{j s} h c e=>by
  subst e
  rw[iI]at h
  simp only[dW]at h
  split at h <;> cases h
  cases c
 have E:∀ {j:Nat} {w h:D} {m:eF},(ρ.set i (.v d))[j]?≈(.k w h m)->i≠j:=λh=>g h rfl
 refine⟨r.gr,λj e h=>?_,λj s h c=>?_,λj k p s t f l n u x o=>?_,by simp[r.len],r.dk.step (λj w h m e=>?_) (zS.refl _) λj w h m p M q N L K P O y G J C A=>⟨y,G,J,C,λk s f c=>?_⟩⟩
 .by_cases b:i=j
  .subst b
   rw[iI]at h
   simp only[dW]at h
   split at h
   .rename_i B
    cases h
    refine⟨v,?_,a⟩
    rw[iI]
    simp[<-r.len,B]
   .cases h
  .rw[u9 b]at h ⊢
   exact r.vals j e h
 .have b:=g h c
  rw[u9 b]at h ⊢
  exact r.ows j s h c
 .have I:=g f n
  have z:=g l u
  rw[u9 I]at f x
  rw[u9 z]at l o
  exact r.dis j k p s t f l n u x o
 .have b:=E e
  rw[u9 b]at e ⊢
  exact⟨e,rfl⟩
 .have b:=g f c
  rw[u9 b]at f ⊢
  exact A k s f c
def Rl.setW (r:Rl Fb Hb F H ρ σ){w:Sl}{p:Addr}(h0:Hb p=none)(T:F p=none)(U:H p≈o)(a:dC F o w)(A:Ca ρ σ H p)(C:w.isK=false:=by rfl):Rl Fb Hb F H (ρ.set i w) (σ.set i (some (.ref p))):=by
 have b:∀ {s:Sl},(ρ.set i w)[i]?≈s->i<ρ.length/\s=w:=λ{s} h=>by
  rw[iI]at h
  simp only[dW]at h
  split at h
  .rename_i f
   cases h
   exact⟨f,rfl⟩
  .cases h
 have c:i<ρ.length->(σ.set i (some (V.ref p)))[i]?≈(some (.ref p)):=λf=>by
  rw[iI]
  simp[<-r.len,f]
 have O:∀ {j:Nat} {x h:D} {v:eF},(ρ.set i w)[j]?≈(.k x h v)->i≠j:=λ{j x h v} e z=>by
  subst z
  have B:=(b e).2
  rw[<-B]at C
  cases C
 refine⟨r.gr,λj e h=>?_,λj s h y=>?_,λj k q s t g u E I n m=>?_,by simp[r.len],r.dk.step (λj x h v e=>?_) (zS.refl _) λj x h v S K q L J W Q B G P R N M=>⟨G,P,R,N,λk s g y=>?_⟩⟩
 .by_cases d:i=j
  .subst d
   have e:=(b h).2
   have:=a.isO
   rw[<-e]at this
   cases this
  .rw[u9 d]at h ⊢
   exact r.vals j e h
 .by_cases d:i=j
  .subst d
   obtain⟨f,e⟩:=b h
   subst e
   exact⟨p,o,c f,h0,T,U,a⟩
  .rw[u9 d]at h ⊢
   exact r.ows j s h y
 .by_cases d:i=j
  .subst d
   by_cases l:i=k
   .exact l
   .obtain⟨f,_⟩:=b g
    rw[c f]at n
    cases n
    rw[u9 l]at u m
    exact absurd m (A.1 k t u I)
  .by_cases l:i=k
   .subst l
    obtain⟨f,_⟩:=b u
    rw[c f]at m
    cases m
    rw[u9 d]at g n
    exact absurd n (A.1 j s g E)
   .rw[u9 d]at g n
    rw[u9 l]at u m
    exact r.dis j k q s t g u E I n m
 .have d:=O e
  rw[u9 d]at e ⊢
  exact⟨e,rfl⟩
 .by_cases l:i=k
  .subst l
   rw[c (b g).1]
   intro z
   cases z
   exact A.2 j x h v S K L J Q B G
  .rw[u9 l]at g ⊢
   exact M k s g y
def Rl.setO (r:Rl Fb Hb F H ρ σ){p:Addr}(h0:Hb p=none)(e:F p=none)(f:H p≈(.lst b))(a:aq F c b)(d:Ca ρ σ H p):Rl Fb Hb F H (ρ.set i (.o c)) (σ.set i (some (.ref p))):=r.setW h0 e f ⟨b,rfl,a⟩ d
def Rl.mutW (r:Rl Fb Hb F H ρ σ){i:Nat}{w y:Sl}{p:Addr}(e:ρ[i]?≈w)(hw:w.isO=true)(A:σ[i]?≈(some (.ref p)))(a:dC F K y)(T:w.isK=false:=by rfl)(E:y.isK=false:=by rfl):Rl Fb Hb F (aA H p K) (ρ.set i y) σ:=by
 obtain⟨q,o,N,h0,R,hH,_⟩:=r.ows i w e hw
 rw[A]at N
 cases N
 have D:i<ρ.length:=(j3.mp e).1
 have n:∀ {j:Nat} {s:Sl} {q:Addr},i≠j->ρ[j]?≈s->s.isO=true->σ[j]?≈(some (.ref q))->q≠p:=λ{j s q} hne m g C z=>by
  subst z
  exact hne (r.dis i j q w s e m hw g A C)
 refine⟨⟨r.gr.ff,λb o z=>?_,λb o z1 Q=>?_⟩,λj d h=>?_,λj s h g=>?_,λj k q s t m C U Y h3 X=>?_,by simp[r.len],r.dk.step (λj x h Z v=>?_) (zS.refl _) λj x h Z p' dx q vw vh xs l u M L B S I=>⟨?_,L,B,?_,λk s m g=>?_⟩⟩
 .rw[zj (zf z R)]
  exact r.gr.fh b o z
 .rw[zj (zf Q h0)]
  exact r.gr.kp b o z1 Q
 .by_cases c:i=j
  .subst c
   rw[r8 D]at h
   cases h
   exact(Bool.noConfusion a.isO)
  .rw[u9 c]at h
   exact r.vals j d h
 .by_cases c:i=j
  .subst c
   rw[r8 D]at h
   cases h
   exact⟨p,K,A,h0,R,zl,a⟩
  .rw[u9 c]at h
   obtain⟨q,z,l,u,M,L,B⟩:=r.ows j s h g
   refine⟨q,z,l,u,M,?_,B⟩
   rw[zj (n c h g l)]
   exact L
 .have f:∀ {j:Nat} {s:Sl},(ρ.set i y)[j]?≈s->s.isO=true->∃ P,ρ[j]?≈P/\P.isO=true:=λ{j s} h g=>by
   by_cases c:i=j
   .subst c;exact⟨w,e,hw⟩
   .rw[u9 c]at h;exact⟨s,h,g⟩
  obtain⟨l,W,G⟩:=f m U
  obtain⟨u,V,J⟩:=f C Y
  exact r.dis j k q l u W V G J h3 X
 .by_cases c:i=j
  .subst c
   rw[r8 D]at v
   cases v
   cases E
  .rw[u9 c]at v
   exact⟨v,rfl⟩
 .have c:i≠j:=λz=>by
   subst z
   rw[e]at l
   cases l
   cases T
  rw[zj (n c l rfl u)]
  exact M
 .rw[zj (λz=>I i w e hw (by rw[z];exact A))]
  exact S
 .by_cases O:i=k
  .subst O
   exact I i w e hw
  .rw[u9 O]at m
   exact I k s m g
def Rl.mutate (r:Rl Fb Hb F H ρ σ){i:Nat}{f:zk}{p:Addr}(e:ρ[i]?≈(.o f))(d:σ[i]?≈(some (.ref p)))(a:aq F c b):Rl Fb Hb F (aA H p (.lst b)) (ρ.set i (.o c)) σ :=
 r.mutW e rfl d ⟨b,rfl,a⟩
def Sl.fz:Sl->Sl
 |.o c=>.v (.lst c)
 |.m t b a=>.v (.dct false t b a)
 |.k _ _ _=>.no
 |s=>s
def rQ (ρ:SE)(i:Nat):SE:=ρ.set i ((ρ[i]?).getD .no).fz
def Rl.freeze (r:Rl Fb Hb F H ρ σ)(i:Nat):∃ F',Rl Fb Hb F' H (rQ ρ i) σ:=by
 unfold rQ
 cases h:ρ[i]? with
 |none =>
  refine⟨F,?_⟩
  rw[List.set_eq_of_length_le (List.getElem?_eq_none_iff.mp h)]
  exact r
 |some s =>
  have M:i<ρ.length:=(j3.mp h).1
  have same:s.fz=s->∃ F',Rl Fb Hb F' H (ρ.set i ((some s).getD .no).fz) σ:=λe=>by
   refine⟨F,?_⟩
   show Rl Fb Hb F H (ρ.set i s.fz) σ
   rw[e]
   have:ρ.set i s=ρ:=by
    apply List.ext_getElem?
    intro j
    by_cases g:i=j
    .subst g;rw[r8 M,h]
    .rw[u9 g]
   rw[this]
   exact r
  have A:∀ d,s.isO=true->s.isK=false->s.g≈d->s.fz=.v d->∃ F',Rl Fb Hb F' H (ρ.set i ((some s).getD .no).fz) σ:=λd T R Z hz=>by
   obtain⟨p,o,X,e2,Y,e4,a⟩:=r.ows i s h T
   have P:zS F (aA F p o):=λb u e=>by rw[zj (zf e Y)];exact e
   show ∃ F',Rl Fb Hb F' H (ρ.set i s.fz) σ
   rw[hz]
   have n:∀ {j:Nat} {t:Sl},(ρ.set i (.v d))[j]?≈t->t.isO=true->i≠j:=λ{j t} h c e=>by
    subst e
    rw[r8 M]at h
    cases h
    cases c
   refine⟨aA F p o,r.gr.show e2 Y e4,λj e z=>?_,λj t z c=>?_,λj k q t u f B E I W U=>?_,by simp[r.len],r.dk.step (λj x V O C=>?_) P λj x V O p' dx q vw vh xs D J L K G S N=>⟨L,K,?_,S,λk t f c=>?_⟩⟩
   .by_cases g:i=j
    .subst g
     rw[r8 M]at z
     cases z
     exact⟨_,X,a.at Z zl P R⟩
    .rw[u9 g]at z
     obtain⟨v,D,J⟩:=r.vals j e z
     exact⟨v,D,J.mono P⟩
   .have g:=n z c
    rw[u9 g]at z
    obtain⟨q,y,D,J,L,K,G⟩:=r.ows j t z c
    refine⟨q,y,D,J,?_,K,G.mono P⟩
    rw[zj (λw=>g (r.dis i j p s t h z T c X (by rw[<-w];exact D)))]
    exact L
   .have a1:=n f E
    have a2:=n B I
    rw[u9 a1]at f
    rw[u9 a2]at B
    exact r.dis j k q t u f B E I W U
   .have g:=n C rfl
    rw[u9 g]at C
    exact⟨C,rfl⟩
   .rw[zj (λz=>N i s h T (by rw[z];exact X))]
    exact G
   .have g:=n f c
    rw[u9 g]at f
    exact N k t f c
  cases s with
  |no=>exact same rfl
  |v d=>exact same rfl
  |o ds=>exact A _ rfl rfl rfl rfl
  |m t ks ds=>exact A _ rfl rfl rfl rfl
  |k w d O =>
   refine⟨F,?_⟩
   have n:∀ {j:Nat} {t:Sl},(ρ.set i Sl.no)[j]?≈t->t≠.no->i≠j:=λ{j t} h c e=>by
    subst e
    rw[r8 M]at h
    cases h
    exact c rfl
   have Q:∀ {t:Sl},t.isO=true->t≠.no:=λ{t} h e=>by subst e;cases h
   refine⟨r.gr,λj e z=>?_,λj t z c=>?_,λj l q t u f B E I W U=>?_,by simp[r.len,Sl.fz],r.dk.step (λj x V O C=>?_) (zS.refl _) λj x V O p' dx q vw vh xs D J L K G S N=>⟨L,K,G,S,λl t f c=>?_⟩⟩
   .rw[u9 (n z (λz=>by cases z))]at z
    exact r.vals j e z
   .rw[u9 (n z (Q c))]at z
    exact r.ows j t z c
   .rw[u9 (n f (Q E))]at f
    rw[u9 (n B (Q I))]at B
    exact r.dis j l q t u f B E I W U
   .rw[u9 (n C (λz=>by cases z))]at C
    exact⟨C,rfl⟩
   .rw[u9 (n f (Q c))]at f
    exact N l t f c
end
inductive bu where
 |nx (ρ:SE)|rt (d:D)|bk (ρ:SE)|ct (ρ:SE)|no
 deriving Inhabited
abbrev zD:=SE->bu
def mK (Fb Hb:Hp)(E:VN):bu->Prop
 |.nx b=>∀ F H a,Rl Fb Hb F H b a->E.nx a H
 |.bk b=>∀ F H a,Rl Fb Hb F H b a->E.bk a H
 |.ct b=>∀ F H a,Rl Fb Hb F H b a->E.ct a H
 |.rt d=>∀ F H v,Gr Fb Hb F H->At F d v->E.rt v H
 |.no=>False
def RS (t:TS)(g:zD):Prop:=∀ (Fb Hb F H:Hp) (b:SE) (a:St) (E:VN),Rl Fb Hb F H b a->mK Fb Hb E (g b)->t E a H
def SD (X:Cx)(a:Stmt)(g:zD):Prop:=∃ t,PS X a t/\RS t g
def bM (X:Cx)(a:vu)(g:zD):Prop:=∃ t,bF X a t/\RS t g
section
variable {X:Cx}{st:Stmt}{sts:vu}{a b c e:Expr}{pos pos':Pos}
def zA:zD:=.nx
noncomputable def zI (g h:zD):zD:=λb=>match g b with
 |.nx a=>h a
 |.rt d=>.rt d
 |.bk a=>.bk a
 |.ct a=>.ct a
 |.no=>.no
def z5:bM X [] zA:=⟨_,WX,λ_ _ F H b a E r h=>h F H a r⟩
def zC {g:zD}(l:SD X st g)(m:bM X sts h):bM X (st::sts) (zI g h):=by
 obtain⟨t,p,r⟩:=l
 obtain⟨u,j,o⟩:=m
 refine⟨_,yV p j,λFb Hb F H f n E i k=>?_⟩
 refine r Fb Hb F H f n { E with nx:=u E } i ?_
 unfold zI at k
 cases e:g f with
 |nx a =>
  rw[e]at k
  exact λF' H' c b=>o Fb Hb F' H' a c E b k
 |rt d=>rw[e]at k;exact k
 |bk d=>rw[e]at k;exact k
 |ct d=>rw[e]at k;exact k
 |no=>rw[e]at k;exact k
def zO {g:zD}(a:SD X st g):bM X [st] g:=let ⟨_,p,r⟩:=a;⟨_,x4 p,r⟩
def jb (i:Nat)(g:zD):zD:=λa=>g (rQ a i)
def Ea {g:zD}(i:Nat)(h:bM X sts g):bM X sts (jb i g):=by
 obtain⟨t,p,r⟩:=h
 refine⟨_,p,λFb Hb F H d b E c k=>?_⟩
 obtain⟨F',a⟩:=c.freeze i
 exact r Fb Hb F' H _ b E a k
def aU:zD:=λ_=>.no
def vF:SD X st aU:=⟨_,PP,λ_ _ _ _ _ _ _ _ h=>h.elim⟩
noncomputable def z9 (f:zU):zD:=λa=>match f (visG a) with
 |some d=>.rt d
 |none=>.no
def x5 {f:zU}(h:ED X e f):SD X (.Return (some e) pos) (z9 f):=by
 obtain⟨t,p,r⟩:=h
 refine⟨_,Ys p,λFb Hb F H i c E a k=>?_⟩
 unfold z9 at k
 cases h:f (visG i) with
 |none=>rw[h]at k;exact k.elim
 |some d =>
  rw[h]at k
  exact r c _ _ H d _ a.gh a.visG h λF' H' v g b=>k F' H' v (a.out g) b
def X3:zD:=λ_=>.rt .non
def aY (m:Bool)(f:zU)(a:SE):Option D:=if m then (f (visG a)).bind λd=>if bx d then some d else none else f (visF a)
def RE.at {e:SE}{b:St}{f:zU}{t:TE}{d:D}{Q:VK}(r:RE t f)(a:Rl Fb Hb F H e b)(h:aY m f e≈d)(q:∀ F' H' v,Gr F H F' H'->At F' d v->Q v H'):t b H Q:=by
 unfold aY at h
 cases m with
 |false =>
  rw[j4 u7]at h
  exact r b _ _ H d _ a.gr.fh a.visF h q
 |true =>
  rw[q4 rfl]at h
  obtain⟨o,l,c⟩:=u4.mp h
  split at c <;> cases c
  rename_i n
  refine r b _ _ H d _ a.gh a.visG l λF' H' v g k=>?_
  obtain⟨i,j⟩:=a.back g
  exact q _ H' v i (k.flat j n)
def xa (m:Bool)(i:Nat)(f:zU):zD:=λa=>match aY m f a with
 |some d=>.nx (a.set i (.v d))
 |none=>.no
def xS {i:Nat}{f:zU}(l:X.N.Nodup)(b:X.N[i]?≈x)(n:bY X.env.scope x)(q:ED X e f)(c:swapsWith e (some (.Name x pos')) pos.line X.env=pure false:=by rfl)(o:X.fn x=true\/X.env.scope.names.lookup x≈.local:=by first|exact .inl rfl|exact .inr rfl|assumption):SD X (.Assign [.Name x pos'] e pos) (xa m i f):=by
 obtain⟨t,p,r⟩:=q
 refine⟨_,Yq l b n p c o,λFb Hb F H s u E a k=>?_⟩
 unfold xa at k
 cases h:aY m f s with
 |none=>rw[h]at k;exact k.elim
 |some d =>
  rw[h]at k
  exact r.at a h λF' H' v g j=>k F' H' _ ((a.grow g).set j)
noncomputable def Yd (f:zU):zD:=λa=>match f (visG a) with
 |some _=>.nx a
 |none=>.no
def Vm {f:zU}(i:ED X e f)(c:swapsWith e none pos.line X.env=pure false:=by rfl):SD X (.Expr e pos) (Yd f):=by
 obtain⟨t,p,r⟩:=i
 refine⟨_,Xd p c,λFb Hb F H j b E a k=>?_⟩
 unfold Yd at k
 cases h:f (visG j) with
 |none=>rw[h]at k;exact k.elim
 |some d =>
  rw[h]at k
  exact r b _ _ H d _ a.gh a.visG h λF' H' v g l=>k _ H' b (a.grow (a.back g).1)
def Wl (i:Nat)(f:yE):zD:=λa=>match f (visF a) with
 |some b=>.nx (a.set i (.o b))
 |none=>.no
def DX {i:Nat}{f:yE}(l:X.N.Nodup)(d:X.N[i]?≈x)(c:bY X.env.scope x)(s:FL X e f)(j:swapsWith e (some (.Name x pos')) pos.line X.env=pure false:=by rfl)(m:X.fn x=true\/X.env.scope.names.lookup x≈.local:=by first|exact .inl rfl|exact .inr rfl|assumption):SD X (.Assign [.Name x pos'] e pos) (Wl i f):=by
 obtain⟨t,p,r⟩:=s
 refine⟨_,Yq l d c p j m,λFb Hb F H v o E a k=>?_⟩
 unfold Wl at k
 cases h:f (visF v) with
 |none=>rw[h]at k;exact k.elim
 |some n =>
  rw[h]at k
  refine r o _ _ H n _ a.gr.fh a.visF h λF' H' q y g h0 u w c=>?_
  have b:=a.grow g
  exact k F' H' _ (b.setO (a.notbase h0) u w c (a.notown g h0))
noncomputable def aB (t:vz)(g h:zD):zD:=λa=>match t (visG a) with
 |some true=>g a
 |some false=>h a
 |none=>.no
def x8 {t:vz}{g:zD}(r:TD X c t)(l:bM X i g)(u:bM X j h):SD X (.If c i j pos) (aB t g h):=by
 obtain⟨w,s,n⟩:=r
 obtain⟨v,m,o⟩:=l
 obtain⟨x,q,p⟩:=u
 refine⟨_,lG s m q,λFb Hb F H f e E b k=>?_⟩
 unfold aB at k
 cases h:t (visG f) with
 |none=>rw[h]at k;exact k.elim
 |some d =>
  rw[h]at k
  refine n e _ _ H d _ b.gh b.visG h λF' H' g=>?_
  have a:=b.grow (b.back g).1
  cases d with
  |true=>rw[q4 rfl];exact o Fb Hb _ H' f e E a k
  |false=>rw[j4 u7];exact p Fb Hb _ H' f e E a k
def RG (t:TG)(b:vA):Prop:=∀ (Fb Hb F H:Hp) (f a:SE) (e:St) (d:D) (v:V) (Q:Ya),Rl Fb Hb F H f e->At F d v->b d f≈a->(∀ c,Rl Fb Hb F H a c->Q c H)->t v e H Q
def RGs (t:ir)(b:zk->SE->Option SE):Prop:=∀ (Fb Hb F H:Hp) (f a:SE) (d:St) (g:zk) (e:zy) (Q:Ya),Rl Fb Hb F H f d->aq F g e->b g f≈a->(∀ c,Rl Fb Hb F H a c->Q c H)->t e d H Q
def BD (X:Cx)(a:Expr)(b:vA):Prop:=∃ t,PG X a t/\RG t b
def mU (X:Cx)(a:yO)(b:zk->SE->Option SE):Prop:=∃ t,mL X a t/\RGs t b
def xg (i:Nat):vA:=λd a=>some (a.set i (.v d))
def wR (h:PG X a (VH i)):BD X a (xg i):=by
 refine⟨_,h,λFb Hb F H j f g d v Q b c e q=>?_⟩
 cases e
 exact q _ (b.set c)
def Vz:zk->SE->Option SE
 |[],ρ=>some ρ
 |_,_=>none
def xB (b:vA)(c:zk->SE->Option SE):zk->SE->Option SE
 |d::ds,ρ=>(b d ρ).bind (c ds)
 |[],_=>none
def Xj:mU X [] Vz:=by
 refine⟨_,zni,λFb Hb F H h c f d g Q a b e q=>?_⟩
 cases d with
 |nil=>cases e;exact⟨b.nil_inv,q _ a⟩
 |cons _ _=>cases e
def wk {f:yO}{b:vA}{c:zk->SE->Option SE}(y:BD X e b)(n:mU X f c)
 (v:(assignEach (e::f) X.env).map (·.2)=assign e X.env::(assignEach f X.env).map (·.2):=by rfl):mU X (e::f) (xB b c):=by
 obtain⟨t,p,r⟩:=y
 obtain⟨u,m,s⟩:=n
 refine⟨_,zkl p m v,λFb Hb F H E h A i G Q l w e q=>?_⟩
 cases i with
 |nil=>cases e
 |cons d i =>
  obtain⟨x,k,rfl,z,C⟩:=w.cons_inv
  obtain⟨a,B,o⟩:=u4.mp e
  exact⟨x,k,rfl,r Fb Hb F H E a A d x _ l z B λj g=>s Fb Hb F H a h j i k Q g C o q⟩
def VB (n:Nat)(c:zk->SE->Option SE):vA
 |.tup ds,ρ=>if ds.length=n then c ds ρ else none
 |_,_=>none
def V5 {b:yO}{k:Nat}{n:Nat}{c:zk->SE->Option SE}(x:X.calm=true)(h:mU X b c)
 (y:(assignEach b X.env).length=n:=by rfl) (f:(assignEach b X.env).findIdx? (·.1)=none:=by rfl):BD X (.Tuple b k pos) (VB n c):=by
 obtain⟨t,p,r⟩:=h
 refine⟨_,UW x p y f,λFb Hb F H z g w d v Q i o e q=>?_⟩
 cases d with
 |tup u =>
  unfold VB at e
  dsimp only at e
  split at e
  .rename_i m
   obtain⟨a,j,rfl,s,l⟩:=o.tup_inv
   exact⟨a,j,rfl,aJ.of (i.gr.fh _ _ s),by rw[l.length];exact m,r Fb Hb F H z g w u j Q i l e q⟩
  .cases e
 |_=>cases e
def cz (m:Bool)(f:zU)(b:vA):zD:=λc=>match (aY m f c).bind λd=>b d c with
 |some a=>.nx a
 |none=>.no
def Ed {a:Expr}{f:zU}{b:vA}(C:ED X e f)(o:BD X a b)(x:swapsWithSole [a] e pos.line X.env=pure false:=by rfl)(hw:swappedStores [a] e X.env=pure none:=by rfl)(z:(assignEach [a] X.env).map (·.2)=[assign a X.env]:=by rfl):SD X (.Assign [a] e pos) (cz m f b):=by
 obtain⟨t,p,r⟩:=C
 obtain⟨u,q,w⟩:=o
 refine⟨_,Kz p q x hw z,λFb Hb F H j A E n k=>?_⟩
 unfold cz at k
 cases h:(aY m f j).bind λd=>b d j with
 |none=>rw[h]at k;exact k.elim
 |some i =>
  rw[h]at k
  obtain⟨d,B,s⟩:=u4.mp h
  refine r.at n B λF' H' v g y=>?_
  exact w Fb Hb F' H' j i A d v _ (n.grow g) y s λl c=>k F' H' l c
def Wz (m:Bool)(i:Nat)(e c:zU):zD:=λa=>match (aY m c a).bind λd=>(e (visG a)).bind λk=>match a[i]?,k with
 |some (.o ds),.int k=>(ixN ds.length k).map λj=>a.set i (.o (ds.set j d))
 |_,_=>none with
 |some b=>.nx b
 |none=>.no
def Uv {f:Expr}(he:ED X e z)(M:PE X a (Zh i))(P:ED X f A)(l:swapsWithSole [.Subscript a f pos'] e pos.line X.env=pure false:=by rfl)(hw:swappedStores [.Subscript a f pos'] e X.env=pure none:=by rfl)(T:(assignEach [.Subscript a f pos'] X.env).map (·.2)=[assign (.Subscript a f pos') X.env]:=by rfl) (O:∀ v,assign (.Subscript a f pos') X.env v=(do
 let ov<-holding [v] (eval a X.env)
 let iv<-holding [v,ov] (eval f X.env)
 standAt pos'
 holding [v,ov,iv] (setItem ov iv v)
 release [v,ov,iv] []):=by intro _;rfl):SD X (.Assign [.Subscript a f pos'] e pos) (Wz m i A z):=by
 obtain⟨t,p,r⟩:=he
 obtain⟨tk,N,K⟩:=P
 refine⟨_,Kz p (Sg M N zkU O) l hw T,λFb Hb F H w J E C k=>?_⟩
 unfold Wz at k
 cases h:(aY m z w).bind λd=>(A (visG w)).bind λk=>match w[i]?,k with
  |some (.o u),.int k=>(ixN u.length k).map λj=>w.set i (.o (u.set j d))
  |_,_=>none with
 |none=>rw[h]at k;exact k.elim
 |some Q =>
  rw[h]at k
  obtain⟨d,W,c⟩:=u4.mp h
  obtain⟨kd,L,c⟩:=u4.mp c
  cases l:w[i]? with
  |none=>rw[l]at c;cases c
  |some Z =>
   rw[l]at c
   cases Z with
   |no=>cases c
   |v _=>cases c
   |m _ _ _=>cases c
   |k _ _ _=>cases c
   |o u =>
    cases kd with
    |int U =>
     obtain⟨j,R,rfl⟩:=t4.mp c
     refine r.at C W λF' H' v g S=>?_
     have b:=C.grow g
     obtain⟨q,xs,y,_⟩:=b.owns i u l
     refine⟨_,y,?_⟩
     refine K J _ _ H' _ _ b.gh b.visG L λF3 H3 v3 V x=>?_
     obtain⟨I,_⟩:=b.back V
     have n:=b.grow I
     obtain⟨q3,B,s,_,_,Y,G⟩:=n.owns i u l
     rw[y]at s
     cases s
     refine⟨q,B,U,j,rfl,x.int_inv,Y,by rw[G.length];exact R,?_⟩
     exact k _ _ J (n.mutate l y (G.set j (S.mono I.ff)))
    |_=>cases c
end
end Dl
namespace L2
open PySem PySem.Spec PyProof.Rows
section
variable {X:Cx}{tg:Expr}
def Ij (K:zx)(d:TE):TI:=λc H R=>d c H λx H1=>(∃ a,x=.ref a/\(∃ b,aK K H1 a b)/\R (Jd K a) H1)\/(∃ a,x=.ref a/\(∃ b,aJ K H1 a b)/\R (Jb K a) H1)
def UJ {k:TE}(t:PE X l k):PI X tg l (Ij X.K k):=by
 intro d s u H R I h
 refine aC (t d s u H _ I h) λv c hh9=>?_
 obtain⟨x,H1,I1,j,w⟩:=hh9
 rcases w with ⟨a,e,⟨m,g⟩,q⟩|⟨a,e,⟨m,g⟩,q⟩
 .subst e
  cases j
  obtain⟨f,n,p,r⟩:=I1.list g
  refine jL p.isList ?_
  refine⟨c.heap.objs.size,[c.heap.objs.size],_,_,H1,rfl,I1.kept (t':=c.toks) λb o e=>u6 _ e,zge a _,⟨_,j5 _ rfl,rfl,rfl⟩,λb i=>?_,q⟩
  have e:b=c.heap.objs.size:=by simpa using i
  subst e
  exact I1.fpOk (t7 _) (I1.hok.fresh (t7 _))
 .subst e
  cases j
  obtain⟨f,n,p,r⟩:=I1.tuple g
  refine gY (show c.heap.IsTuple a f.toArray from p) ?_
  refine⟨c.heap.objs.size,[c.heap.objs.size],_,_,H1,rfl,I1.kept (t':=c.toks) λb o e=>u6 _ e,zfb a _,⟨_,j5 _ rfl,rfl,rfl⟩,λb i=>?_,q⟩
  have e:b=c.heap.objs.size:=by simpa using i
  subst e
  exact I1.fpOk (t7 _) (I1.hok.fresh (t7 _))
end
end L2
namespace Dl
open PySem L2
variable [KK]
def nu (J:It)(F:Hp)(a:zk):Prop:=∀ (i:Nat) (F2 H2:Hp),zS F F2->zS F2 H2->(i=a.length->J.stop i H2) /\
 ∀ d,a[i]?≈d->J.go i H2/\∀ x H3,J.yld i H2 x H3->∃ F3,Gr F2 H2 F3 H3/\At F3 d x
def RI (d:TI)(f:yE):Prop :=
 ∀ (b:St) (c:Ev) (F H:Hp) (a:zk) (R:It->Hp->Prop),zS F H->cJ F c b->f c≈a->(∀ F' H' J,Gr F H F' H'->nu J F' a->R J H')->d b H R
def ID (X:Cx)(c a:Expr)(f:yE):Prop:=∃ b,PI X c a b/\RI b f
def vy:D->Option zk
 |.lst a=>some a
 |.tup a=>some a
 |_=>none
section
variable {X:Cx}{tg a b c e:Expr}{pos:Pos}
def TX {F:Hp}{p:Addr}{a:zy}{f:zk}(h:F p≈(.lst a))(g:aq F f a):nu (Jd K p) F f:=by
 intro i F2 H2 j e
 have q:aK K H2 p a:=aK.of (e _ _ (j _ _ h))
 refine⟨λm=>⟨a,q,by rw[g.length,m];exact t7 _⟩,λd k=>?_⟩
 obtain⟨x,c,l⟩:=g.get k
 refine⟨⟨a,x,q,c⟩,λy H3 b=>?_⟩
 obtain⟨rfl,b⟩:=b
 have:=b a q
 rw[c]at this
 cases this
 exact⟨F2,.refl e,l.mono j⟩
def Ui {F:Hp}{p:Addr}{a:zy}{f:zk}(h:F p≈(.tup a))(g:aq F f a):nu (Jb K p) F f:=by
 intro i F2 H2 j e
 have q:aJ K H2 p a:=aJ.of (e _ _ (j _ _ h))
 refine⟨λm=>⟨a,q,by rw[g.length,m];exact t7 _⟩,λd k=>?_⟩
 obtain⟨x,c,l⟩:=g.get k
 refine⟨⟨a,x,q,c⟩,λy H3 b=>?_⟩
 obtain⟨rfl,b⟩:=b
 have:=b a q
 rw[c]at this
 cases this
 exact⟨F2,.refl e,l.mono j⟩
def bz (f:zU):yE:=λa=>(f a).bind vy
def Zg {f:zU}(k:ED X a f):ID X tg a (bz f):=by
 obtain⟨t,p,r⟩:=k
 refine⟨_,UJ p,λj n F H u R s o e q=>?_⟩
 obtain⟨d,l,m⟩:=u4.mp e
 refine r j n F H d _ s o l λF1 H1 v c i=>?_
 cases d <;> try cases m
 .obtain⟨p,g,rfl,b,h⟩:=i.tup_inv
  exact .inr ⟨p,rfl,⟨g,aJ.of (c.fh _ _ b)⟩,q F1 H1 _ c (Ui b h)⟩
 .obtain⟨p,g,rfl,b,h⟩:=i.lst_inv
  exact .inl ⟨p,rfl,⟨g,aK.of (c.fh _ _ b)⟩,q F1 H1 _ c (TX b h)⟩
def km (a:Int)(n:Nat):zk:=(List.range n).map λk:Nat=>.int (a+k)
def Ec (c:Int)(n:Nat):nu (qX c n) F (km c n):=by
 intro i F2 H2 j g
 have a:(km c n).length=n:=by unfold km;simp
 refine⟨λf=>by rw[a]at f;rw[f];exact t7 _,λd b=>?_⟩
 have e:i<n:=by
  have:=(j3.mp b).1
  omega
 refine⟨e,λy H3 h=>?_⟩
 obtain⟨rfl,rfl⟩:=h
 refine⟨F2,.refl g,?_⟩
 unfold km at b
 rw[k8,List.getElem?_range e]at b
 cases b
 exact .int
@[irreducible] def zo0 (j:Int):Bool:=decide (-(2^62)<=j/\j<2^62)
omit [KK] in
def vJ:zo0 j=true↔-(2^62)<=j/\j<2^62:=by unfold zo0;exact decide_eq_true_iff
def cA:fQ
 |[.int j]=>if zo0 j then some (km 0 j.toNat)else none
 |_=>none
def dg:fQ
 |[.int i,.int j]=>if zo0 i=true/\zo0 j then some (km i (j-i).toNat)else none
 |_=>none
def dq (g:fQ)(f:yE):yE:=λa=>(f a).bind g
def ziE {p:Pos} {f:yE} (h:Gl X "range") (i:X.mg "range"=none) (m:AD X [a] f) (g:starEach [a] X.env=[(false,eval a X.env)]:=by rfl):ID X tg (.Call (.Name "range" p) [a] [] pos) (dq cA f):=by
 obtain⟨t,w,r⟩:=m
 refine⟨_,QJ h i w g,λl y F H B R s z e q=>?_⟩
 obtain⟨d,n,b⟩:=u4.mp e
 refine r l y F H d _ s z n λF1 H1 v o k=>?_
 unfold cA at b
 split at b
 .split at b
  .cases b
   rename_i c
   obtain⟨x,A,rfl,j,u⟩:=k.cons_inv
   cases u.nil_inv
   exact⟨_,by rw[j.int_inv],(vJ.mp c).1,(vJ.mp c).2,q F1 H1 _ o (Ec 0 _)⟩
  .cases b
 .cases b
def zg1 {p:Pos} {f:yE} (k:Gl X "range") (A:X.mg "range"=none) (m:AD X [a,b] f) (z:starEach [a,b] X.env=[(false,eval a X.env),(false,eval b X.env)]:=by rfl) (i:starEach [b] X.env=[(false,eval b X.env)]:=by rfl) :
 ID X tg (.Call (.Name "range" p) [a,b] [] pos) (dq dg f):=by
 obtain⟨t,u,r⟩:=m
 refine⟨_,zhI k A u z i,λE o F H I R s w e q=>?_⟩
 obtain⟨d,G,c⟩:=u4.mp e
 refine r E o F H d _ s w G λF1 H1 v n C=>?_
 unfold dg at c
 split at c
 .split at c
  .cases c
   rename_i g
   obtain⟨x,j,rfl,l,h⟩:=C.cons_inv
   obtain⟨y,j,rfl,B,h⟩:=h.cons_inv
   cases h.nil_inv
   exact⟨_,_,by rw[l.int_inv,B.int_inv],⟨(vJ.mp g.1).1,(vJ.mp g.1).2,(vJ.mp g.2).1,(vJ.mp g.2).2⟩,q F1 H1 _ n (Ec _ _)⟩
  .cases c
 .cases c
def XW (n:Nat):zk->zk
 |[]=>[]
 |d::ds=>.tup [.int n,d]::XW (n+1) ds
omit [KK] in
def vr (a:zk):∀ (n i:Nat),(XW n a)[i]?=(a[i]?).map λd=>.tup [.int ((n+i:Nat):Int),d]:=by
 induction a with
 |nil=>intro n i;simp[XW]
 |cons d a b =>
  intro n i
  cases i with
  |zero=>simp[XW]
  |succ i =>
   show(XW (n+1) a)[i]?=(a[i]?).map _
   rw[b]
   have:n+1+i=n+(i+1):=by omega
   rw[this]
omit [KK] in
def xR (ds:zk):∀ n,(XW n ds).length=ds.length:=by
 induction ds with
 |nil=>intro n;rfl
 |cons d ds a=>intro n;simp[XW,a]
def wF (f:yE):yE:=λa=>(f a).bind λb=>match b with
 |[d]=>(vy d).map (XW 0)
 |_=>none
def Ex {k:Nat} {p:Pos} {f:yE} (I:Gl X "enumerate") (Q:X.mg "enumerate"=none) (Z:bootBuiltins "enumerate"≈(.type "enumerate")) (L:AD X [a] f) (P:starEach [a] X.env=[(false,eval a X.env)]:=by rfl):ID X (.Tuple G k K) (.Call (.Name "enumerate" p) [a] [] pos) (wF f):=by
 obtain⟨t,M,r⟩:=L
 refine⟨_,znw I Q Z M P,λU ρ F H ds R s O e q=>?_⟩
 obtain⟨W,V,C⟩:=u4.mp e
 refine r U ρ F H W _ s O V λF1 H1 v A S=>?_
 split at C
 .obtain⟨x,r',rfl,l,Y⟩:=S.cons_inv
  cases Y.nil_inv
  obtain⟨G,J,rfl⟩:=t4.mp C
  rename_i d
  cases d <;> try cases J
  .obtain⟨p,b,rfl,o,n⟩:=l.tup_inv
   refine⟨p,rfl,.inr ⟨b,aJ.of (A.fh _ _ o),q F1 H1 _ A λi F2 H2 z u=>?_⟩⟩
   have h:aJ X.K H2 p b:=aJ.of (u _ _ (z _ _ o))
   refine⟨λB=>⟨b,h,by rw[n.length,B,xR];exact t7 _⟩,λd m=>?_⟩
   rw[vr]at m
   obtain⟨N,j,rfl⟩:=t4.mp m
   obtain⟨x,c,l⟩:=n.get j
   refine⟨⟨b,x,h,c⟩,λy H3 g=>?_⟩
   obtain⟨T,y,rfl,E,rfl,g⟩:=g
   have:=g b h
   rw[c]at this
   cases this
   have w:=Gr.alloc u E (.tup [.int i,x])
   exact⟨_,w,.tup zl (.cons (by rw[l0];exact .int) (.cons (l.mono (z.trans w.ff)) .nil))⟩
  .obtain⟨p,b,rfl,o,n⟩:=l.lst_inv
   refine⟨p,rfl,.inl ⟨b,A.fh _ _ o,q F1 H1 _ A λi F2 H2 z u=>?_⟩⟩
   have h:aK X.K H2 p b:=aK.of (u _ _ (z _ _ o))
   refine⟨λB=>⟨b,h,by rw[n.length,B,xR];exact t7 _⟩,λd m=>?_⟩
   rw[vr]at m
   obtain⟨N,j,rfl⟩:=t4.mp m
   obtain⟨x,c,l⟩:=n.get j
   refine⟨⟨b,x,h,c⟩,λy H3 g=>?_⟩
   obtain⟨T,y,rfl,E,rfl,g⟩:=g
   have:=g b h
   rw[c]at this
   cases this
   have w:=Gr.alloc u E (.tup [.int i,x])
   exact⟨_,w,.tup zl (.cons (by rw[l0];exact .int) (.cons (l.mono (z.trans w.ff)) .nil))⟩
 .cases C
def bU (F1 Hb:Hp):Hp:=λp=>match F1 p with
 |some o=>some o
 |none=>Hb p
def Y7 {F1 Hb:Hp}{p:Addr}(h:F1 p=none):bU F1 Hb p=Hb p:=by unfold bU;rw[h]
def P0 {F1:Hp}{p:Addr}(h:F1 p≈o):bU F1 Hb p≈o:=by unfold bU;rw[h]
def Gr.up (a:Gr Fb Hb F1 H1)(g:Gr F1 (bU F1 Hb) F H):Gr Fb Hb F H:=by
 refine⟨a.ff.trans g.ff,g.fh,λp o d c=>?_⟩
 rcases(a.kp p o d c).1 with n|⟨e,b⟩
 .exact g.kp p o n (by rw[Y7 n];exact c)
 .exact⟨.inr ⟨e,g.ff _ _ b⟩,g.fh _ _ (g.ff _ _ b)⟩
def Gr.dn (g:Gr Fb Hb F H)(c:zS Fb F1)(s:zS F1 F):Gr F1 (bU F1 Hb) F H:=by
 refine⟨s,g.fh,λp o a b=>?_⟩
 rw[Y7 a]at b
 exact g.kp p o (c.free a) b
def Rl.up {c:SE}{f:St}(l:Gr Fb Hb F1 H1)(r:Rl F1 (bU F1 Hb) F H c f):Rl Fb Hb F H c f:=by
 have d:∀ {p:Addr},bU F1 Hb p=none->Hb p=none:=λ{p} e=>by
  cases h:F1 p with
  |none=>rw[Y7 h]at e;exact e
  |some o=>rw[P0 h]at e;cases e
 refine⟨l.up r.gr,r.vals,λi s e j=>?_,r.dis,r.len,r.dk.step (λ_ _ _ _ e=>⟨e,rfl⟩) (zS.refl _) λi w h z p x q y v u g b a n t m k=>⟨a,d n,t,m,k⟩⟩
 obtain⟨p,o,g,b,a⟩:=r.ows i s e j
 exact⟨p,o,g,d b,a⟩
def Rl.dn {d:SE}{f:St}(r:Rl Fb Hb F H d f)(n:zS Fb F1)(s:zS F1 F):Rl F1 (bU F1 Hb) F H d f:=by
 refine⟨r.gr.dn n s,r.vals,λi t e k=>?_,r.dis,r.len,r.dk.step (λ_ _ _ _ e=>⟨e,rfl⟩) (zS.refl _) λi w h z p x q y v u g c a b j m l=>⟨a,by rw[Y7 (s.free j)];exact b,j,m,l⟩⟩
 obtain⟨p,o,g,c,a,b⟩:=r.ows i t e k
 refine⟨p,o,g,?_,a,b⟩
 rw[Y7 (s.free a)]
 exact c
def dG (b:vA)(g:zD):zk->SE->bu
 |[],ρ=>.nx ρ
 |d::ds,ρ=>match b d ρ with
  |none=>.no
  |some c=>match g c with
   |.nx a=>dG b g ds a
   |.ct a=>dG b g ds a
   |.bk a=>.nx a
   |.rt d=>.rt d
   |.no=>.no
noncomputable def Wh (f:yE)(b:vA)(g:zD):zD:=λa=>match f (visF a) with
 |some c=>dG b g c a
 |none=>.no
def Lw {f:St}{E:VN}{J:It}{g:TG}{a:zk}{b:vA}(z:nu J F1 a)(U:RG g b)(Q:RS G u)(c:Rl Fb Hb F1 H1 h f)(k:mK Fb Hb E (dG b u a h)) :
 ∃ W:Nat->Nat->St->Hp->Prop,(∃ m,W 0 m f H1)/\∀ i m f H,W i m f H ->
  (J.stop i H/\E.nx f H)\/(J.go i H/\∃ N:Ya,(∀ r H',N r H'->∃ I,I<m/\W (i+1) I r H')/\∀ x H',J.yld i H x H'->g x f H' λq H2=>G { E with nx:=N,ct:=N,bk:=E.nx } q H2):=by
 refine⟨λi m f H=>m=a.length-i/\i<=a.length/\∃ F h,zS F1 F/\Rl Fb Hb F H h f/\mK Fb Hb E (dG b u (a.drop i) h),⟨a.length,by simp,cX _,F1,h,zS.refl _,c,k⟩,?_⟩
 rintro i m f H ⟨rfl,Y,F,h,C,y,k⟩
 obtain⟨s,R⟩:=z i F H C y.gr.fh
 by_cases n:i<a.length
 .have T:a.drop i=a[i]::a.drop (i+1):=i5 n
  rw[T]at k
  unfold dG at k
  obtain⟨V,O⟩:=R a[i] (by simp[n])
  refine .inr ⟨V,λf H=>∃ F h,zS F1 F/\Rl Fb Hb F H h f/\mK Fb Hb E (dG b u (a.drop (i+1)) h),λr H' w=>⟨a.length-(i+1),by omega,rfl,n,w⟩,λx H' M=>?_⟩
  obtain⟨F3,K,P⟩:=O x H' M
  cases B:b a[i] h with
  |none=>rw[B]at k;exact k.elim
  |some l =>
   rw[B]at k
   dsimp only at k
   refine U Fb Hb F3 H' h l f _ x _ (y.grow K) P B λq A=>?_
   have X:=C.trans K.ff
   refine Q F1 (bU F1 Hb) F3 H' l q _ (A.dn c.gr.ff X) ?_
   cases t:u l with
   |nx j=>rw[t]at k;exact λF4 H4 p o=>⟨F4,j,o.gr.ff,o.up c.gr,k⟩
   |ct j=>rw[t]at k;exact λF4 H4 p o=>⟨F4,j,o.gr.ff,o.up c.gr,k⟩
   |bk j=>rw[t]at k;exact λF4 H4 p o=>k F4 H4 p (o.up c.gr)
   |rt d=>rw[t]at k;exact λF4 H4 v S L=>k F4 H4 v (c.gr.up S) L
   |no=>rw[t]at k;exact k.elim
 .have e:i=a.length:=by omega
  subst e
  rw[mF]at k
  exact .inl ⟨s rfl,k F H f y⟩
def Dw {a:Expr}{c:vu}{f:yE}{b:vA}{g:zD}(s:PassesOwn (model X.prog X.w) X.A X.env X.xe)(v:X.calm=true)(l:ID X tg a f)(e:BD X tg b)(w:bM X c g)
 (o:∀ x,foldedSetIterable a X.env x=pure x:=by intro _;rfl):SD X (.For tg a c [] pos) (Wh f b g):=by
 obtain⟨A,y,i⟩:=l
 obtain⟨q,j,n⟩:=e
 obtain⟨B,r,p⟩:=w
 refine⟨_,ut s v y j r o,λFb Hb F H z u E d k=>?_⟩
 unfold Wh at k
 cases h:f (visF z) with
 |none=>rw[h]at k;exact k.elim
 |some t =>
  rw[h]at k
  exact i u _ _ H t _ d.gr.fh d.visF h λF1 H1 J m ok=>Lw ok n p (d.grow m) k
end
def fH (b:iD)(t:vz)(f:zU)(a:Ev):fQ
 |[]=>some []
 |d::ds=>(b d).bind λown=>(t (own++a)).bind λc=>if c then (f (own++a)).bind λy=>(fH b t f a ds).map (y::·)else fH b t f a ds
def aV (i:yE)(b:iD)(t:vz)(f:zU):yE:=λa=>(i a).bind λc=>if bI c.length then fH b t f a c else none
def b1:iD:=λd=>some [some d]
def b2:iD
 |.tup [x,y]=>some [some x,some y]
 |_=>none
def RB (n:Nat)(t:TG)(b:iD):Prop:=∀ (c:St) (e:Ev) (F H:Hp) (d:D) (v:V) (own:List (Option D)) (Q:Ya),zS F H->cJ F e c->At F d v->b d≈own->(∀ a,cJ F (own++e) a->Q a H)->t v (List.replicate n none++c) H Q
def xh:vz:=λ_=>some true
def Lk:RT qi xh:=λ_ _ _ _ _ _ s _ e q=>by cases e;exact q _ _ (.refl s)
def sW {g:TG}{tt:TT}(ri:RI wi fi)(rg:RB n g b)(rt:RT tt ft)(re:RE te Y) :
 RF (Bx wi n g tt te) (aV fi b ft Y):=by
 intro σ ρ F H N Q s va e q
 obtain⟨a,e1,M⟩:=u4.mp e
 split at M <;> try cases M
 rename_i B
 have B:a.length<=sizeLine:=k9 B
 refine ri σ ρ F H a _ s va e1 λF1 H1 J C ok=>?_
 intro P I
 have U:F1 P=none:=C.fh.free I
 have a1:H P=none:=by
  cases e:H P with
  |none=>rfl
  |some o =>
   cases M:F P with
   |none=>rw[(C.kp P o M e).2]at I;cases I
   |some u=>rw[C.fh _ _ (C.ff _ _ M)]at I;cases I
 refine⟨λi m L H2=>m=a.length-i/\i<=a.length/\∃ F2 done,Gr F1 H1 F2 H2/\Gr F1 (aA H1 P (.lst [])) F2 (aA H2 P (.lst []))/\F2 P=none/\H2 P≈(.lst L)/\aq F2 done L/\done.length<=i/\∃ c,fH b ft Y ρ (a.drop i)≈c/\done++c=N,⟨a.length,by simp,cX _,F1,[],Gr.hide C.fh I _,?_,U,zl,.nil,cX _,N,M,rfl⟩,?_⟩
 .rw[Mx]
  exact .refl λb u z=>by rw[zj (zf z U)];exact C.fh b u z
 rintro i m L H2 ⟨rfl,hi,F2,done,A,a4,E,G,V,a2,c,d,f⟩
 obtain⟨R,go⟩:=ok i F2 H2 A.ff A.fh
 by_cases t:i<a.length
 .have hd:a.drop i=a[i]::a.drop (i+1):=i5 t
  rw[hd]at d
  unfold fH at d
  obtain⟨own,hb,d⟩:=u4.mp d
  obtain⟨cb,hc,d⟩:=u4.mp d
  obtain⟨k1,k2⟩:=go a[i] (by simp[t])
  refine .inr ⟨k1,by rw[V.length];omega,λx H3 X=>?_⟩
  obtain⟨F3,W,a3⟩:=k2 x H3 X
  refine rg σ ρ F3 H3 a[i] x own _ W.fh (va.mono (C.ff.trans (A.ff.trans W.ff))) a3 hb λT O=>?_
  refine rt T _ F3 H3 cb _ W.fh O hc λF5 H5 Z=>?_
  have h:=W.trans Z
  obtain⟨n5,h5⟩:=h.kl (λ_ e=>by cases e) E G
  have k:∀ {F6 H6:Hp} {o:HO},Gr F2 H2 F6 H6->F6 P=none->Gr F1 (aA H1 P (.lst [])) F6 (aA (aA H6 P o) P (.lst [])):=λ{F6 H6 o} p w=>by
   rw[Mx]
   refine⟨A.ff.trans p.ff,λb u z=>?_,λb u z1 K=>?_⟩
   .rw[zj (zf z w)];exact p.fh b u z
   .by_cases j:b=P
    .subst j
     rw[zl]at K ⊢
     exact⟨.inl w,K⟩
    .rw[zj j]at K ⊢
     exact(A.trans p).kp b u z1 K
  have l:∀ {F6 H6:Hp} {o:HO},Gr F2 H2 F6 H6->F6 P=none->Gr F1 H1 F6 (aA H6 P o):=λ{F6 H6 o} p w=>by
   refine⟨A.ff.trans p.ff,λb u z=>?_,λb u z1 K=>?_⟩
   .rw[zj (zf z w)];exact p.fh b u z
   .rw[zj (zf K I)]
    exact(A.trans p).kp b u z1 K
  cases cb with
  |false =>
   rw[j4 u7]at d ⊢
   have S:H5=aA H5 P (.lst L):=by
    funext b
    by_cases j:b=P
    .subst j;rw[zl];exact h5
    .rw[zj j]
   refine⟨a.length-(i+1),by omega,rfl,t,F5,done,?_,?_,n5,h5,V.mono h.ff,by omega,c,d,f⟩
   .rw[S];exact l h n5
   .have:=k (o:=.lst L) h n5
    rw[<-S]at this
    exact this
  |true =>
   rw[q4 rfl]at d ⊢
   obtain⟨y,X,d⟩:=u4.mp d
   obtain⟨rest,a0,rfl⟩:=t4.mp d
   refine re T _ F5 H5 y _ Z.fh (O.mono Z.ff) X λF6 H6 v p a6=>?_
   have r:=h.trans p
   obtain⟨w,h6⟩:=r.kl (λ_ e=>by cases e) E G
   refine⟨h6,a.length-(i+1),by omega,rfl,t,F6,done++[y],l r w,k r w,w,zl,(V.mono r.ff).snoc a6,by rw[k7];simp;omega,rest,a0,by rw[<-f,pN];rfl⟩
 .have e:i=a.length:=by omega
  subst e
  rw[mF]at d
  cases d
  rw[r9]at f
  subst f
  exact .inl ⟨R rfl,q F2 H2 P L (C.trans A) a1 E G V⟩
def eV:RB 1 (VH 0) b1:=by
 intro f g F H d v own Q s c a e q
 cases e
 refine q _ λi b h=>?_
 cases i with
 |zero=>cases h;exact⟨v,rfl,a⟩
 |succ i=>exact c i b h
def qm (f:zU):TE:=λb H Q=>∃ a F d,zS F H/\cJ F a b/\f a≈d/\∀ F' H' v,Gr F H F' H'->At F' d v->Q v H'
def JB (f:vz):TT:=λb H Q=>∃ a F d,zS F H/\cJ F a b/\f a≈d/\∀ F' H',Gr F H F' H'->Q d H'
def ED.can {f:zU}(h:ED X e f):PE X e (qm f):=by
 obtain⟨t,p,r⟩:=h
 rintro a s b H Q I ⟨k,F,d,g,i,c,j⟩
 exact p a s b H Q I (r b k F H d Q g i c j)
def TD.can {f:vz}(h:TD X e f):PT X e (JB f):=by
 obtain⟨t,p,r⟩:=h
 rintro a s b H Q I ⟨k,F,d,g,i,c,j⟩
 exact p a s b H Q I (r b k F H d Q g i c j)
def um {f:zU}:RE (qm f) f:=λ_ g F _ d _ e a c b=>⟨g,F,d,e,a,c,b⟩
def Ks {f:vz}:RT (JB f) f:=λ_ g F _ d _ e a c b=>⟨g,F,d,e,a,c,b⟩
def lL {X:Cx}{L:zG}{g:TG}(r:X.calm=true)(S:xU X L M a i)(s:ID X j c n)(h:∀ (k:St) (v:V) (H:Hp) (Q:Ya),g v (List.replicate L.length none++k) H Q->g v (List.replicate L.length none++k) H (λd H2=>Xq (List.replicate L.length none++k) d/\Q d H2))(f:RB L.length g b)(p:∀ s₀ H₀ ex pn,PG (YY X L M a i s₀ H₀ ex pn) j g)(t:∀ s₀ H₀ ex pn,ED (YY X L M a i s₀ H₀ ex pn) e m)(o:∀ x,foldedSetIterable c X.env x=pure x:=by intro _;rfl):FL X (.ListComp e [⟨j,c,[],0⟩] a l) (aV n b xh m):=by
 obtain⟨w,u,q⟩:=s
 exact⟨_,KY r S u h p (λ_ _ _ _=>Oz) (λ_ _ _ _=>(t _ _ _ _).can) o,sW q f Lk um⟩
def TY {X:Cx}{d:Expr}{L:zG}{p:vz}{g:TG}(w:X.calm=true)(S:xU X L M a h)(s:ID X i d o)(k:∀ (l:St) (v:V) (H:Hp) (Q:Ya),g v (List.replicate L.length none++l) H Q->g v (List.replicate L.length none++l) H (λf H2=>Xq (List.replicate L.length none++l) f/\Q f H2))(j:RB L.length g b)(q:∀ s₀ H₀ ex pn,PG (YY X L M a h s₀ H₀ ex pn) i g)(t:∀ s₀ H₀ ex pn,TD (YY X L M a h s₀ H₀ ex pn) c p)(y:∀ s₀ H₀ ex pn,ED (YY X L M a h s₀ H₀ ex pn) e n)(u:∀ x,foldedSetIterable d X.env x=pure x:=by intro _;rfl):FL X (.ListComp e [⟨i,d,[c],0⟩] a m) (aV o b p n):=by
 obtain⟨A,z,r⟩:=s
 exact⟨_,KY w S z k q (λ_ _ _ _=>M8 (t _ _ _ _).can) (λ_ _ _ _=>(y _ _ _ _).can) u,sW r j Ks um⟩
def zpJ {t:TE}{f:yE}(r:RF t f):RE t (yc f):=by
 intro j l F H d Q s m e q
 obtain⟨i,k,rfl⟩:=t4.mp e
 refine r j l F H i Q s m k λF' H' p o g h0 a n c=>?_
 have h:=g.show h0 a n
 exact q _ _ _ h (At.lst zl (c.mono (λb u e=>by rw[zj (zf e a)];exact e)))
def qZ (X:Cx)(i:Nat)(a:Stmt)(f:yE):Prop:=∃ t,PS X a (kh t (VH i))/\RF t f
def Aa {f:yE}(e:qZ X i b f):SD X b (xa m i (yc f)):=by
 obtain⟨t,p,r⟩:=e
 refine⟨_,p,λFb Hb F H j l E a k=>?_⟩
 unfold xa at k
 cases h:aY m (yc f) j with
 |none=>rw[h]at k;exact k.elim
 |some d =>
  rw[h]at k
  exact(zpJ r).at a h λF' H' v g c=>k F' H' _ ((a.grow g).set c)
def uR {i:Nat}{d:Pos}{X:Cx}{L:zG}{f:Pos}{g:TG}(u:X.N.Nodup)(k:X.N[i]?≈x)(w:bY X.env.scope x)(E:X.calm=true)(S:xU X L M a o)(C:ID X j c r)(m:∀ (n:St) (v:V) (H:Hp) (Q:Ya),g v (List.replicate L.length none++n) H Q->g v (List.replicate L.length none++n) H (λh H2=>Xq (List.replicate L.length none++n) h/\Q h H2))(l:RB L.length g b)(A:∀ s₀ H₀ ex pn,PG (YY X L M a o s₀ H₀ ex pn) j g)(F:∀ s₀ H₀ ex pn,ED (YY X L M a o s₀ H₀ ex pn) e q)(t:∀ x,foldedSetIterable c X.env x=pure x:=by intro _;rfl)(p:swapsWith (.ListComp e [⟨j,c,[],0⟩] a f) (some (.Name x s)) d.line X.env=pure true:=by rfl)(y:X.fn x=true\/X.env.scope.names.lookup x≈.local:=by first|exact .inl rfl|exact .inr rfl|assumption):qZ X i (.Assign [.Name x s] (.ListComp e [⟨j,c,[],0⟩] a f) d) (aV r b xh q):=by
 obtain⟨G,z,B⟩:=C
 exact⟨_,KJ u k w E S z m A (λ_ _ _ _=>Oz) (λ_ _ _ _=>(F _ _ _ _).can) t p y,sW B l Lk um⟩
def zn5 {i:Nat}{t e:Pos}{X:Cx}{f d:Expr}{L:zG}{k:Vh}{g:TG}(C:X.N.Nodup)(m:X.N[i]?≈x)(E:bY X.env.scope x)(G:X.calm=true)(S:xU X L M a k)(z:ID X l d s)(p:∀ (q:St) (v:V) (H:Hp) (Q:Ya),g v (List.replicate L.length none++q) H Q->g v (List.replicate L.length none++q) H (λh H2=>Xq (List.replicate L.length none++q) h/\Q h H2))(n:RB L.length g b)(w:∀ s₀ H₀ ex pn,PG (YY X L M a k s₀ H₀ ex pn) l g)(A:∀ s₀ H₀ ex pn,TD (YY X L M a k s₀ H₀ ex pn) c u)(I:∀ s₀ H₀ ex pn,ED (YY X L M a k s₀ H₀ ex pn) f r)(B:∀ x,foldedSetIterable d X.env x=pure x:=by intro _;rfl)(o:swapsWith (.ListComp f [⟨l,d,[c],0⟩] a j) (some (.Name x t)) e.line X.env=pure true:=by rfl)(F:X.fn x=true\/X.env.scope.names.lookup x≈.local:=by first|exact .inl rfl|exact .inr rfl|assumption):qZ X i (.Assign [.Name x t] (.ListComp f [⟨l,d,[c],0⟩] a j) e) (aV s b u r):=by
 obtain⟨K,J,y⟩:=z
 exact⟨_,KJ C m E G S J p w (λ_ _ _ _=>M8 (A _ _ _ _).can) (λ_ _ _ _=>(I _ _ _ _).can) B o F,sW y n Ks um⟩
noncomputable def aH (n:Nat)(g:zD)(a:zk):Option D:=match g (a.map .v++List.replicate (n-a.length) .no) with
 |.rt d=>some d
 |.nx _=>some .non
 |_=>none
def bW (m:Nat)(p:wI):Sp:=λb H Q _=>∃ a d F,a.length=m/\zS F H/\aq F a b/\p a≈d/\∀ F' H' v,Gr F H F' H'->At F' d v->Q v H'
def We {N:zG}{b:zk}{k:zy}(s:zS F H)(a:aq F b k):Rl F H F H (b.map .v++List.replicate (N.length-b.length) .no) (L2.start N k):=by
 have l:=a.length
 have c:∀ (i:Nat) (t:Sl),(b.map Sl.v++List.replicate (N.length-b.length) Sl.no)[i]?≈t->t.isO=true->False:=λi t h f=>by
  by_cases g:i<b.length
  .rw[g6 (by simpa using g),k8]at h
   cases e:b[i]? with
   |none=>rw[e]at h;cases h
   |some d=>rw[e]at h;cases h;cases f
  .rw[g9 (by simpa using g),lY]at h
   split at h <;> cases h
   cases f
 refine⟨.refl s,λi d h=>?_,λi t h f=>(c i t h f).elim,λi j p t u h _ f=>(c i t h f).elim,?_,λi w h q e=>(c i _ e rfl).elim⟩
 .by_cases g:i<b.length
  .rw[g6 (by simpa using g),k8]at h
   cases e:b[i]? with
   |none=>rw[e]at h;cases h
   |some o =>
    rw[e]at h
    cases h
    obtain⟨x,n,m⟩:=a.get e
    refine⟨x,?_,m⟩
    unfold L2.start
    rw[g6 (by simpa [l]using g),k8,n]
    rfl
  .rw[g9 (by simpa using g),lY]at h
   split at h <;> cases h
 .unfold L2.start
  simp[l]
def Ws {w:World}{f:Addr}{N ps:zG}{k:Nat}{g:zD}(Fu:bQ K x b l f n)(S:yz N ps (zm l))(I:∀ (c:Value) (A:zN) (outer:List Env) (s:zn) (H:Hp) (E:XK),xc k (A.deeper (PyProof.Rows.envOfC b (zm l) s.heap.objs.size f c))->bM (vd aM P w K u i N b (zm l) f c A outer s H E).nox (ya l) g) :
 xt P w K u i aM (k+1) f n ps (bW ps.length (aH N.length g)):=by
 refine Fu.ok S (λB H Q E h=>?_) λc A outer s H B Q E D h=>?_
 .obtain⟨m,d,F,o,_,a,_⟩:=h
  rw[a.length];exact o
 .obtain⟨m,d,F,o,G,a,e,q⟩:=h
  obtain⟨t,p,r⟩:=I c A outer s H E D
  refine⟨t,p,r F H F H _ _ _ (We G a) ?_⟩
  unfold aH at e
  cases j:g (m.map .v++List.replicate (N.length-m.length) .no) with
  |rt J=>rw[j]at e;cases e;exact λF' H' v g C=>q F' H' v g C
  |nx y=>rw[j]at e;cases e;exact λF' H' L z=>q F' H' _ z.gr .non
  |bk y=>rw[j]at e;cases e
  |ct y=>rw[j]at e;cases e
  |no=>rw[j]at e;cases e
def vK {w:World}{f:Addr}{g:zG}{k:Nat}{p q:wI}(F:xt P w K e a aM k f c g (bW m p))(h:∀ b d,b.length=m->q b≈d->p b≈d):xt P w K e a aM k f c g (bW m q) :=
 F.imp λr H Q E ⟨b,d,F',i,j,n,l,o⟩=>⟨b,d,F',i,j,n,h b d i l,o⟩
def zq (m:Nat)(p:wI)(f:yE):zU:=fun ρ=>(f ρ).bind λds=>if ds.length=m then p ds else none
def zmp {X:Cx} {k:Nat} {f:Addr} {p:wI} (F:xt X.prog X.w X.K X.mg X.base aM k f n u (bW m p)) (N:xc k X.A) (I:Gl X x) (A:X.mg x≈(.ref f)) (K:W.keepIn X.K (.ref f)=true) (P:xx X.K n u []) (w:AD X (e::a) j) (i:(x == ("__debug__":Str))=false:=by decide) (O:starEach (e::a) X.env=(false,eval e X.env)::starEach a X.env:=by rfl) (h:(backTo b (starEach a X.env)).any (·.1)=false:=by rfl) :
 ED X (.Call (.Name x G) (e::a) [] b) (zq m p j):=by
 obtain⟨t,y,r⟩:=w
 refine⟨_,uL F N I A K P .nil gK y i O h,λB E F0 H d Q s z e q=>?_⟩
 obtain⟨l,C,c⟩:=u4.mp e
 split at c <;> try cases c
 rename_i J
 refine r B E F0 H l _ s z C λF1 H1 R o M=>?_
 refine⟨l,d,F1,J,o.fh,by rw[r9];exact M,c,λF' H' v g L=>q F' H' v (o.trans g) L⟩
end Dl
namespace Dl
open PySem L2
variable [KK]
section
variable {X:Cx}{a b c e:Expr}{pos:Pos}
def zL:bootBuiltins "isinstance"≈(.builtin "isinstance"):=by decide +kernel
def XO:bootBuiltins "len"≈(.builtin "len"):=by decide +kernel
def zo3:bootBuiltins "min"≈(.builtin "min"):=by decide +kernel
def Us:bootBuiltins "max"≈(.builtin "max"):=by decide +kernel
def Qx:bootBuiltins "sorted"≈(.builtin "sorted"):=by decide +kernel
def Sh:bootBuiltins "sum"≈(.builtin "sum"):=by decide +kernel
def Lf:bootBuiltins "all"≈(.builtin "all"):=by decide +kernel
def Dv:bootBuiltins "int"≈(.type "int"):=by decide +kernel
def Oe:bootBuiltins "bool"≈(.type "bool"):=by decide +kernel
def Fy:bootBuiltins "tuple"≈(.type "tuple"):=by decide +kernel
def uT:bootBuiltins "list"≈(.type "list"):=by decide +kernel
def Yx:bootBuiltins "str"≈(.type "str"):=by decide +kernel
def YA:bootBuiltins "enumerate"≈(.type "enumerate"):=by decide +kernel
def TV:bootBuiltins "zip"≈(.type "zip"):=by decide +kernel
def cN (C:Int->Int->Bool)(g:Int->Int->Int):xL
 |.int i,.int j=>if C i j then some (.int (g i j))else none
 |_,_=>none
def YS (g:Int->Int->Int):xL
 |.int i,.int j=>some (.int (g i j))
 |_,_=>none
def cM (g:Int->Int->Bool):xL
 |.int i,.int j=>some (.bl (g i j))
 |_,_=>none
def Fi {C:Int->Int->Prop}{Cb:Int->Int->Bool}{g:Int->Int->Int}(h:∀ i j,Cb i j=true->C i j):bh (rI C λi j=>.int (g i j)) (cN Cb g):=by
 intro F H x y d e z Q s c b a q
 cases d <;> try cases a
 cases e <;> try cases a
 unfold cN at a
 dsimp only at a
 split at a <;> cases a
 rename_i f
 exact⟨_,_,c.int_inv,b.int_inv,h _ _ f,q F H _ (.refl s) .int⟩
def Qz {g:Int->Int->Int}:bh (fX λi j=>.int (g i j)) (YS g):=by
 intro F H x y d e z Q s c b a q
 cases d <;> try cases a
 cases e <;> try cases a
 exact⟨_,_,c.int_inv,b.int_inv,q F H _ (.refl s) .int⟩
def wj {g:Int->Int->Bool}:bh (fX λi j=>.bl (g i j)) (cM g):=by
 intro F H x y d e z Q s c b a q
 cases d <;> try cases a
 cases e <;> try cases a
 exact⟨_,_,c.int_inv,b.int_inv,q F H _ (.refl s) .bl⟩
def oY {r c:R2}{g j:xL}(h:bh r g)(k:bh c j):bh (λx y H Q=>r x y H Q\/c x y H Q) (λd e=>(g d e).or (j d e)):=by
 intro F H x y d e z Q s i f a q
 dsimp only at a
 cases b:g d e with
 |some l=>rw[b]at a;cases a;exact .inl (h F H x y d e z Q s i f b q)
 |none=>rw[b]at a;exact .inr (k F H x y d e z Q s i f a q)
def nC:xL
 |.tup a,.tup b=>if bI (a.length+b.length) then some (.tup (a++b))else none
 |_,_=>none
def nq:D->D->Option zk
 |.lst a,.lst b=>if bI (a.length+b.length) then some (a++b)else none
 |_,_=>none
def nQ (d e:D):Option D:=(nq d e).map .lst
def mY:xL
 |.str a,.str b=>if bI (a.length+b.length) then some (.str (a++b))else none
 |_,_=>none
def zj5:bh (K5 K) nC:=by
 intro F H x y d e z Q s l k a q
 cases d <;> try cases a
 cases e <;> try cases a
 unfold nC at a
 dsimp only at a
 split at a <;> cases a
 rename_i m
 obtain⟨p,c,rfl,h,b⟩:=l.tup_inv
 obtain⟨j,i,rfl,f,bl⟩:=k.tup_inv
 refine⟨p,j,c,i,rfl,rfl,aJ.of (s _ _ h),aJ.of (s _ _ f),by rw[b.length,bl.length];exact k9 m,λn=>?_,λ_ o=>?_,λ_ _ r t=>?_⟩
 .subst n
  have:(_:zk)=[]:=qb.mp b.length.symm
  subst this
  exact q F H _ (.refl s) (.tup f bl)
 .subst o
  have:(_:zk)=[]:=qb.mp bl.length.symm
  subst this
  rw[r9]at q
  exact q F H _ (.refl s) (.tup h b)
 .have g:=Gr.alloc s t (.tup (c++i))
  exact q _ _ _ g (.tup zl ((b.append bl).mono g.ff))
def zkq:bh CV nQ:=by
 intro F H x y d e z Q s l j a q
 cases d <;> try cases a
 cases e <;> try cases a
 unfold nQ nq at a
 dsimp only at a
 split at a <;> cases a
 rename_i m
 obtain⟨p,b,rfl,k,c⟩:=l.lst_inv
 obtain⟨i,f,rfl,h,bl⟩:=j.lst_inv
 refine⟨p,i,b,f,rfl,rfl,s _ _ k,s _ _ h,by rw[c.length,bl.length];exact k9 m,λr n=>?_⟩
 have g:=Gr.alloc s n (.lst (b++f))
 exact q _ _ _ g (.lst zl ((c.append bl).mono g.ff))
def zkV:bh (λx y H Q=>∃ i j,x=.str i/\y=.str j/\i.length+j.length<=sizeLine/\Q (.str (i++j)) H) mY:=by
 intro F H x y d e z Q s c b a q
 cases d <;> try cases a
 cases e <;> try cases a
 unfold mY at a
 dsimp only at a
 split at a <;> cases a
 rename_i f
 exact⟨_,_,c.str_inv,b.str_inv,k9 f,q F H _ (.refl s) .str⟩
def yY:xL
 |.int i,.int j=>some (.int (i+j))
 |.tup a,.tup b=>if bI (a.length+b.length) then some (.tup (a++b))else none
 |.lst a,.lst b=>if bI (a.length+b.length) then some (.lst (a++b))else none
 |.str a,.str b=>if bI (a.length+b.length) then some (.str (a++b))else none
 |_,_=>none
def Es {g a:xL}(h:bh r g)(k:∀ d e z,a d e≈z->g d e≈z):bh r a:=λF H x y d e z Q s c b f q=>h F H x y d e z Q s c b (k d e z f) q
def vD {f:zU}(k:ED X a f)(l:ED X b h):ED X (.BinOp a .Add b pos) (ze yY f h) :=
 VW (((T9.or zkN).or ug).or ze0) (Es (oY (oY (oY (Qz (g:=λi j=>i+j)) zj5) zkq) zkV) λd e z h=>by
  cases d <;> try cases h
  all_goals cases e <;> try cases h
  .rfl
  .unfold yY at h;dsimp only at h;split at h <;> cases h;rename_i c;simp[YS,nC,c,nQ,nq,mY]
  .unfold yY at h;dsimp only at h;split at h <;> cases h;rename_i c;simp[YS,nC,c,nQ,nq,mY]
  .unfold yY at h;dsimp only at h;split at h <;> cases h;rename_i c;simp[YS,nC,c,nQ,nq,mY]) k l
def nG (g:D->D->Option zk)(f h:zU):yE:=λa=>(f a).bind λx=>(h a).bind λy=>g x y
def gH {H H1:Hp}{p:Addr}(b:Gr F H F1 H1)(a:H1 p=none):H p=none:=by
 cases e:H p with
 |none=>rfl
 |some o =>
  cases c:F p with
  |none=>rw[(b.kp p o c e).2]at a;cases a
  |some u=>rw[b.fh _ _ (b.ff _ _ c)]at a;cases a
def Vx (i j:Int):Bool:=decide ((-(2^64)<i/\i<2^64)\/(-(2^64)<j/\j<2^64))
def gk:D->D->Option zk
 |.lst a,.int k=>if -(2^63)<=k/\k<2^63/\bI (a.length*k.toNat) then some (List.replicate k.toNat a).flatten else none
 |_,_=>none
def sH (d e:D):Option D:=(gk d e).map .lst
def Z8:xL
 |.int i,.int j=>if Vx i j then some (.int (i*j))else none
 |.lst a,.int k=>if -(2^63)<=k/\k<2^63/\bI (a.length*k.toNat) then some (.lst (List.replicate k.toNat a).flatten)else none
 |_,_=>none
def zj2:bh qx sH:=by
 intro F H x y d e z Q s j h a q
 cases d <;> try cases a
 cases e <;> try cases a
 unfold sH gk at a
 dsimp only at a
 split at a <;> cases a
 rename_i b
 obtain⟨p,c,rfl,i,f⟩:=j.lst_inv
 refine⟨p,_,c,rfl,h.int_inv,s _ _ i,b.1,b.2.1,by rw[f.length];exact k9 b.2.2,λr l=>?_⟩
 rename_i m k
 have g:=Gr.alloc s l (.lst (List.replicate k.toNat c).flatten)
 exact q _ _ _ g (.lst zl ((f.rep _).mono g.ff))
def zo7 {f:zU}(l:ED X a f)(m:ED X b h):ED X (.BinOp a .Mult b pos) (ze Z8 f h) :=
 VW (Ug.or Ln) (Es (oY (Fi (Cb:=Vx) (g:=λi j=>i*j) λi j h=>by have k:=k9 (show decide ((-(2^64)<i/\i<2^64)\/(-(2^64)<j/\j<2^64))=true from h);exact k) zj2) λd e z h=>by
  cases d <;> try cases h
  all_goals cases e <;> try cases h
  .unfold Z8 at h;dsimp only at h;split at h <;> cases h;rename_i c;simp[cN,c]
  .unfold Z8 at h;dsimp only at h;split at h <;> cases h;rename_i c;show(sH _ _)=_;unfold sH gk;dsimp only;rw[q4 c];rfl) l m
def UT {f:zU}(w:ED X a f)(L:ED X b h):FL X (.BinOp a .Mult b pos) (nG gk f h):=by
 obtain⟨N,B,C⟩:=w
 obtain⟨O,I,E⟩:=L
 refine⟨_,oh Ln B I,λn o F H z Q s m e q=>?_⟩
 obtain⟨x,K,k⟩:=u4.mp e
 obtain⟨y,A,d⟩:=u4.mp k
 clear e k
 refine C n o F H x _ s m K λF1 H1 v g J=>?_
 refine E n o F1 H1 y _ g.fh (m.mono g.ff) A λF2 H2 u c M=>?_
 cases x <;> try cases d
 cases y <;> try cases d
 unfold gk at d
 dsimp only at d
 split at d <;> cases d
 rename_i i
 obtain⟨p,t,rfl,G,l⟩:=(J.mono c.ff).lst_inv
 refine⟨p,_,t,rfl,M.int_inv,c.fh _ _ G,i.1,i.2.1,by rw[l.length];exact k9 i.2.2,λr j=>?_⟩
 exact q _ _ _ _ ((g.trans c).trans (Gr.hide c.fh j _)) (gH (g.trans c) j) (c.fh.free j) zl (l.rep _)
def VM:=YS λi j=>i-j
def w6:=cN (λ_ j=>decide (0<j/\j<1606938044258990275541962092341162602522202993782792835301376)) λi j=>i/j
def Yj:=cN (λ_ j=>decide (0<j)) λi j=>i%j
def Tw {f:zU}(d:ED X a f)(c:ED X b h):ED X (.BinOp a .Sub b pos) (ze VM f h):=VW R8 Qz d c
def zjo:aP X (binaryOp .FloorDiv) (rI (λ_ j=>0<j/\j<1606938044258990275541962092341162602522202993782792835301376) λi j=>.int (i/j)):=HX λi j _ _ _ _ _ a q=>by
 have e:(0:Int)<j:=a.1
 have c:j<1606938044258990275541962092341162602522202993782792835301376:=a.2
 refine PyProof.Rows.floordiv_int ∅ (by rw[Int.fdiv_eq_ediv_of_nonneg i ∅];exact q) (.inl (PyProof.noPylong_of_log2 ?_))
 have h0:j.natAbs≠0:=by omega
 have b:j.natAbs<1606938044258990275541962092341162602522202993782792835301376:=by omega
 have d:j.natAbs.log2<200:=(Nat.log2_lt h0).mpr b
 omega
def zmF {f:zU}(d:ED X a f)(e:ED X b h):ED X (.BinOp a .FloorDiv b pos) (ze w6 f h):=VW zjo (Fi λ_ _ h=>by have c:=k9 h;exact c) d e
def zoJ {f:zU}(d:ED X a f)(e:ED X b h):ED X (.BinOp a .Mod b pos) (ze Yj f h):=VW zoC (Fi λ_ _ h=>by have c:=k9 h;exact c) d e
def cG:=cM λi j=>decide (i<j)
def cO:=cM λi j=>decide (i<=j)
def cH:=cM λi j=>decide (j<i)
def bO:=cM λi j=>decide (j<=i)
def Ip:D->D->Option Bool
 |.non,.non=>some true
 |.int i,.int j=>some (decide (i=j))
 |.bl i,.bl j=>some (decide (i=j))
 |.str i,.str j=>some (decide (i=j))
 |.non,.int _=>some false|.int _,.non=>some false|.non,.bl _=>some false|.bl _,.non=>some false|.non,.str _=>some false|.str _,.non=>some false
 |.int _,.str _=>some false|.str _,.int _=>some false|.bl _,.str _=>some false|.str _,.bl _=>some false
 |_,_=>none
def BP (d e:D):Option D:=(Ip d e).map .bl
def bG (d e:D):Option D:=(Ip d e).map λc=>.bl (!c)
def Lh:bh BJ BP:=by
 intro F H x y d e z Q s b a f q
 obtain⟨c,g,rfl⟩:=t4.mp f
 cases d <;> cases e <;> try cases g
 .cases b.non_inv;cases a.non_inv;exact⟨rfl,q F H _ (.refl s) .bl⟩
 .cases b.non_inv;cases a.bl_inv;exact⟨rfl,q F H _ (.refl s) .bl⟩
 .cases b.non_inv;cases a.int_inv;exact⟨rfl,q F H _ (.refl s) .bl⟩
 .cases b.non_inv;cases a.str_inv;exact⟨rfl,q F H _ (.refl s) .bl⟩
 .cases b.bl_inv;cases a.non_inv;exact⟨rfl,q F H _ (.refl s) .bl⟩
 .cases b.bl_inv;cases a.bl_inv;refine⟨rfl,?_⟩;rw[show ∀ i j:Bool,decide (V.bl i=V.bl j)=decide (i=j)from λi j=>by simp];exact q F H _ (.refl s) .bl
 .cases b.bl_inv;cases a.str_inv;exact⟨rfl,q F H _ (.refl s) .bl⟩
 .cases b.int_inv;cases a.non_inv;exact⟨rfl,q F H _ (.refl s) .bl⟩
 .cases b.int_inv;cases a.int_inv;refine⟨rfl,?_⟩;rw[show ∀ i j:Int,decide (V.int i=V.int j)=decide (i=j)from λi j=>by simp];exact q F H _ (.refl s) .bl
 .cases b.int_inv;cases a.str_inv;exact⟨rfl,q F H _ (.refl s) .bl⟩
 .cases b.str_inv;cases a.non_inv;exact⟨rfl,q F H _ (.refl s) .bl⟩
 .cases b.str_inv;cases a.bl_inv;exact⟨rfl,q F H _ (.refl s) .bl⟩
 .cases b.str_inv;cases a.int_inv;exact⟨rfl,q F H _ (.refl s) .bl⟩
 .cases b.str_inv;cases a.str_inv;refine⟨rfl,?_⟩;rw[show ∀ i j:Str,decide (V.str i=V.str j)=decide (i=j)from λi j=>by simp];exact q F H _ (.refl s) .bl
def oK:bh HS bG:=by
 intro F H x y d e z Q s j f k q
 obtain⟨c,l,rfl⟩:=t4.mp k
 have:=Lh F H x y d e (.bl c) (λv H'=>∃ b,v=.bl b/\Q (.bl (!b)) H') s j f (by unfold BP;rw[l];rfl) λF' H' v g a=>⟨c,a.bl_inv,q F' H' _ g .bl⟩
 obtain⟨h,b,m,i⟩:=this
 cases m
 exact⟨h,i⟩
def cU:xL
 |d,.non=>some (.bl (match d with|.non=>true|_=>false))
 |.bl a,.bl b=>some (.bl (a == b))
 |_,_=>none
def xA:xL
 |d,.non=>some (.bl (match d with|.non=>false|_=>true))
 |.bl a,.bl b=>some (.bl (!(a == b)))
 |_,_=>none
def Nk {d:D}(h:At F d x):decide (x=V.non)=(match d with|.non=>true|_=>false):=by
 cases d with
 |non=>cases h.non_inv;rfl
 |bl b=>cases h.bl_inv;rfl
 |int b=>cases h.int_inv;rfl
 |str b=>cases h.str_inv;rfl
 |tup e=>obtain⟨a,c,rfl,_⟩:=h.tup_inv;rfl
 |lst e=>obtain⟨a,c,rfl,_⟩:=h.lst_inv;rfl
 |scr e=>obtain⟨a,rfl,_⟩:=h.scr_inv;rfl
 |dct z t l k=>obtain⟨a,c,rfl,_⟩:=h.dct_inv;rfl
 |obj w d g=>obtain⟨p,i,q,j,f,c,rfl,_⟩:=h.obj_inv;rfl
def M3:bh (λx y H Q=>(y=.non/\Q (.bl (decide (x=.non))) H)\/∃ i j,x=.bl i/\y=.bl j/\Q (.bl (i == j)) H) cU:=by
 intro F H x y d e z Q s c b a q
 unfold cU at a
 split at a
 .cases a
  refine .inl ⟨b.non_inv,?_⟩
  rw[Nk c]
  have:=q F H _ (.refl s) .bl
  cases d <;> exact this
 .cases a
  exact .inr ⟨_,_,c.bl_inv,b.bl_inv,q F H _ (.refl s) .bl⟩
 .cases a
def ze9:bh (λx y H Q=>(y=.non/\Q (.bl (!decide (x=.non))) H)\/∃ i j,x=.bl i/\y=.bl j/\Q (.bl (!(i == j))) H) xA:=by
 intro F H x y d e z Q s c b a q
 unfold xA at a
 split at a
 .cases a
  refine .inl ⟨b.non_inv,?_⟩
  rw[Nk c]
  have:=q F H _ (.refl s) .bl
  cases d <;> exact this
 .cases a
  exact .inr ⟨_,_,c.bl_inv,b.bl_inv,q F H _ (.refl s) .bl⟩
 .cases a
def J9:aP X (compareOp .Is) (λx y H Q=>(y=.non/\Q (.bl (decide (x=.non))) H)\/∃ i j,x=.bl i/\y=.bl j/\Q (.bl (i == j)) H):=Ud.or zjj
def zis:aP X (compareOp .IsNot) (λx y H Q=>(y=.non/\Q (.bl (!decide (x=.non))) H)\/∃ i j,x=.bl i/\y=.bl j/\Q (.bl (!(i == j))) H):=znE.or zdu
def wE (g b:xL)(f h k:zU):zU:=λa=>(f a).bind λx=>(h a).bind λy=>((g x y).bind bC).bind λc=>if c then (k a).bind λz=>b y z else some (.bl false)
def Pb {t:R2}{g:xL}{f k:zU}(J:bh r g)(m:bh t A)(T:RE C f)(U:RE G h)(P:RE E k):RE (oN r t C G E) (wE g A f h k):=by
 intro o p F H z Q s l e q
 obtain⟨x,W,e⟩:=u4.mp e
 obtain⟨y,L,e⟩:=u4.mp e
 obtain⟨c,d,e⟩:=u4.mp e
 obtain⟨cd,d,O⟩:=u4.mp d
 cases ZH O
 refine T o p F H x _ s l W λF1 H1 v j V=>?_
 refine U o p F1 H1 y _ j.fh (l.mono j.ff) L λF2 H2 u i I=>?_
 refine J F2 H2 v u x y _ _ i.fh (V.mono i.ff) I d λF3 H3 w n N=>⟨c,N.bl_inv,?_⟩
 have a:=(j.trans i).trans n
 cases c with
 |true =>
  rw[q4 rfl]at e ⊢
  obtain⟨B,Y,M⟩:=u4.mp e
  refine P o p F3 H3 B _ n.fh (l.mono a.ff) Y λF4 H4 Z b K=>?_
  exact m F4 H4 u Z y B z Q b.fh (I.mono (n.ff.trans b.ff)) K M λF5 H5 X R S=>q F5 H5 X ((a.trans b).trans R) S
 |false =>
  rw[j4 u7]at e ⊢
  cases e
  exact q F3 H3 _ a .bl
def zjQ {d:CmpOp}{e:R2}{g:xL}{f k:zU}(w:aP X (compareOp l) r)(v:aP X (compareOp d) e)(q:bh r g)(i:bh e m)(s:ED X a f)(u:ED X b h)(t:ED X c k)(j:∀ {o p n:TE},PE X a o->PE X b p->PE X c n->PE X (.Compare a [l,d] [b,c] pos) (oN r e o p n)):ED X (.Compare a [l,d] [b,c] pos) (wE g m f h k) :=
 let ⟨_,pa,ra⟩:=s
 let ⟨_,pb,rb⟩:=u
 let ⟨_,pc,rc⟩:=t
 ⟨_,j pa pb pc,Pb q i ra rb rc⟩
def zjH {d:CmpOp}{e:R2}{g:xL}{f k:zU}(w:aP X (compareOp l) r)(v:aP X (compareOp d) e)(q:bh r g)(i:bh e m)(s:ED X a f)(u:ED X b h)(t:ED X c k)(j:∀ {o p n:TE},PE X a o->PE X b p->PE X c n->PT X (.Compare a [l,d] [b,c] pos) (jx (oN r e o p n))):TD X (.Compare a [l,d] [b,c] pos) (ao (wE g m f h k)) :=
 let ⟨_,pa,ra⟩:=s
 let ⟨_,pb,rb⟩:=u
 let ⟨_,pc,rc⟩:=t
 ⟨_,j pa pb pc,sy (Pb q i ra rb rc)⟩
def uh:zk->Option zB
 |[]=>some []
 |.int b::ds=>(uh ds).map (b::·)
 |_=>none
omit [KK] in
def Vl:∀ {b:zk} {a:zB},uh b≈a->b=a.map .int
 |[],a,h=>by cases h;rfl
 |d::b,a,h=>by
  cases d <;> try cases h
  obtain⟨e,c,rfl⟩:=t4.mp h
  rw[Vl c]
  rfl
def Ie:xL
 |.tup a,.tup b=>(uh a).bind λns=>(uh b).map λc=>.bl (HT.lexLe ns c)
 |_,_=>none
def znV:bh (qz K) Ie:=by
 intro F H x y d e z Q s c b a q
 cases d <;> try cases a
 cases e <;> try cases a
 obtain⟨ns,k,m⟩:=u4.mp a
 obtain⟨j,f,rfl⟩:=t4.mp m
 rw[Vl k]at c
 rw[Vl f]at b
 obtain⟨p,n,rfl,i,l⟩:=c.tup_inv
 obtain⟨h,o,rfl,g,bl⟩:=b.tup_inv
 cases l.of_ints
 cases bl.of_ints
 exact⟨p,h,ns,j,rfl,rfl,aJ.of (s _ _ i),aJ.of (s _ _ g),q F H _ (.refl s) .bl⟩
def ak:xL
 |.lst ds,.int i=>atI ds i
 |.tup ds,.int i=>atI ds i
 |.scr ns,.int i=>(atI ns i).map .int
 |_,_=>none
def aq.atI {c:zk}{a:zy}{d:D}(b:aq F c a)(h:L2.atI c i≈d):∃ x,L2.atI a i≈x/\At F d x:=by
 unfold L2.atI at h ⊢
 obtain⟨j,e,f⟩:=u4.mp h
 obtain⟨x,g,k⟩:=b.get f
 exact⟨x,by rw[b.length,e];exact g,k⟩
def UV:bh (Rf KK.K) ak:=by
 intro F H x y d e z Q s h l c q
 cases e <;> try (cases d <;> cases c)
 cases l.int_inv
 cases d with
 |lst m =>
  obtain⟨p,f,rfl,b,i⟩:=h.lst_inv
  obtain⟨v,a,g⟩:=i.atI c
  exact .inl ⟨p,f,_,v,rfl,rfl,aK.of (s _ _ b),a,q F H _ (.refl s) g⟩
 |tup m =>
  obtain⟨p,f,rfl,b,i⟩:=h.tup_inv
  obtain⟨v,a,g⟩:=i.atI c
  exact .inr (.inl ⟨p,f,_,v,rfl,rfl,aJ.of (s _ _ b),a,q F H _ (.refl s) g⟩)
 |scr ns =>
  obtain⟨p,rfl,b⟩:=h.scr_inv
  obtain⟨n,a,rfl⟩:=t4.mp c
  refine .inl ⟨p,ns.map V.int,_,.int n,rfl,rfl,s.seq b,?_,q F H _ (.refl s) .int⟩
  unfold L2.atI at a ⊢
  rw[u8]
  obtain⟨j,o,k⟩:=u4.mp a
  rw[o]
  show(ns.map V.int)[j]?=_
  rw[k8,k]
  rfl
 |_=>cases c
def yk {f:zU}(d:ED X a f)(c:ED X b h)(e:Xx b)(g:X.K=KK.K:=by rfl):ED X (.Subscript a b pos) (ze ak f h) :=
 let ⟨_,pa,ra⟩:=d
 let ⟨_,pb,rb⟩:=c
 ⟨_,tD zp6 pa pb e,nY (by rw[g];exact UV) ra rb⟩
def VI {c:Type}(a:List c)(b d:yG):List c:=(a.drop (HT.sIx a.length 0 b)).take (HT.sIx a.length a.length d-HT.sIx a.length 0 b)
def aq.cut {c:zk}{a:zy}(b:aq F c a):aq F (VI c lo hi) (dj a lo hi):=by
 unfold VI dj
 rw[b.length]
 exact(b.drop _).take _
def OD (X:Cx)(e:Option Expr)(f:Ev->Option yG):Prop:=∃ t,PO X e t/\∀ (a:St) (b:Ev) (F H:Hp) (i:yG) (Q:yG->Hp->Prop),zS F H->cJ F b a->f b≈i->(∀ F' H',Gr F H F' H'->Q i H')->t a H Q
def vb:Ev->Option yG:=λ_=>some none
def eE:D->yG
 |.int i=>some i
 |_=>none
def wD (f:zU):Ev->Option yG:=λa=>((f a).bind eE).map some
def uY:OD X none vb:=⟨_,zmD,λ_ _ _ _ _ _ s _ e q=>by cases e;exact q _ _ (.refl s)⟩
def uP {f:zU}(h:ED X e f):OD X (some e) (wD f):=by
 obtain⟨t,p,r⟩:=h
 refine⟨_,znv p,λc l F H i Q s m e q=>?_⟩
 obtain⟨j,a,rfl⟩:=t4.mp e
 obtain⟨d,a,k⟩:=u4.mp a
 cases d <;> cases k
 exact r c l F H _ _ s m a λF1 H1 v g b=>⟨_,b.int_inv,q F1 H1 g⟩
def eU:D->yG->yG->Option D
 |.lst ds,lo,hi=>some (.lst (VI ds lo hi))
 |.scr ns,lo,hi=>some (.lst ((VI ns lo hi).map .int))
 |.tup ds,lo,hi=>some (.tup (VI ds lo hi))
 |_,_,_=>none
def bK (g:D->yG->yG->Option D)(f:zU)(l h:Ev->Option yG):zU:=λa=>(f a).bind λd=>(l a).bind λb=>(h a).bind λc=>g d b c
omit [KK] in
def zjz {ns:zB}{a b:yG}:dj (ns.map V.int) a b=(VI ns a b).map V.int:=by
 unfold dj VI
 rw[u8,List.map_take,List.map_drop]
end
end Dl
namespace L2
open PySem PySem.Spec PyProof.Rows
def HQ:V->yG->yG->Hp->VK->Prop:=λx c d H Q=>∃ a b,x=.ref a/\H a≈(.tup b)/\(dj b c d=b->Q (.ref a) H)/\∀ p,H p=none->Q (.ref p) (aA H p (.tup (dj b c d)))
def zm2:jf X HQ:=by
 intro d s o H x v t n g l p Q I j f pl k h
 obtain⟨a,b,rfl,i,u,q⟩:=h
 by_cases hw:HT.sIx b.length 0 g=0/\HT.sIx b.length b.length l=b.length
 .cases j
  obtain⟨e,r,m,w⟩:=I.tuple (aJ.of i)
  have c:e.toArray.size=b.length:=by rw[t9];exact r.length.symm
  refine⟨"tuple",_,p8.lookup,m.typeIs,?_⟩
  refine HT.own_getItem_whole m f pl k (by rw[c];exact hw) ⟨.ref a,H,I,rfl,u ?_⟩
  unfold dj
  rw[hw.1,hw.2,Gh,Nat.sub_zero,pJ]
 .exact zo1 d s o H (.ref a) v t n g l p Q I j f pl k ⟨a,b,rfl,aJ.of i,hw,q⟩
end L2
namespace Dl
open PySem L2
variable [KK]
section
variable {X:Cx}{a b c e:Expr}{pos:Pos}
def Wc {w:Option Expr}{f:zU}(M:ED X a f)(L:OD X w l)(R:OD X y h)(P:X.K=KK.K:=by rfl):ED X (.Subscript a (.Slice w y none K) pos) (bK eU f l h):=by
 obtain⟨Z,O,S⟩:=M
 obtain⟨tl,x,G⟩:=L
 obtain⟨th,Y,T⟩:=R
 refine⟨_,zjk (zns.or zm2) O x Y,λC E F H z Q s B e q=>?_⟩
 obtain⟨d,W,e⟩:=u4.mp e
 obtain⟨i,N,e⟩:=u4.mp e
 obtain⟨j,J,e⟩:=u4.mp e
 refine S C E F H d _ s B W λF1 H1 v t U=>?_
 refine G C E F1 H1 i _ t.fh (B.mono t.ff) N λF2 H2 o=>?_
 refine T C E F2 H2 j _ o.fh (B.mono (t.ff.trans o.ff)) J λF3 H3 c=>?_
 have b:=(t.trans o).trans c
 have A:=U.mono (o.ff.trans c.ff)
 cases d <;> try cases e
 .obtain⟨p,m,rfl,k,u⟩:=A.tup_inv
  refine .inr ⟨p,m,rfl,c.fh _ _ k,λI=>?_,λr n=>?_⟩
  .have:=u.cut (lo:=i) (hi:=j)
   rw[I]at this
   exact q F3 H3 _ b (.tup k this)
  .have g:=Gr.alloc c.fh n (.tup (dj m i j))
   exact q _ _ _ (b.trans g) (.tup zl (u.cut.mono g.ff))
 .obtain⟨p,m,rfl,k,u⟩:=A.lst_inv
  refine .inl ⟨p,m,rfl,aK.of (c.fh _ _ k),λr n=>?_⟩
  have g:=Gr.alloc c.fh n (.lst (dj m i j))
  exact q _ _ _ (b.trans g) (.lst zl (u.cut.mono g.ff))
 .rename_i ns _ _
  obtain⟨p,rfl,k⟩:=A.scr_inv
  refine .inl ⟨p,_,rfl,(by rw[P];exact c.fh.seq k),λr n=>?_⟩
  rw[zjz]
  have g:=Gr.alloc c.fh n (.lst ((VI ns i j).map V.int))
  exact q _ _ _ (b.trans g) (.lst zl (.ints _))
def eG (r:lB)(g:wI):Prop:=∀ (F H:Hp) (b:zy) (a:zk) (z:D) (Q:VK),zS F H->aq F a b->g a≈z->(∀ F' H' v,Gr F H F' H'->At F' z v->Q v H')->r b H Q
def aG (g:wI)(f:yE):zU:=λa=>(f a).bind g
def bJ (g:fQ)(f:yE):yE:=λa=>(f a).bind g
def xp {x:Str}{id:String}{p:Pos}{a:yO}{r:lB}{g:wI}{f:yE}(G:v5 X (.builtin id) r)(j:eG r g)(c:Gl X x)(y:X.mg x=none)(A:bootBuiltins x≈(.builtin id))(l:AD X (e::a) f)
 (I:x≠"__name__":=by decide) (d:(x == ("__debug__":Str))=false:=by decide) (J:starEach (e::a) X.env=(false,eval e X.env)::starEach a X.env:=by rfl) (b:(backTo pos (starEach a X.env)).any (·.1)=false:=by rfl) :
 ED X (.Call (.Name x p) (e::a) [] pos) (aG g f):=by
 obtain⟨t,n,w⟩:=l
 refine⟨_,yy G c y A n I d J b,λC K F H z Q s o e q=>?_⟩
 obtain⟨i,E,m⟩:=u4.mp e
 refine w C K F H i _ s o E λF1 H1 k h B=>?_
 exact j F1 H1 k i z Q h.fh B m λF' H' v g u=>q F' H' v (h.trans g) u
def xD {p:Pos} {a:yO} {g:wI} {f:yE} (G:v5 X (.type T) r) (j:eG r g) (c:Gl X x) (y:X.mg x=none) (A:bootBuiltins x≈(.type T)) (l:AD X (e::a) f) (I:x≠"__name__":=by decide) (d:(x == ("__debug__":Str))=false:=by decide) (J:starEach (e::a) X.env=(false,eval e X.env)::starEach a X.env:=by rfl) (b:(backTo pos (starEach a X.env)).any (·.1)=false:=by rfl) :
 ED X (.Call (.Name x p) (e::a) [] pos) (aG g f):=by
 obtain⟨t,n,w⟩:=l
 refine⟨_,Qj G c y A n I d J b,λC K F H z Q s o e q=>?_⟩
 obtain⟨i,E,m⟩:=u4.mp e
 refine w C K F H i _ s o E λF1 H1 k h B=>?_
 exact j F1 H1 k i z Q h.fh B m λF' H' v g u=>q F' H' v (h.trans g) u
def Xb:wI
 |[.lst ds]=>some (.int ds.length)
 |[.tup ds]=>some (.int ds.length)
 |[.scr ds]=>some (.int ds.length)
 |_=>none
def Xt:eG (λa H Q=>∃ p d,a=[.ref p]/\(aK KK.K H p d\/aJ KK.K H p d)/\Q (.int d.length) H) Xb:=by
 intro F H i h z Q s f e q
 unfold Xb at e
 split at e <;> cases e
 all_goals
  obtain⟨x,r,rfl,c,g⟩:=f.cons_inv
  cases g.nil_inv
 .obtain⟨p,a,rfl,b,bl⟩:=c.lst_inv
  exact⟨p,a,rfl,.inl (aK.of (s _ _ b)),by rw[bl.length];exact q F H _ (.refl s) .int⟩
 .obtain⟨p,a,rfl,b,bl⟩:=c.tup_inv
  exact⟨p,a,rfl,.inr (aJ.of (s _ _ b)),by rw[bl.length];exact q F H _ (.refl s) .int⟩
 .obtain⟨p,rfl,b⟩:=c.scr_inv
  exact⟨p,_,rfl,.inl ((s.seq b)),by rw[u8];exact q F H _ (.refl s) .int⟩
def lD:wI
 |[.int i,.int j]=>some (.int (if j>i then j else i))
 |_=>none
def tG:wI
 |[.int i,.int j]=>some (.int (if j<i then j else i))
 |_=>none
def O3 {g:Int->Int->Int}:eG (λc H Q=>∃ i j,c=[.int i,.int j]/\Q (.int (g i j)) H) (λb=>match b with|[.int i,.int j]=>some (.int (g i j))|_=>none):=by
 intro F H k b z Q s h e q
 dsimp only at e
 split at e <;> cases e
 obtain⟨x,r,rfl,f,a⟩:=h.cons_inv
 obtain⟨y,r,rfl,d,a⟩:=a.cons_inv
 cases a.nil_inv
 exact⟨_,_,by rw[f.int_inv,d.int_inv],q F H _ (.refl s) .int⟩
def zkW:eG (λa H Q=>∃ i j,a=[.int i,.int j]/\Q (.int (if j>i then j else i)) H) lD:=O3 (g:=λi j=>if j>i then j else i)
def zkz:eG (λa H Q=>∃ i j,a=[.int i,.int j]/\Q (.int (if j<i then j else i)) H) tG:=O3 (g:=λi j=>if j<i then j else i)
def xw:wI
 |[.lst ds]=>some (.tup ds)
 |[.tup ds]=>some (.tup ds)
 |_=>none
def zgB:eG (λa H Q=>∃ p c,a=[.ref p]/\((aK K H p c/\∀ l,H l=none->Q (.ref l) (aA H l (.tup c)))\/(aJ K H p c/\Q (.ref p) H))) xw:=by
 intro F H k j z Q s h e q
 unfold xw at e
 split at e <;> cases e
 all_goals
  obtain⟨x,r,rfl,d,i⟩:=h.cons_inv
  cases i.nil_inv
 .obtain⟨p,a,rfl,b,bl⟩:=d.lst_inv
  refine⟨p,a,rfl,.inl ⟨aK.of (s _ _ b),λl f=>?_⟩⟩
  have g:=Gr.alloc s f (.tup a)
  exact q _ _ _ g (.tup zl (bl.mono g.ff))
 .obtain⟨p,a,rfl,b,bl⟩:=d.tup_inv
  exact⟨p,a,rfl,.inr ⟨aJ.of (s _ _ b),q F H _ (.refl s) (.tup b bl)⟩⟩
def vX:fQ
 |[.lst ds]=>some ds
 |[.tup ds]=>some ds
 |[.scr ns]=>some (ns.map .int)
 |_=>none
def znC {p:Pos} {f:yE} (j:Gl X "list") (v:X.mg "list"=none) (k:AD X [e] f) (o:X.K=KK.K:=by rfl)
 (C:starEach [e] X.env=(false,eval e X.env)::starEach [] X.env:=by rfl) (i:(backTo pos (starEach [] X.env)).any (·.1)=false:=by rfl):FL X (.Call (.Name "list" p) [e] [] pos) (bJ vX f):=by
 obtain⟨t,m,u⟩:=k
 refine⟨_,Qj zcj j v uT m ⋯ ⋯ C i,λA G F H z Q s n e q=>?_⟩
 obtain⟨y,B,h⟩:=u4.mp e
 refine u A G F H y _ s n B λF1 H1 I a w=>?_
 unfold vX at h
 split at h <;> cases h
 all_goals
  obtain⟨x,r,rfl,g,E⟩:=w.cons_inv
  cases E.nil_inv
 .obtain⟨p,d,rfl,c,bl⟩:=g.lst_inv
  exact⟨p,d,rfl,.inl (aK.of (a.fh _ _ c)),λl b=>q _ _ _ _ (a.trans (Gr.hide a.fh b _)) (gH a b) (a.fh.free b) zl bl⟩
 .obtain⟨p,d,rfl,c,bl⟩:=g.tup_inv
  exact⟨p,d,rfl,.inr (aJ.of (a.fh _ _ c)),λl b=>q _ _ _ _ (a.trans (Gr.hide a.fh b _)) (gH a b) (a.fh.free b) zl bl⟩
 .obtain⟨p,rfl,c⟩:=g.scr_inv
  exact⟨p,_,rfl,.inl (by rw[o];exact a.fh.seq c),λl b=>q _ _ _ _ (a.trans (Gr.hide a.fh b _)) (gH a b) (a.fh.free b) zl (.ints _)⟩
inductive BR (K:zx) (H:Hp):V->Value->Prop where
 |of {v:V} {t:Value} (h:dF K H v t):BR K H v t
 | dd {a:Addr} {u:HO} (h:Rd H a u) (d:(∃ kvs,u=.dK kvs)\/∃ kvs,u=.dT kvs):BR K H (.ref a) (.type "dict")
def zcN {X:Cx}:v5 X (.builtin "isinstance") (λg H Q=>∃ x n t b,g=[x,.ty n]/\BR X.K H x t/\W.kitOne X.K t (.type n)≈b/\Q (.bl b) H):=by
 intro f s C H g B Q I r h
 obtain⟨x,n,t,b,rfl,ty,e,q⟩:=h
 cases ty with
 |of ty=>exact zdP f s C H _ B Q I r ⟨x,n,t,b,rfl,ty,e,q⟩
 | @dd a u h d =>
  cases r with
  |cons v A =>
   cases A with
   |cons l y =>
    cases y
    cases v
    cases l
    have ok:=h.ok I.hok
    rcases d with ⟨c,rfl⟩|⟨c,rfl⟩
    .obtain⟨_,_,D,_,p⟩:=(show yM X.prog X.w H s.heap a (.dK c)from ok)
     obtain⟨o,m,w,k,j,_⟩:=p
     exact l8 Ba I.kIn ⟨o,k,j.1⟩ e (λz=>nomatch z) λi=>⟨.bl b,H,I.tok i,rfl,q⟩
    .obtain⟨_,_,g,_,o,m,w,k,j,_⟩:=(show yM X.prog X.w H s.heap a (.dT c)from ok)
     exact l8 Ba I.kIn ⟨o,k,j.1⟩ e (λz=>nomatch z) λi=>⟨.bl b,H,I.tok i,rfl,q⟩
def At.ty (s:zS F H):∀ {d:D} {v:V},At F d v->(∀ ns,d≠.scr ns)->(∀ w e g,d≠.obj w e g)->BR K H v (.type (Q9 d))
 |.non,_,h,_,_=>by cases h.non_inv;exact .of .non
 |.bl b,_,h,_,_=>by cases h.bl_inv;exact .of (.bl b)
 |.int i,_,h,_,_=>by cases h.int_inv;exact .of (.int i)
 |.str x,_,h,_,_=>by cases h.str_inv;exact .of (.str x)
 |.tup ds,_,h,_,_=>by obtain⟨a,j,rfl,e,_⟩:=h.tup_inv;exact .of (.tup (s _ _ e))
 |.lst ds,_,h,_,_=>by obtain⟨a,j,rfl,e,_⟩:=h.lst_inv;exact .of (.lst (s _ _ e))
 |.scr ns,_,_,n,_=>absurd rfl (n ns)
 |.obj w e g,_,_,_,n=>absurd rfl (n w e g)
 |.dct z t ks vs,_,h,_,_=>by
  obtain⟨a,j,rfl,d,_⟩:=h.dct_inv
  obtain⟨u,f,k⟩:=(d.mono s).rd
  exact .dd k (by
   unfold cR at f
   split at f
   .obtain⟨c,rfl,_⟩:=f;exact .inr ⟨c,rfl⟩
   .obtain⟨c,rfl,_⟩:=f;exact .inl ⟨c,rfl⟩)
inductive Ty where
 |int|bool|tuple|list|str
def Ty.nm:Ty->String
 | .int=>"int" | .bool=>"bool" | .tuple=>"tuple" | .list=>"list" | .str=>"str"
def dB:Ty->D->Bool
 |.int,.int _=>true|.int,.bl _=>true
 |.bool,.bl _=>true
 |.tuple,.tup _=>true
 |.list,.lst _=>true
 |.str,.str _=>true
 |_,_=>false
def yZ (n:Ty):D->Option D
 |.scr _=>none
 |.obj _ _ _=>none
 |d=>some (.bl (dB n d))
def Uq (K:zx)(n:Ty)(d:D)(h:∀ ns,d≠.scr ns)(b:∀ w e a,d≠.obj w e a):W.kitOne K (.type (Q9 d)) (.type n.nm)≈(dB n d):=by
 cases n <;> cases d <;> first|exact absurd rfl (h _)|exact absurd rfl (b _ _ _)|kernel_rfl
def vZ {p:Pos} {f:zU} (n:Ty) (i:Gl X "isinstance") (A:X.mg "isinstance"=none) (r:ED X a f) (G:PE X b (tC (.ty n.nm)))
 (l:starEach [a,b] X.env=(false,eval a X.env)::starEach [b] X.env:=by rfl) (j:starEach [b] X.env=(false,eval b X.env)::starEach [] X.env:=by rfl) (g:(backTo pos (starEach [b] X.env)).any (·.1)=false:=by rfl) :
 ED X (.Call (.Name "isinstance" p) [a,b] [] pos) (aF (yZ n) f):=by
 obtain⟨t,u,y⟩:=r
 refine⟨_,yy zcN i A zL (zo u (zo G z3 j) l) ⋯ ⋯ l g,λC I F H z Q s x e q=>?_⟩
 obtain⟨d,E,c⟩:=u4.mp e
 refine y C I F H d _ s x E λF1 H1 v k B=>?_
 have ns:∀ ns,d≠.scr ns:=λns h=>by subst h;cases c
 have no:∀ w e m,d≠.obj w e m:=λw e m h=>by subst h;cases c
 have o:z=.bl (dB n d):=by
  cases d <;> first|exact(g0 c).symm|exact absurd rfl (ns _)|exact absurd rfl (no _ _ _)
 subst o
 exact⟨v,n.nm,_,_,rfl,B.ty k.fh ns no,Uq _ n d ns no,q F1 H1 _ k .bl⟩
def bV (m:Bool)(i:Nat)(f:zU):zD:=λb=>match (aY m f b).bind λd=>match b[i]? with
 |some (.o ds)=>if decide (ds.length<sizeLine) then some (b.set i (.o (ds++[d])))else none
 |_=>none with
 |some a=>.nx a
 |none=>.no
def Kl {p b:Pos} {f:zU} (J:PE X a (Zh i)) (S:ED X e f) (N:∀ {B:TE} {t:TA},PE X a B->PA X [e] t->PE X (.Call (.Attribute a "append" p) [e] [] b) (ig X.K "list" Ek B t)) (A:swapsWith (.Call (.Attribute a "append" p) [e] [] b) none pos.line X.env=pure false:=by rfl) (j:starEach [e] X.env=(false,eval e X.env)::starEach [] X.env:=by rfl):SD X (.Expr (.Call (.Attribute a "append" p) [e] [] b) pos) (bV m i f):=by
 obtain⟨t,I,C⟩:=S
 refine⟨_,Xd (N J (zo I z3 j)) A,λFb Hb F H u O E w k=>?_⟩
 unfold bV at k
 cases h:(aY m f u).bind λd=>match u[i]? with
  |some (.o s)=>if decide (s.length<sizeLine) then some (u.set i (.o (s++[d])))else none
  |_=>none with
 |none=>rw[h]at k;exact k.elim
 |some L =>
  rw[h]at k
  obtain⟨d,P,c⟩:=u4.mp h
  cases j:u[i]? with
  |none=>rw[j]at c;cases c
  |some R =>
   rw[j]at c
   cases R with
   |no=>cases c
   |v _=>cases c
   |m _ _ _=>cases c
   |k _ _ _=>cases c
   |o s =>
    dsimp only at c
    split at c <;> cases c
    rename_i K
    obtain⟨q,G,x,V,W,Q,T⟩:=w.owns i s j
    refine⟨_,x,.inl ⟨rfl,G,aK.of Q⟩,?_⟩
    refine C.at w P λF' H' v g M=>?_
    have l:=w.grow g
    obtain⟨U,y,n,_,_,z,r⟩:=l.owns i s j
    rw[x]at n
    cases n
    refine⟨q,y,v,rfl,rfl,z,by rw[r.length];exact k9 K,?_⟩
    exact k _ _ O (l.mutate j x (r.snoc M))
def du (i:Nat)(f:zU):zD:=λb=>match (f (visF b)).bind λd=>match b[i]?,d with
 |some (.o ds),.lst es=>if bI (ds.length+es.length) then some (b.set i (.o (ds++es)))else none
 |_,_=>none with
 |some a=>.nx a
 |none=>.no
def Ss {p b:Pos} {f:zU} (L:PE X a (Zh i)) (V:ED X e f) (R:∀ {C:TE} {t:TA},PE X a C->PA X [e] t->PE X (.Call (.Attribute a "extend" p) [e] [] b) (ig X.K "list" LQ C t)) (B:swapsWith (.Call (.Attribute a "extend" p) [e] [] b) none pos.line X.env=pure false:=by rfl) (j:starEach [e] X.env=(false,eval e X.env)::starEach [] X.env:=by rfl):SD X (.Expr (.Call (.Attribute a "extend" p) [e] [] b) pos) (du i f):=by
 obtain⟨t,K,I⟩:=V
 refine⟨_,Xd (R L (zo K z3 j)) B,λFb Hb F H w G E u k=>?_⟩
 unfold du at k
 cases h:(f (visF w)).bind λd=>match w[i]?,d with
  |some (.o s),.lst y=>if bI (s.length+y.length) then some (w.set i (.o (s++y)))else none
  |_,_=>none with
 |none=>rw[h]at k;exact k.elim
 |some O =>
  rw[h]at k
  obtain⟨d,S,c⟩:=u4.mp h
  cases j:w[i]? with
  |none=>rw[j]at c;cases c
  |some U =>
   rw[j]at c
   cases U with
   |no=>cases c
   |v _=>cases c
   |m _ _ _=>cases c
   |k _ _ _=>cases c
   |o s =>
    cases d with
    |lst y =>
     dsimp only at c
     split at c <;> cases c
     rename_i N
     obtain⟨q,J,x,Z,f3,T,W⟩:=u.owns i s j
     refine⟨_,x,.inl ⟨rfl,J,aK.of T⟩,?_⟩
     refine I G _ _ H _ _ u.gr.fh u.visF S λF' H' v g P=>?_
     have l:=u.grow g
     obtain⟨Y,z,n,_,_,A,r⟩:=l.owns i s j
     rw[x]at n
     cases n
     obtain⟨Q,zs,rfl,M,bl⟩:=P.lst_inv
     refine⟨q,Q,z,zs,rfl,rfl,A,g.fh _ _ M,by rw[r.length,bl.length];exact k9 N,?_⟩
     exact k _ _ G (l.mutate j x (r.append bl))
    |_=>cases c
end
end Dl
namespace Dl
open PySem L2
variable [KK]
def aL:Nat->D->Bool
 |_,.scr _=>false
 |_,.dct _ _ _ _=>false
 |_,.obj _ _ _=>false
 |0,.tup _=>false
 |0,.lst _=>false
 |n+1,.tup ds=>ds.all (aL n)
 |n+1,.lst ds=>ds.all (aL n)
 |_,_=>true
def aO:Nat->D->D->Bool
 |_,.non,.non=>true
 |_,.bl a,.bl b=>a == b
 |_,.bl a,.int b=>(if a then 1 else 0) == b
 |_,.int a,.bl b=>a == (if b then 1 else 0)
 |_,.int a,.int b=>a == b
 |_,.str a,.str b=>a == b
 |n+1,.tup a,.tup b=>(List.zipWith (aO n) a b).all id&&a.length == b.length
 |n+1,.lst a,.lst b=>(List.zipWith (aO n) a b).all id&&a.length == b.length
 |_,_,_=>false
omit [KK] in
def Ab:∀ (a b:zk),(List.zipWith (aO n) a b).all id=(List.range (min a.length b.length)).all λj=>aO n (a.getD j .non) (b.getD j .non):=by
 intro a b
 have:List.zipWith (aO n) a b=(List.range (min a.length b.length)).map λj=>aO n (a.getD j .non) (b.getD j .non):=by
  apply List.ext_getElem
  .simp
  .intro i c d
   simp at c d
   have e:i<a.length:=j0 c (Nat.min_le_left _ _)
   have f:i<b.length:=j0 c (Nat.min_le_right _ _)
   simp[e,f]
 rw[this,lU]
 rfl
omit [KK] in
def gP:D->V
 |.bl b=>.bl b
 |.int i=>.int i
 |.str t=>.str t
 |_=>.non
def wW {d:D}(h:aL 0 d=true)(a:At F d x):x=gP d:=by
 cases d with
 |non=>exact a.non_inv
 |bl b=>exact a.bl_inv
 |int b=>exact a.int_inv
 |str b=>exact a.str_inv
 |_=>cases h
omit [KK] in
def X8 {d:D}(h:aL 0 d=true):kZ (gP d)=true:=by
 cases d <;> first|rfl|cases h
omit [KK] in
def uU {d:D}{p:Addr}(h:aL 0 d=true)(e:gP d=.ref p):False:=by
 cases d <;> first | (cases h;done) | (cases e;done)
def Iu:V->D
 |.bl b=>.bl b
 |.int i=>.int i
 |.str t=>.str t
 |_=>.non
omit [KK] in
def MP {d:D}(h:aL 0 d=true):Iu (gP d)=d:=by
 cases d <;> first|rfl | (cases h;done)
omit [KK] in
def Mf {d:D}(b:aL 0 d=true)(a:aL 0 e=true)(h:gP d=gP e):d=e:=by
 rw[<-MP b,h,MP a]
omit [KK] in
def wG {n:Nat}{d:D}(h:aL (n+1) d=true):aL 0 d=true\/(∃ a,d=.tup a/\a.all (aL n)=true)\/∃ a,d=.lst a/\a.all (aL n)=true:=by
 cases d with
 |tup a=>exact .inr (.inl ⟨a,rfl,h⟩)
 |lst a=>exact .inr (.inr ⟨a,rfl,h⟩)
 |scr _=>cases h
 |dct _ _ _ _=>cases h
 |obj _ _ _=>cases h
 |_=>exact .inl rfl
def Ml (m:∀ {d e:D} {v:V},aL n d=true->aL n e=true->At F d v->At F e v->d=e):∀ {c:zy} {a b:zk},a.all (aL n)=true->b.all (aL n)=true->aq F a c->aq F b c->a=b:=by
 intro c
 induction c with
 |nil =>
  intro a b _ _ f g
  exact(qb.mp f.length.symm).trans (qb.mp g.length.symm).symm
 |cons x c i =>
  intro a b h j f g
  cases a with
  |nil=>cases f.nil_inv
  |cons d a=>cases b with
   |nil=>cases g.nil_inv
   |cons e b =>
    obtain⟨y,r,l,b1,k⟩:=f.cons_inv
    obtain⟨q,s,o,b2,p⟩:=g.cons_inv
    cases l
    cases o
    rw[jD,j7]at h j
    rw[i h.2 j.2 k p,m h.1 j.1 b1 b2]
def K4:∀ (n:Nat) {d e:D} {v:V},aL n d=true->aL n e=true->At F d v->At F e v->d=e:=by
 intro n
 induction n with
 |zero =>
  intro d e v m h j a
  exact Mf m h ((wW m j).symm.trans (wW h a))
 |succ n x =>
  intro d e v m h j a
  rcases wG m with o|⟨y,rfl,u⟩|⟨y,rfl,u⟩
  .have b:=wW o j
   rcases wG h with c|⟨k,rfl,_⟩|⟨k,rfl,_⟩
   .exact Mf o c (b.symm.trans (wW c a))
   .obtain⟨p,r,t,_⟩:=a.tup_inv
    exact(uU o (b.symm.trans t)).elim
   .obtain⟨p,r,t,_⟩:=a.lst_inv
    exact(uU o (b.symm.trans t)).elim
  .obtain⟨p,r,g,i,s⟩:=j.tup_inv
   rcases wG h with c|⟨k,rfl,l⟩|⟨k,rfl,l⟩
   .exact(uU c ((wW c a).symm.trans g)).elim
   .obtain⟨q,w,b,f,bl⟩:=a.tup_inv
    cases g.symm.trans b
    cases i.symm.trans f
    rw[Ml x u l s bl]
   .obtain⟨q,w,b,f,bl⟩:=a.lst_inv
    cases g.symm.trans b
    cases i.symm.trans f
  .obtain⟨p,r,g,i,s⟩:=j.lst_inv
   rcases wG h with c|⟨k,rfl,l⟩|⟨k,rfl,l⟩
   .exact(uU c ((wW c a).symm.trans g)).elim
   .obtain⟨q,w,b,f,bl⟩:=a.tup_inv
    cases g.symm.trans b
    cases i.symm.trans f
   .obtain⟨q,w,b,f,bl⟩:=a.lst_inv
    cases g.symm.trans b
    cases i.symm.trans f
    rw[Ml x u l s bl]
omit [KK] in
def zkd:∀ (n:Nat) {d:D},aL n d=true->aO n d d=true:=by
 intro n
 induction n with
 |zero =>
  intro d h
  cases d with
  |tup _=>cases h
  |lst _=>cases h
  |scr _=>cases h
  |dct _ _ _ _=>cases h
  |obj _ _ _=>cases h
  |_=>first|rfl|exact t8 rfl|exact mD _
 |succ n e =>
  have b:∀ {a:zk},a.all (aL n)=true->(List.zipWith (aO n) a a).all id=true:=by
   intro a
   induction a with
   |nil=>intro _;rfl
   |cons d a c =>
    intro h
    rw[jD,j7]at h
    rw[List.zipWith_cons_cons,jD,c h.2,Am]
    exact e h.1
  intro d h
  cases d with
  |tup a=>show((List.zipWith (aO n) a a).all id&&a.length == a.length)=true;rw[b h];simp
  |lst a=>show((List.zipWith (aO n) a a).all id&&a.length == a.length)=true;rw[b h];simp
  |scr _=>cases h
  |dct _ _ _ _=>cases h
  |obj _ _ _=>cases h
  |_=>first|rfl|exact t8 rfl|exact mD _
def LC (n:Nat){d:D}(b:aL n d=true)(a:aL n e=true)(c:At F d v)(f:At F e v):aO n d e=true:=by
 rw[K4 n b a c f]
 exact zkd n a
omit [KK] in
def xN {a:zk}{j:Nat}(h:a.all (aL n)=true)(b:j<a.length):aL n (a.getD j .non)=true:=by
 have:a.getD j .non=a[j]:=by simp[b]
 rw[this]
 exact o5.mp h _ (jK b)
def aq.nth {a:zk}{b:zz}{j:Nat}(e:aq F a c)(r:ym c b)(h:j<b.length):∃ x,At F (a.getD j .non) x/\y0 x b[j]:=by
 have o:=e.length
 have n:=r.length
 have f:j<a.length:=by omega
 obtain⟨x,l,m⟩:=e.get (i:=j) (d:=a[j]) (by simp[f])
 obtain⟨u,g,k⟩:=r.get l
 refine⟨x,by rw[show a.getD j .non=a[j] by simp[f]];exact m,?_⟩
 have:b[j]?≈b[j]:=by simp[h]
 rw[g]at this
 cases this
 exact k
omit [KK] in
def OJ {d:D}(b:aL 0 d=true)(a:aL 0 e=true):aO n d e=jP (gP d) (gP e):=by
 cases n <;> cases d <;> first | (cases b;done)|skip
 all_goals cases e <;> first | (cases a;done)|rfl
omit [KK] in
def uz {n:Nat}{d:D}(a:zk)(h:aL 0 d=true):aO (n+1) d (.tup a)=false/\aO (n+1) d (.lst a)=false/\aO (n+1) (.tup a) d=false/\aO (n+1) (.lst a) d=false:=by
 cases d <;> first|exact⟨rfl,rfl,rfl,rfl⟩|cases h
omit [KK] in
def uQ {A:zN}{s:zn}{d:D}{p:Addr}(h:aL 0 d=true)(r:y0 (gP d) u)(c:A.units<cLine) :
 (s.heap.IsTuple p e->SeqAt.EqAt A s u (.ref p) false/\SeqAt.EqAt A s (.ref p) u false)/\(s.heap.IsList p e->SeqAt.EqAt A s u (.ref p) false/\SeqAt.EqAt A s (.ref p) u false):=by
 cases d with
 |non=>cases r;exact⟨λa=>⟨.none_tuple a c,.tuple_none a c⟩,λa=>⟨.none_list a c,.list_none a c⟩⟩
 |bl b=>cases r;exact⟨λa=>⟨.bool_tuple b a c,.tuple_bool b a c⟩,λa=>⟨.bool_list b a c,.list_bool b a c⟩⟩
 |int b=>obtain⟨t,rfl⟩:=r;exact⟨λa=>⟨.int_tuple b t a c,.tuple_int b t a c⟩,λa=>⟨.int_list b t a c,.list_int b t a c⟩⟩
 |str b=>obtain⟨t,rfl⟩:=r;exact⟨λa=>⟨.str_tuple b t a c,.tuple_str b t a c⟩,λa=>⟨.str_list b t a c,.list_str b t a c⟩⟩
 |_=>cases h
def uX {s:zn}(I:aa X c h H s)(j:zS F H)(a:At F (.tup e) x)(r:y0 x u):∃ p b d,u=.ref p/\x=.ref p/\ym d b/\aq F e d/\s.heap.IsTuple p b.toArray:=by
 obtain⟨p,d,rfl,g,i⟩:=a.tup_inv
 cases r
 obtain⟨b,f,k,l⟩:=I.tuple (aJ.of (j _ _ g))
 exact⟨p,b,d,rfl,rfl,f,i,k⟩
def uE {s:zn}(I:aa X c h H s)(j:zS F H)(a:At F (.lst e) x)(r:y0 x u):∃ p b d,u=.ref p/\x=.ref p/\ym d b/\aq F e d/\s.heap.IsList p b.toArray:=by
 obtain⟨p,d,rfl,g,i⟩:=a.lst_inv
 cases r
 obtain⟨b,f,k,l⟩:=I.list (aK.of (j _ _ g))
 exact⟨p,b,d,rfl,rfl,f,i,k.isList⟩
omit [KK] in
def N8 (b a:zk):((List.zipWith (aO n) b a).all id&&b.length == a.length)=((List.range (min b.length a.length)).all (λj=>aO n (b.getD j .non) (a.getD j .non))&&b.length == a.length):=by rw[Ab]
def Vt (I:aa X U σ H s)(C:zS F H):∀ (n:Nat) {A:zN} {d e:D} {x y:V} {u v:Value},aL n d=true->aL n e=true->At F d x->At F e y->y0 x u->y0 y v->A.units+n<cLine->SeqAt.EqAt A s u v (aO n d e):=by
 intro n
 induction n with
 |zero =>
  intro A d e x y u v M w z g J o Z
  cases wW M z
  cases wW w g
  rw[OJ M w]
  exact Dt J o (X8 M) (X8 w)
 |succ n ih =>
  intro A d e x y u v M w z g J o Z
  have c:A.units<cLine:=i8 (gV _ _) Z
  have O:A.units+1+n<cLine:=by rw[Nat.add_assoc,Nat.add_comm 1 n];exact Z
  rcases wG M with G|⟨l,rfl,Y⟩|⟨l,rfl,Y⟩
  .cases wW G z
   rcases wG w with r|⟨f,rfl,K⟩|⟨f,rfl,K⟩
   .cases wW r g
    rw[OJ G r]
    exact Dt J o (X8 G) (X8 r)
   .obtain⟨q,b,S,rfl,_,_,_,a⟩:=uX I C g o
    rw[(uz f G).1]
    exact((uQ G J c).1 a).1
   .obtain⟨q,b,S,rfl,_,_,_,a⟩:=uE I C g o
    rw[(uz f G).2.1]
    exact((uQ G J c).2 a).1
  .obtain⟨p,N,xs,rfl,E,T,R,B⟩:=uX I C z J
   rcases wG w with r|⟨f,rfl,K⟩|⟨f,rfl,K⟩
   .cases wW r g
    rw[(uz l r).2.2.1]
    exact((uQ r o c).1 B).2
   .obtain⟨q,b,S,rfl,L,m,bl,a⟩:=uX I C g o
    by_cases k:p=q
    .subst k
     rw[E]at z
     rw[L]at g
     rw[LC (n+1) M w z g]
     exact .same _
    .have h:N.toArray.size=l.length:=by rw[t9,<- T.length,R.length]
     have i:b.toArray.size=f.length:=by rw[t9,<- m.length,bl.length]
     have:=SeqAt.RcAt.tuples (A:=A) (e:=λj=>aO n (l.getD j .non) (f.getD j .non)) B a c λj Q P=>by
      obtain⟨x',W,rx⟩:=R.nth T (j:=j) Q
      obtain⟨y',ay,ry⟩:=bl.nth m (j:=j) P
      exact ih (xN Y (h ▸ Q)) (xN K (i ▸ P)) W ay rx ry O
     rw[h,i]at this
     rw[show aO (n+1) (.tup l) (.tup f)=_ from N8 l f]
     exact GP k this
   .obtain⟨q,b,S,rfl,_,_,_,a⟩:=uE I C g o
    exact .tuple_list B a c
  .obtain⟨p,N,xs,rfl,E,T,R,B⟩:=uE I C z J
   rcases wG w with r|⟨f,rfl,K⟩|⟨f,rfl,K⟩
   .cases wW r g
    rw[(uz l r).2.2.2]
    exact((uQ r o c).2 B).2
   .obtain⟨q,b,S,rfl,_,_,_,a⟩:=uX I C g o
    exact .list_tuple B a c
   .obtain⟨q,b,S,rfl,L,m,bl,a⟩:=uE I C g o
    by_cases k:p=q
    .subst k
     rw[E]at z
     rw[L]at g
     rw[LC (n+1) M w z g]
     exact .same _
    .have h:N.toArray.size=l.length:=by rw[t9,<- T.length,R.length]
     have i:b.toArray.size=f.length:=by rw[t9,<- m.length,bl.length]
     rw[show aO (n+1) (.lst l) (.lst f)=_ from N8 l f]
     by_cases t:l.length=f.length
     .have:=SeqAt.RcAt.lists (A:=A) (e:=λj=>aO n (l.getD j .non) (f.getD j .non)) B a (by rw[h,i,t]) c λj Q P=>by
       obtain⟨x',W,rx⟩:=R.nth T (j:=j) Q
       obtain⟨y',ay,ry⟩:=bl.nth m (j:=j) P
       exact ih (xN Y (h ▸ Q)) (xN K (i ▸ P)) W ay rx ry O
      rw[h]at this
      rw[<-t,Nat.min_self,mD,Am]
      exact GP k this
     .have:=SeqAt.RcAt.lists_lengths (A:=A) B a (by rw[h,i];exact bne_iff_ne.mpr t) c
      rw[g8.mpr t,iR]
      exact GP k this
def dR (d:D)(a:zk):Option Bool:=if aL 20 d=true/\a.all (aL 20) then some (a.any λe=>aO 20 e d)else none
def dZ (d e:D):Option D:=(vy e).bind λa=>(dR d a).map .bl
def Yw (d e:D):Option D:=(vy e).bind λa=>(dR d a).map λb=>.bl (!b)
open Classical in
noncomputable def Z5 (F:Hp)(d:D)(u:Value):Bool:=decide (∃ a x,At F a x/\y0 x u/\aL 20 a=true/\aO 20 a d=true)
open Classical in
def Xl {d:D}(a:At F b x)(r:y0 x u)(k:aL 20 b=true):Z5 F d u=aO 20 b d:=by
 unfold Z5
 cases h:aO 20 b d with
 |true=>exact t8 ⟨b,x,a,r,k,h⟩
 |false =>
  refine t6 ?_
  rintro⟨j,y,i,f,g,c⟩
  have e:=f.inj r
  subst e
  rw[K4 20 g k i a]at c
  rw[c]at h
  cases h
def Yn {d:D}:∀ {a:zk} {b:zy} {c:zz},aq F a b->ym b c->a.all (aL 20)=true->c.any (Z5 F d)=a.any λe=>aO 20 e d
 |[],_,_,al,r,_=>by cases al.nil_inv;cases r;rfl
 |e::a,_,_,al,r,k=>by
  obtain⟨x,b,rfl,h,f⟩:=al.cons_inv
  cases r with
  |cons g i =>
   rw[jD,j7]at k
   rw[lO,lO,Xl h g k.1,Yn f i k.2]
section
variable {X:Cx}
def jX (a:Bool):R2:=λx y H Q=>∃ F d e c b,zS F H/\At F d x/\At F e y/\vy e≈c/\dR d c≈b/\Q (.bl (if a then !b else b)) H
def uf {k:Nat}(P:xc k X.A):aP X (compareOp .In) (jX false):=by
 intro E s S H x y v u Q I N G h
 obtain⟨F,d,e,C,b,w,O,J,K,A,q⟩:=h
 unfold dR at A
 split at A <;> cases A
 rename_i m
 have L:X.A.in1.units+20<cLine:=by have:=P.un;show X.A.units+1+20<cLine;omega
 have i:∀ {g:zy} {o:zz},aq F C g->ym g o->∀ z∈o,SeqAt.EqAt X.A.in1 s z v (Z5 F d z):=λ{g o} c r z f=>by
  obtain⟨j,M,rfl⟩:=iK f
  obtain⟨R,B,l⟩:=c.nth r M
  have n:j<C.length:=by have:=c.length;have:=r.length;omega
  have D:=xN m.2 n
  rw[Xl B l D]
  exact Vt I w 20 D m.1 B O l N L
 cases e <;> cases K
 .obtain⟨p,g,rfl,t,c⟩:=J.tup_inv
  cases G
  obtain⟨a,r,pl,f⟩:=I.tuple (aJ.of (w _ _ t))
  refine SeqAt.in_tupleAt (Z5 F d) pl (λz f=>i c r z (by simpa using f)) ⟨.bl _,H,I,rfl,?_⟩
  rw[show a.toArray.any (Z5 F d)=a.any (Z5 F d) by simp,Yn c r m.2]
  exact q
 .obtain⟨p,g,rfl,t,c⟩:=J.lst_inv
  cases G
  obtain⟨a,r,pl,f⟩:=I.list (aK.of (w _ _ t))
  refine SeqAt.in_listAt (Z5 F d) pl.isList (λz f=>i c r z (by simpa using f)) ⟨.bl _,H,I,rfl,?_⟩
  rw[show a.toArray.any (Z5 F d)=a.any (Z5 F d) by simp,Yn c r m.2]
  exact q
def zg6 {k:Nat}(P:xc k X.A):aP X (compareOp .NotIn) (jX true):=by
 intro E s S H x y v u Q I N G h
 obtain⟨F,d,e,C,b,w,O,J,K,A,q⟩:=h
 unfold dR at A
 split at A <;> cases A
 rename_i m
 have L:X.A.in1.units+20<cLine:=by have:=P.un;show X.A.units+1+20<cLine;omega
 have i:∀ {g:zy} {o:zz},aq F C g->ym g o->∀ z∈o,SeqAt.EqAt X.A.in1 s z v (Z5 F d z):=λ{g o} c r z f=>by
  obtain⟨j,M,rfl⟩:=iK f
  obtain⟨R,B,l⟩:=c.nth r M
  have n:j<C.length:=by have:=c.length;have:=r.length;omega
  have D:=xN m.2 n
  rw[Xl B l D]
  exact Vt I w 20 D m.1 B O l N L
 cases e <;> cases K
 .obtain⟨p,g,rfl,t,c⟩:=J.tup_inv
  cases G
  obtain⟨a,r,pl,f⟩:=I.tuple (aJ.of (w _ _ t))
  refine SeqAt.notIn_tupleAt (Z5 F d) pl (λz f=>i c r z (by simpa using f)) ⟨.bl _,H,I,rfl,?_⟩
  rw[show a.toArray.any (Z5 F d)=a.any (Z5 F d) by simp,Yn c r m.2]
  exact q
 .obtain⟨p,g,rfl,t,c⟩:=J.lst_inv
  cases G
  obtain⟨a,r,pl,f⟩:=I.list (aK.of (w _ _ t))
  refine SeqAt.notIn_listAt (Z5 F d) pl.isList (λz f=>i c r z (by simpa using f)) ⟨.bl _,H,I,rfl,?_⟩
  rw[show a.toArray.any (Z5 F d)=a.any (Z5 F d) by simp,Yn c r m.2]
  exact q
def tY:bh (jX false) dZ:=by
 intro F H x y d e z Q s f c g q
 obtain⟨i,h,j⟩:=u4.mp g
 obtain⟨b,a,rfl⟩:=t4.mp j
 exact⟨F,d,e,i,b,s,f,c,h,a,q F H _ (.refl s) .bl⟩
def zf3:bh (jX true) Yw:=by
 intro F H x y d e z Q s f c g q
 obtain⟨i,h,j⟩:=u4.mp g
 obtain⟨b,a,rfl⟩:=t4.mp j
 exact⟨F,d,e,i,b,s,f,c,h,a,q F H _ (.refl s) .bl⟩
def Rk (d e:D):Option Bool:=match d,e with
 |.tup _,.tup _=>if aL 20 d=true/\aL 20 e then some (aO 20 d e)else none
 |.lst _,.lst _=>if aL 20 d=true/\aL 20 e then some (aO 20 d e)else none
 |_,_=>Ip d e
def xX (d e:D):Option D:=(Rk d e).map .bl
def rG:R2:=λx y H Q=>∃ F d e,zS F H/\At F d x/\At F e y/\((∃ b a,d=.tup b/\e=.tup a)\/(∃ b a,d=.lst b/\e=.lst a))/\aL 20 d=true/\aL 20 e=true/\Q (.bl (aO 20 d e)) H
def T8 {k:Nat}(hr:xc k X.A):aP X (compareOp .Eq) rG:=by
 intro S s σ H x y v u Q I n t h
 obtain⟨F,d,e,o,P,T,Y,N,O,q⟩:=h
 have D:X.A.units+30<cLine:=by have:=hr.un;omega
 rcases Y with ⟨g,f,rfl,rfl⟩|⟨g,f,rfl,rfl⟩
 .obtain⟨p,U,rfl,L,A⟩:=P.tup_inv
  obtain⟨M,Z,rfl,E,bl⟩:=T.tup_inv
  cases n
  cases t
  obtain⟨m,r,C,W⟩:=I.tuple (aJ.of (o _ _ L))
  obtain⟨b,B,l,J⟩:=I.tuple (aJ.of (o _ _ E))
  have a:m.toArray.size=g.length:=by rw[t9,<- r.length,A.length]
  have c:b.toArray.size=f.length:=by rw[t9,<- B.length,bl.length]
  refine SeqAt.eq_tupleAt (e:=λj=>aO 19 (g.getD j .non) (f.getD j .non)) (show s.heap.IsTuple p m.toArray from C) (show s.heap.IsTuple M b.toArray from l) ∅ (λj z w=>?_) ⟨.bl _,H,I,rfl,?_⟩
  .obtain⟨V,G,n⟩:=A.nth r (j:=j) (by simpa using z)
   obtain⟨y',K,t⟩:=bl.nth B (j:=j) (by simpa using w)
   exact Vt I o 19 (xN N (by rw[<-a];exact z)) (xN O (by rw[<-c];exact w)) G K (by simpa using n) (by simpa using t) (i8 (show X.A.units+20<=X.A.units+30 from pZ ⋯ _) D)
  .rw[a,c,<- Ab]
   exact q
 .obtain⟨p,U,rfl,L,A⟩:=P.lst_inv
  obtain⟨M,Z,rfl,E,bl⟩:=T.lst_inv
  cases n
  cases t
  obtain⟨m,r,C,W⟩:=I.list (aK.of (o _ _ L))
  obtain⟨b,B,l,J⟩:=I.list (aK.of (o _ _ E))
  have a:m.toArray.size=g.length:=by rw[t9,<- r.length,A.length]
  have c:b.toArray.size=f.length:=by rw[t9,<- B.length,bl.length]
  have R:aO 20 (.lst g) (.lst f)=((List.range (min g.length f.length)).all (λj=>aO 19 (g.getD j .non) (f.getD j .non))&&g.length == f.length):=by
   show((List.zipWith (aO 19) g f).all id&&g.length == f.length)=_
   rw[Ab]
  by_cases i:g.length=f.length
  .refine SeqAt.eq_listAt (e:=λj=>aO 19 (g.getD j .non) (f.getD j .non)) C.isList l.isList (by rw[a,c];exact i) (i8 (gV _ 30) D) (λj z w=>?_) ⟨.bl _,H,I,rfl,?_⟩
   .obtain⟨V,G,n⟩:=A.nth r (j:=j) (by simpa using z)
    obtain⟨y',K,t⟩:=bl.nth B (j:=j) (by simpa using w)
    exact Vt I o 19 (xN N (by rw[<-a];exact z)) (xN O (by rw[<-c];exact w)) G K (by simpa using n) (by simpa using t) (i8 (show X.A.units+20<=X.A.units+30 from pZ ⋯ _) D)
   .rw[a]
    rw[R,<- i,Nat.min_self]at q
    simpa using q
  .refine SeqAt.eq_list_lengthsAt C.isList l.isList (by rw[a,c];simpa using i) (i8 (gV _ 30) D) ⟨.bl _,H,I,rfl,?_⟩
   have:(g.length == f.length)=false:=by simpa using i
   rw[R,this,iR]at q
   exact q
def zmA:bh rG (λd e=>match d,e with
 |.tup _,.tup _=>if aL 20 d=true/\aL 20 e then some (.bl (aO 20 d e))else none
 |.lst _,.lst _=>if aL 20 d=true/\aL 20 e then some (.bl (aO 20 d e))else none
 |_,_=>none):=by
 intro F H x y d e z Q s f c a q
 dsimp only at a
 split at a
 .split at a <;> cases a
  rename_i b
  exact⟨F,_,_,s,f,c,.inl ⟨_,_,rfl,rfl⟩,b.1,b.2,q F H _ (.refl s) .bl⟩
 .split at a <;> cases a
  rename_i b
  exact⟨F,_,_,s,f,c,.inr ⟨_,_,rfl,rfl⟩,b.1,b.2,q F H _ (.refl s) .bl⟩
 .cases a
def yX {k:Nat}(a:xc k X.A):aP X (compareOp .Eq) (λx y H Q=>BJ x y H Q\/rG x y H Q):=RW.or (T8 a)
def yh:bh (λx y H Q=>BJ x y H Q\/rG x y H Q) xX:=by
 refine Es (oY Lh zmA) λd e z h=>?_
 obtain⟨b,a,rfl⟩:=t4.mp h
 unfold Rk at a
 split at a
 .split at a <;> cases a
  rename_i c
  show(Option.or none (if aL 20 _=true/\aL 20 _ then some (D.bl (aO 20 _ _))else none))=_
  rw[q4 c]
  rfl
 .split at a <;> cases a
  rename_i c
  show(Option.or none (if aL 20 _=true/\aL 20 _ then some (D.bl (aO 20 _ _))else none))=_
  rw[q4 c]
  rfl
 .show((BP d e).or _)=_
  unfold BP
  rw[a]
  rfl
def PJ {f:xv}{A:zN}{Q:yI}(I:aa X f y H s)(D:A.handled=none)(h:aK X.K H a r\/aJ X.K H a r) (k:∀ (C:Addr) (d:zz) (F B:xW) (St:Nat->Heap->Prop) (c:zn),ym r d->Walks X.prog X.w A C F B d.length (λi v=>d[i]?≈v) St->St 0 c.heap->(∀ b∈F,b<c.heap.objs.size) ->
 (∀ (l:Heap) (m:Nat),(∀ b o,b∉B->c.heap.get? b≈o->l.get? b≈o)->aa X f y H { c with heap:=l,toks:=m })->Q (.ref C) c) :
 wpAny (model X.prog X.w) A (pyIter (.ref a)) Q E s:=by
 have g:∀ {o:Obj} {c:zn},c={ s with heap:=s.heap.push o }->∀ (l:Heap) (m:Nat),(∀ b u,b∉[s.heap.objs.size]->c.heap.get? b≈u->l.get? b≈u)->aa X f y H { c with heap:=l,toks:=m }:=λ{o c} e l m kk=>by
  subst e
  exact I.kept (t':=m) λb u z=>kk b u (by simpa using j9 (q7 z)) (u6 _ z)
 rcases h with h|h
 .obtain⟨d,x,p,J⟩:=I.list h
  have q:a<s.heap.objs.size:=by obtain⟨o,n,t,_⟩:=p;exact q7 t
  refine jL p.isList ?_
  have W:=Walks.list (prog:=X.prog) (w:=X.w) (A:=A) D s.heap.objs.size a (j9 q) d.toArray
  refine k s.heap.objs.size d [s.heap.objs.size,a] [s.heap.objs.size] (λi h=>h.IsListIter s.heap.objs.size a i/\h.IsList a d.toArray) _ x (by simpa using W) ⟨⟨_,j5 _ rfl,rfl,rfl⟩,p.isList.at λo e=>u6 _ e⟩ (λb j=>?_) (g rfl)
  show b<(s.heap.push _).objs.size
  rw[p9]
  rcases q5.mp j with rfl|j
  .exact pI _
  .rw[j6.mp j];exact jM q
 .obtain⟨d,x,p,J⟩:=I.tuple h
  have G:s.heap.IsTuple a d.toArray:=p
  have q:a<s.heap.objs.size:=by obtain⟨o,t,_⟩:=p;exact q7 t
  refine gY G ?_
  have W:=Walks.tuple (prog:=X.prog) (w:=X.w) (A:=A) D s.heap.objs.size a (j9 q) d.toArray
  refine k s.heap.objs.size d [s.heap.objs.size,a] [s.heap.objs.size] (λi h=>h.IsTupleIter s.heap.objs.size a i/\h.IsTuple a d.toArray) _ x (by simpa using W) ⟨⟨_,j5 _ rfl,rfl,rfl⟩,G.at λo e=>u6 _ e⟩ (λb j=>?_) (g rfl)
  show b<(s.heap.push _).objs.size
  rw[p9]
  rcases q5.mp j with rfl|j
  .exact pI _
  .rw[j6.mp j];exact jM q
end
end Dl
namespace Dl
open PySem L2
variable [KK]
omit [KK] in
def zfV {a:List Bool}:(List.range a.length).all (λi=>a.getD i false)=a.all id:=by
 have:a=(List.range a.length).map λi=>a.getD i false:=by
  apply List.ext_getElem
  .simp
  .intro i b c
   simp[b]
 conv=>rhs;rw[this]
 rw[lU]
 rfl
omit [KK] in
def ziB:∀ (ns:zB) (n:Nat),n<=ns.length->preSum (λi=>ns.getD i 0) n=(ns.take n).sum:=by
 intro ns n
 induction n with
 |zero=>intro _;simp[preSum]
 |succ n a =>
  intro h
  show preSum (λi=>ns.getD i 0) n+ns.getD n 0=_
  rw[a ∅,List.take_succ,List.sum_append]
  have:ns[n]?≈ns[n]:=by simp[show n<ns.length by omega]
  simp[this]
section
variable {X:Cx}
omit [KK] in
def zno {b:List Bool}{i:Nat}(r:ym (b.map V.bl) a)(h:a[i]?≈v):v=.bool (b.getD i false):=by
 have e:=r.length
 have f:i<a.length:=(j3.mp h).1
 rw[u8]at e
 obtain⟨u,c,d⟩:=r.get (i:=i) (x:=.bl (b[i]'∅)) (by rw[k8];simp[show i<b.length by omega])
 rw[h]at c
 cases c
 cases d
 simp[show i<b.length by omega]
omit [KK] in
def zkc {ns:zB}{i:Nat}(r:ym (ns.map V.int) a)(h:a[i]?≈v):∃ t,v=.int (ns.getD i 0) t:=by
 have d:=r.length
 have e:i<a.length:=(j3.mp h).1
 rw[u8]at d
 obtain⟨u,b,c⟩:=r.get (i:=i) (x:=.int (ns[i]'∅)) (by rw[k8];simp[show i<ns.length by omega])
 rw[h]at b
 cases b
 obtain⟨t,rfl⟩:=c
 exact⟨t,by simp[show i<ns.length by omega]⟩
def Ql (z:X.calm=true):v5 X (.builtin "all") (λc H Q=>∃ (p:Addr) (b:List Bool),c=[.ref p]/\(aK X.K H p (b.map V.bl)\/aJ X.K H p (b.map V.bl))/\Q (.bl (b.all id)) H):=by
 intro g s F H c D Q I r h
 obtain⟨p,b,rfl,y,q⟩:=h
 obtain⟨u,rfl,C⟩:=Z9 r
 cases C
 refine call_all_walk (PJ I (I.ok.hd z) y λl B w j St d f W m n a=>?_)
 have e:=f.length
 rw[u8]at e
 refine⟨l,w,j,_,_,St,λi=>b.getD i false,rfl,W,m,λi v s Q E t A=>?_,λo k x=>⟨.bl _,H,a o k x,rfl,?_⟩⟩
 .rw[zno f t]
  exact fV A
 .rw[<-e,zfV]
  exact q
def ziO (x:X.calm=true):v5 X (.builtin "sum") (λc H Q=>∃ (p:Addr) (ns:zB),c=[.ref p]/\(aK X.K H p (ns.map V.int)\/aJ X.K H p (ns.map V.int))/\Q (.int ns.sum) H):=by
 intro g s D H c C Q I r h
 obtain⟨p,ns,rfl,w,q⟩:=h
 obtain⟨u,rfl,A⟩:=Z9 r
 cases A
 refine call_sum_walkG (PJ I (I.ok.hd x) w λy z n k St d e W B b a=>?_)
 have f:=e.length
 rw[u8]at f
 refine⟨y,n,k,_,_,St,λi=>ns.getD i 0,rfl,W,B,b,λi v m=>zkc e m,λj l o t=>⟨.int ns.sum,H,a j l t,?_,q⟩⟩
 refine⟨o,?_⟩
 rw[<-f,ziB ns _ (t7 _),pJ]
omit [KK] in
def getD_mem {ns:zB}{k:Nat}(h:k<ns.length):ns.getD k 0∈ns:=by
 rw[l4,o6 h]
 exact jK h
omit [KK] in
def getD_at {ns:zB}{k:Nat}(h:k<ns.length):ns.getD k 0=ns[k]:=by
 rw[l4,o6 h]
 rfl
def ji:zk->Option (List Bool)
 |[]=>some []
 |.bl b::ds=>(ji ds).map (b::·)
 |_=>none
def iz:zk->Option zB
 |[]=>some []
 |.int b::ds=>(iz ds).map (b::·)
 |_=>none
omit [KK] in
def MN:∀ {b:zk} {a:List Bool},ji b≈a->b=a.map .bl
 |[],a,h=>by cases h;rfl
 |d::b,a,h=>by
  cases d <;> try cases h
  obtain⟨e,c,rfl⟩:=t4.mp h
  rw[MN c]
  rfl
omit [KK] in
def Fd:∀ {b:zk} {a:zB},iz b≈a->b=a.map .int
 |[],a,h=>by cases h;rfl
 |d::b,a,h=>by
  cases d <;> try cases h
  obtain⟨e,c,rfl⟩:=t4.mp h
  rw[Fd c]
  rfl
omit [KK] in
def zkG (a:List Bool):ji (a.map .bl)≈a:=by
 induction a with
 |nil=>rfl
 |cons b r c=>show(ji (r.map .bl)).map (b::·)=_;rw[c];rfl
omit [KK] in
def O7 (a:zB):iz (a.map .int)≈a:=by
 induction a with
 |nil=>rfl
 |cons b r c=>show(iz (r.map .int)).map (b::·)=_;rw[c];rfl
def aq.of_bls:∀ {ns:List Bool} {a:zy},aq H (ns.map D.bl) a->a=ns.map V.bl
 |[],_,h=>h.nil_inv
 |n::r,_,h=>by
  obtain⟨x,d,rfl,c,b⟩:=aq.cons_inv (by simpa using h)
  rw[c.bl_inv,aq.of_bls b]
  rfl
def rN {a:Type}(b:zk->Option a)(g:a->Option D):wI
 |[d]=>((vy d).bind b).bind g
 |_=>none
def Mw {n:Type}{l:zk->Option n}{g:n->Option D}(s:zS F H)(t:aq F j i)(e:rN l g j≈z) :
 ∃ p f a b,i=[.ref p]/\(aK K H p a\/aJ K H p a)/\aq F f a/\l f≈b/\g b≈z:=by
 unfold rN at e
 split at e
 .obtain⟨b,q,k⟩:=u4.mp e
  obtain⟨f,o,m⟩:=u4.mp q
  obtain⟨x,r,rfl,h,u⟩:=t.cons_inv
  cases u.nil_inv
  rename_i d
  cases d <;> cases o
  .obtain⟨p,a,rfl,c,bl⟩:=h.tup_inv
   exact⟨p,_,a,b,rfl,.inr (aJ.of (s _ _ c)),bl,m,k⟩
  .obtain⟨p,a,rfl,c,bl⟩:=h.lst_inv
   exact⟨p,_,a,b,rfl,.inl (aK.of (s _ _ c)),bl,m,k⟩
 .cases e
def jV:=rN ji λa=>some (.bl (a.all id))
def mX:=rN iz λns=>some (.int ns.sum)
def NZ:eG (λb H Q=>∃ (p:Addr) (a:List Bool),b=[.ref p]/\(aK K H p (a.map V.bl)\/aJ K H p (a.map V.bl))/\Q (.bl (a.all id)) H) jV:=by
 intro F H h i z Q s f e q
 obtain⟨p,j,b,a,rfl,c,bl,d,g⟩:=Mw (K:=K) s f e
 cases g
 rw[MN d]at bl
 rw[bl.of_bls]at c
 exact⟨p,a,rfl,c,q F H _ (.refl s) .bl⟩
def zn3:eG (λa H Q=>∃ (p:Addr) (ns:zB),a=[.ref p]/\(aK K H p (ns.map V.int)\/aJ K H p (ns.map V.int))/\Q (.int ns.sum) H) mX:=by
 intro F H h i z Q s d e q
 obtain⟨p,j,a,g,rfl,b,bl,c,f⟩:=Mw (K:=K) s d e
 cases f
 rw[Fd c]at bl
 rw[bl.of_ints]at b
 exact⟨p,g,rfl,b,q F H _ (.refl s) .int⟩
end
end Dl
namespace Dl
open PySem L2
variable [KK]
section
variable {X:Cx}{tg a b c e:Expr}{pos:Pos}
def fP:zk->zk->zk
 |x::xs,y::ys=>.tup [x,y]::fP xs ys
 |_,_=>[]
omit [KK] in
def PK:∀ (a b:zk) (i:Nat),(fP a b)[i]?=match a[i]?,b[i]? with|some x,some y=>some (.tup [x,y])|_,_=>none
 |[],b,i=>by simp[fP]
 |x::a,[],i=>by simp[fP]
 |x::a,y::b,0=>by simp[fP]
 |x::a,y::b,i+1=>by simpa [fP]using PK a b i
omit [KK] in
def Vb:∀ (a b:zk),a.length<=b.length->(fP a b).length=a.length
 |[],b,_=>by simp[fP]
 |x::a,[],h=>by simp at h
 |x::a,y::b,h=>by simp[fP,Vb a b (by simpa using h)]
def ZQ (f:yE):yE:=λg=>(f g).bind λc=>match c with
 |[d,e]=>(vy d).bind λa=>(vy e).bind λb=>if a.length<=b.length then some (fP a b)else none
 |_=>none
def JK {d:D}(s:zS F H)(h:At F d v)(e:vy d≈j):∃ b p a,v=.ref p/\(∀ {F' H':Hp},zS F F'->zS F' H'->Sq b K H' p a)/\aq F j a:=by
 cases d <;> cases e
 .obtain⟨p,a,rfl,c,g⟩:=h.tup_inv
  exact⟨false,p,a,rfl,λi f=>aJ.of (f _ _ (i _ _ c)),g⟩
 .obtain⟨p,a,rfl,c,g⟩:=h.lst_inv
  exact⟨true,p,a,rfl,λi f=>aK.of (f _ _ (i _ _ c)),g⟩
def Up {k:Nat} {p:Pos} {f:yE} (hg:Gl X "zip") (hm:X.mg "zip"=none) (ha:AD X [a,b] f) (hs:starEach [a,b] X.env=[(false,eval a X.env),(false,eval b X.env)]:=by rfl) (M:starEach [b] X.env=[(false,eval b X.env)]:=by rfl):ID X (.Tuple es k tp) (.Call (.Name "zip" p) [a,b] [] pos) (ZQ f):=by
 obtain⟨t,pa,r⟩:=ha
 refine⟨_,T6 hg hm TV pa hs M,fun σ ρ F H ds R s va e q=>?_⟩
 obtain⟨as,e1,A⟩:=u4.mp e
 refine r σ ρ F H as _ s va e1 λF1 H1 v m a1=>?_
 split at A
 .obtain⟨x,r',rfl,ax,L⟩:=a1.cons_inv
  obtain⟨y,r',rfl,ay,L⟩:=L.cons_inv
  cases L.nil_inv
  obtain⟨xs,e3,n⟩:=u4.mp A
  obtain⟨ys,e4,c⟩:=u4.mp n
  clear A n e
  split at c <;> cases c
  rename_i E
  obtain⟨b1,p1,o,rfl,j,S⟩:=JK (K:=X.K) m.fh ax e3
  obtain⟨b2,p2,C,rfl,h,bl⟩:=JK (K:=X.K) m.fh ay e4
  refine⟨b1,b2,p1,p2,o,C,rfl,j (zS.refl _) m.fh,h (zS.refl _) m.fh,q F1 H1 _ m λi F2 H2 w J=>?_⟩
  have N:=j w J
  have U:=h w J
  refine⟨λhl=>⟨o,N,by rw[hl,Vb _ _ E,S.length]⟩,λd g=>?_⟩
  rw[PK]at g
  cases B:xs[i]? with
  |none=>rw[B]at g;cases g
  |some x =>
   cases O:ys[i]? with
   |none=>rw[B,O]at g;cases g
   |some y =>
    rw[B,O]at g
    cases g
    obtain⟨u,Y,au⟩:=S.get B
    obtain⟨V,l,I⟩:=bl.get O
    refine⟨⟨o,C,u,V,N,U,Y,l⟩,λz H3 hz=>?_⟩
    obtain⟨T,x',y',rfl,hT,rfl,G,P⟩:=hz
    have Z:=G o N
    have W:=P C U
    rw[Y]at Z
    rw[l]at W
    cases Z
    cases W
    have Q:=Gr.alloc J hT (.tup [u,V])
    exact⟨_,Q,.tup zl (.cons (au.mono (w.trans Q.ff)) (.cons (I.mono (w.trans Q.ff)) .nil))⟩
 .cases A
def Zw (g:fQ)(f:yE)(b:vA)(h:zD):zD:=λa=>match (f (visG a)).bind g with
 |some c=>dG b h c a
 |none=>.no
def zji {p c:Pos} {b:vu} {f:yE} {g:zD} (I:PassesOwn (model X.prog X.w) X.A X.env X.xe) (i:X.calm=true) (m:Gl X "range") (C:X.mg "range"=none) (s:AD X [a] f) (o:BD X tg n) (O:bM X b g) (l:starEach [a] X.env=[(false,eval a X.env)]:=by rfl) (z:∀ x,foldedSetIterable (.Call (.Name "range" p) [a] [] pos) X.env x=pure x:=by intro _;rfl):SD X (.For tg (.Call (.Name "range" p) [a] [] pos) b [] c) (Zw cA f n g):=by
 obtain⟨t,y,r⟩:=s
 obtain⟨B,u,w⟩:=o
 obtain⟨T,G,A⟩:=O
 refine⟨_,ut I i (QJ m C y l) u G z,λFb Hb F H P K E e k=>?_⟩
 unfold Zw at k
 cases h:(f (visG P)).bind cA with
 |none=>rw[h]at k;exact k.elim
 |some S =>
  rw[h]at k
  obtain⟨M,L,d⟩:=u4.mp h
  refine r K _ _ H M _ e.gh e.visG L λF1 H1 R v J=>?_
  have j:=e.grow (e.back v).1
  unfold cA at d
  split at d
  .split at d <;> cases d
   rename_i i
   obtain⟨x,Q,rfl,q,N⟩:=J.cons_inv
   cases N.nil_inv
   exact⟨_,by rw[q.int_inv],(vJ.mp i).1,(vJ.mp i).2,Lw (Ec 0 _) w A j k⟩
  .cases d
end
def znF {w:World}{d:wm}{f:Addr}{g:zG}{k:Nat}:xt P w K d a aM k f b g (bW m λ_=>none):=by
 refine⟨λc H Q E h=>?_,λA outer s H args i c Q E _ _ _ _ h=>?_⟩
 .obtain⟨_,_,_,_,_,_,e,_⟩:=h
  cases e
 .obtain⟨_,_,_,_,_,_,e,_⟩:=h
  cases e
def rP (n:Nat)(g:wI->SE->bu):Nat->zk->Option D
 |0=>λ_=>none
 |k+1=>aH n (g (rP n g k))
def Uk {w:World}{d:Stmt}{f:Addr}{N c:zG}{k0:Nat}{g:wI->SE->bu}(Fu:bQ K x a d f e)(S:yz N c (zm d))(j:∀ (k:Nat) (r:wI),xt P w K mg base aM (k0+k) f e c (bW c.length r)->∀ (b:Value) (A:zN) (outer:List Env) (s:zn) (H:Hp) (E:XK),xc (k0+k) (A.deeper (PyProof.Rows.envOfC a (zm d) s.heap.objs.size f b))->bM (vd aM P w K mg base N a (zm d) f b A outer s H E).nox (ya d) (g r)) :
 ∀ n,xt P w K mg base aM (k0+n) f e c (bW c.length (rP N.length g n)):=by
 intro n
 induction n with
 |zero=>exact znF
 |succ n h=>exact Ws Fu S λb A outer s H E i=>j n _ h b A outer s H E i
def nZ (K:zx):Sp:=λb H Q _=>∃ (a:Addr) (ns:zB),b=[.ref a]/\aK K H a (ns.map V.int)/\ns.length<=63/\∀ H',Q (.bl true) H'
end Dl
namespace Dl
open PySem L2
def UL {d:Addr}{w:World}{f:Addr}{k:Nat}{p:wI}(F:xt P w K e b aM k f c ps (@bW ⟨K,d⟩ 1 p))(h:∀ ns:zB,ns.length<=63->p [.scr ns]≈(.bl true)) :
 xt P w K e b aM k f c ps (nZ K):=by
 letI:KK:=⟨K,d⟩
 refine F.imp λm H Q E i=>?_
 obtain⟨a,ns,rfl,l,g,q⟩:=i
 refine⟨[.scr ns],.bl true,H,rfl,zS.refl _,.cons ?_ .nil,h ns g,λF' H' v _ j=>?_⟩
 .unfold At
  exact⟨a,rfl,l⟩
 .rw[j.bl_inv]
  exact q H'
structure jh (K:zx) (mg:wm) (x:Str) (st:Stmt) (ps:zG) (f:Addr) (fd:wL):Prop where
 fn:bQ K x x st f fd
 bd:xx K fd ps []
 at_:mg x≈(.ref f)
def jh.kp {f:Addr}(d:jh K a x e b f c):W.keepIn K (.ref f)=true:=d.fn.kp
inductive bu.w:bu->YH->YH->YH->(D->Prop)->Prop where
 |nx {ρ:SE} {n b k:YH} {r:D->Prop}:n ρ->bu.w (.nx ρ) n b k r
 |bk {ρ:SE} {n b k:YH} {r:D->Prop}:b ρ->bu.w (.bk ρ) n b k r
 |ct {ρ:SE} {n b k:YH} {r:D->Prop}:k ρ->bu.w (.ct ρ) n b k r
 |rt {d:D} {n b k:YH} {r:D->Prop}:r d->bu.w (.rt d) n b k r
section
variable {ρ:SE}{d:D}{n b k:YH}{r:D->Prop}
def bu.w.nxi (h:bu.w (.nx ρ) n b k r):n ρ:=by cases h;assumption
def bu.w.bki (h:bu.w (.bk ρ) n b k r):b ρ:=by cases h;assumption
def bu.w.cti (h:bu.w (.ct ρ) n b k r):k ρ:=by cases h;assumption
def bu.w.rti (h:bu.w (.rt d) n b k r):r d:=by cases h;assumption
def bu.w.noi (h:bu.w .no n b k r):False:=by cases h
end
abbrev cC:YH:=λ_=>False
section
variable {g h:zD}{ρ ρ':SE}{n b k:YH}{r:D->Prop}
def xz (e:(g ρ).w (fun ρ'=>(h ρ').w n b k r) b k r):(zI g h ρ).w n b k r:=by
 unfold zI
 cases a:g ρ with
 |nx ρ'=>rw[a]at e;exact e.nxi
 |bk ρ'=>rw[a]at e;exact .bk e.bki
 |ct ρ'=>rw[a]at e;exact .ct e.cti
 |rt d=>rw[a]at e;exact .rt e.rti
 |no=>rw[a]at e;exact e.noi.elim
def zt (e:g ρ=.nx ρ')(q:(h ρ').w n b k r):(zI g h ρ).w n b k r:=xz (by rw[e];exact .nx q)
def dH (e:g ρ=.nx ρ')(q:n ρ'):(g ρ).w n b k r:=by rw[e];exact .nx q
def vP {d:D}(e:g ρ=.rt d)(q:r d):(g ρ).w n b k r:=by rw[e];exact .rt q
def fL {t:vz}(e:t (visG ρ)≈c)(d:c=true->(g ρ).w n b k r)(a:c=false->(h ρ).w n b k r):(aB t g h ρ).w n b k r:=by
 unfold aB
 rw[e]
 cases c with
 |true=>exact d rfl
 |false=>exact a rfl
def Ck (e:rQ ρ i=ρ')(q:(g ρ').w n b k r):(jb i g ρ).w n b k r:=by
 unfold jb
 rw[e]
 exact q
theorem Ky {l:vA}(I:Nat->SE->Prop):∀ (e:zk) (j:Nat) (ρ:SE),I j ρ ->
 (∀ i d ρ,e[i]?≈d->I (j+i) ρ->∃ c,l d ρ≈c/\(g c).w (I (j+i+1)) n (I (j+i+1)) r)->(∀ ρ,I (j+e.length) ρ->n ρ)->(dG l g e ρ).w n b k r
 |[],j,ρ,h0,_,fin=>.nx (fin ρ h0)
 |d::e,j,ρ,h0,step,fin=>by
  obtain⟨c,q,a⟩:=step 0 d ρ rfl h0
  unfold dG
  rw[q]
  dsimp only
  have next:∀ ρ',I (j+1) ρ'->(dG l g e ρ').w n b k r:=fun ρ' o=>Ky I e (j+1) ρ' o
   (λi m ρ p h=>by
    have:=step (i+1) m ρ (by simpa using p) (by rw[show j+(i+1)=j+1+i by omega];exact h)
    rwa[show j+(i+1)+1=j+1+i+1 by omega]at this)
   (fun ρ h=>fin ρ (by rw[r4,show j+(e.length+1)=j+1+e.length by omega];exact h))
  cases f:g c with
  |nx ρ'=>rw[f]at a;exact next ρ' a.nxi
  |ct ρ'=>rw[f]at a;exact next ρ' a.cti
  |bk ρ'=>rw[f]at a;exact .nx a.bki
  |rt m=>rw[f]at a;exact .rt a.rti
  |no=>rw[f]at a;exact a.noi.elim
def nO {f:yE}{j:vA}{ds:zk}(I:Nat->SE->Prop)(e:f (visF ρ)≈ds)(h0:I 0 ρ)
 (a:∀ i d ρ,ds[i]?≈d->I i ρ->∃ h,j d ρ≈h/\(g h).w (I (i+1)) n (I (i+1)) r) (fin:∀ ρ,I ds.length ρ->n ρ):(Wh f j g ρ).w n b k r:=by
 unfold Wh
 rw[e]
 exact Ky I ds 0 ρ h0 (λi d ρ l c=>by rw[l0]at c ⊢;exact a i d ρ l c) (fun ρ c=>fin ρ (by rw[l0]at c;exact c))
end
def YB {m:Nat}{g:zD}{b:zk}{d:D}(e:b.map .v++List.replicate (m-b.length) .no=ρ)(q:(g ρ).w (λ_=>d=.non) cC cC (λc=>c=d)):aH m g b≈d:=by
 unfold aH
 rw[e]
 cases a:g ρ with
 |nx f=>rw[a]at q;rw[show d=.non from q.nxi]
 |rt c=>rw[a]at q;rw[show c=d from q.rti]
 |bk _=>rw[a]at q;exact q.bki.elim
 |ct _=>rw[a]at q;exact q.cti.elim
 |no=>rw[a]at q;exact q.noi.elim
def J7 {i:Nat}{f:zU}{a:SE}{ds:zk}{d:D}(g:aY m f a≈d)(c:a[i]?≈(.o ds))(e:ds.length<=1000):bV m i f a=.nx (a.set i (.o (ds++[d]))):=by
 unfold bV
 rw[g,c]
 show(match (if decide (ds.length<sizeLine) then some (a.set i (.o (ds++[d])))else none)with|some b=>bu.nx b|none=>bu.no)=_
 rw[q4 (t8 (wa e))]
def uN {b:iD}{t:vz}{f:zU}{d:Type}(c:d->D)(y:d->D):∀ (a:List d),(∀ x∈a,∃ own,b (c x)≈own/\t (own++ρ)≈true/\f (own++ρ)≈(y x))->fH b t f ρ (a.map c)≈(a.map y)
 |[],_=>rfl
 |x::a,h=>by
  obtain⟨own,g,j,e⟩:=h x o7
  show fH b t f ρ (c x::a.map c)=_
  unfold fH
  rw[g]
  simp only[k6,j,dW,e,uN c y a λz i=>h z (r0 _ i)]
  rfl
def QS {b:iD}{t:vz}{f:zU}{d:Ev}{e:Type}(c:e->D)(p:e->Bool)(y:e->D):∀ (a:List e),(∀ x∈a,∃ own,b (c x)≈own/\t (own++d)≈(p x)/\(p x=true->f (own++d)≈(y x)))->fH b t f d (a.map c)≈((a.filter p).map y)
 |[],_=>rfl
 |x::a,h=>by
  obtain⟨own,k,j,m⟩:=h x o7
  have i:=QS c p y a λz l=>h z (r0 _ l)
  show fH b t f d (c x::a.map c)=_
  unfold fH
  rw[k]
  simp only[k6,j]
  cases g:p x with
  |false =>
   rw[j4 u7,i,List.filter_cons,j4 (by rw[g];exact u7)]
  |true =>
   rw[q4 rfl,m g,i,List.filter_cons,q4 g]
   rfl
mutual
def bf:D->Bool
 |.tup ds=>fM ds
 |.lst ds=>fM ds
 |.scr _=>false
 |.obj _ _ _=>false
 |_=>true
def fM:zk->Bool
 |[]=>true
 |d::ds=>bf d&&fM ds
end
def Yf:∀ {ds:zk} {i:Nat} {d:D},fM ds=true->ds[i]?≈d->bf d=true
 |[],_,_,_,h=>by simp at h
 |d::ds,i,e,h,he=>by
  unfold fM at h
  rw[j7]at h
  cases i with
  |zero=>simp at he;subst he;exact h.1
  |succ i=>exact Yf h.2 (by simpa using he)
def Z1 {n:Nat}(h:n<=1000):bI n=true:=by
 unfold bI
 exact t8 (p6 (wa h))
end Dl
namespace Dl
open PySem L2
abbrev Pr:=Int × Int
def fG (t:Pr):D:=.tup [.int t.1,.int t.2]
def rD:D->Option Pr
 |.tup [.int a,.int b]=>some (a,b)
 |_=>none
def iC:zk->Option (List Pr)
 |[]=>some []
 |d::ds=>(rD d).bind λt=>(iC ds).map (t::·)
def zmK {d:D}{t:Pr}(h:rD d≈t):d=fG t:=by
 unfold rD at h
 split at h
 .cases h;rfl
 .cases h
def PB:∀ {b:zk} {a:List Pr},iC b≈a->b=a.map fG
 |[],a,h=>by cases h;rfl
 |d::b,a,h=>by
  unfold iC at h
  obtain⟨t,e,c⟩:=u4.mp h
  obtain⟨g,f,rfl⟩:=t4.mp c
  rw[zmK e,PB f]
  rfl
def Qy (a:List Pr):iC (a.map fG)≈a:=by
 induction a with
 |nil=>rfl
 |cons t a b =>
  show(rD (fG t)).bind (λu=>(iC (a.map fG)).map (u::·))=_
  rw[b]
  rfl
def jW (a b:Pr):Bool:=!OwnSort.bltP b a
def X4 (a:List Pr):List Pr:=a.mergeSort jW
def qI (a b:Int):Bool:=decide (a<=b)
def sJ (ns:zB):zB:=ns.mergeSort qI
def V6:OwnSort.bltP b a=false↔jW a b=true:=by unfold jW;simp
def vL:jW a b=true↔a.1<b.1\/(a.1=b.1/\a.2<=b.2):=by
 rw[<-V6]
 unfold OwnSort.bltP
 rw[p4]
 omega
def VR {f d:List Pr}(p:d.Perm f)(h:d.Pairwise λa b=>OwnSort.bltP b a=false):d=X4 f:=by
 refine Hd (le:=λa b=>jW a b=true) (λa b _ _ g e=>?_) (h.imp λx=>V6.mp x) ?_ (p.trans (Gx _ _).symm)
 .rw[vL]at g e
  exact gQ ∅ ∅
 .exact Hn (λa b c g e=>by rw[vL]at *;omega) (λa b=>by rw[Gm,vL,vL];omega) _
def zeU {g e:zB}(p:e.Perm g)(h:e.Pairwise (·<=·)):e=sJ g:=by
 refine Hd (le:=λa b=>qI a b=true) (λa b _ _ f d=>?_) (h.imp λx=>t8 x) ?_ (p.trans (Gx _ _).symm)
 .unfold qI at f d
  rw[j8]at f d
  omega
 .exact Hn (λa b c f d=>by unfold qI at *;rw[j8]at *;omega) (λa b=>by unfold qI;rw[Gm,j8,j8];omega) _
def jA:fQ
 |[.lst ds]=>if ds.length<64 then match iC ds with
  |some a=>some ((X4 a).map fG)
  |none=>match iz ds with
   |some ns=>some ((sJ ns).map .int)
   |none=>none
  else none
 |_=>none
variable [KK]
section
variable {X:Cx}{e:Expr}{pos:Pos}
def At.pr_inv {F:Hp}{t:Pr}(h:At F (fG t) v):∃ a,v=.ref a/\F a≈(.tup [.int t.1,.int t.2]):=by
 obtain⟨a,f,rfl,c,b⟩:=h.tup_inv
 obtain⟨x,r,rfl,d,b⟩:=b.cons_inv
 obtain⟨y,r,rfl,e,b⟩:=b.cons_inv
 cases b.nil_inv
 cases d.int_inv
 cases e.int_inv
 exact⟨a,rfl,c⟩
def zbJ (hc:X.calm=true):v5 X (.builtin "sorted") (λxs H Q=>∃ F p ys ds y,xs=[.ref p]/\zS F H/\H p≈(.lst ys)/\aq F ds ys/\jA [.lst ds]≈y/\∀ l zs,H l=none->aq F y zs->Q (.ref l) (aA H l (.lst zs))):=by
 intro S s σ H xs Z Q I r h
 obtain⟨F,p,ys,ds,y,rfl,sm,hp,Y,B,q⟩:=h
 obtain⟨u,rfl,ru⟩:=Z9 r
 cases ru
 obtain⟨c,rv,pl,hz⟩:=I.list (aK.of hp)
 have k:c.length=ds.length:=by rw[<-rv.length,Y.length]
 unfold jA at B
 dsimp only at B
 split at B <;> try cases B
 rename_i U
 have fin:∀ (zs:zy) (e:zz),zs.length<64->ym zs e->aq F y zs->EP X S σ Q (.ref (s.heap.objs.size+1)) { s with heap:=PyProof.Rows.sortedAll s.heap c e.toArray }:=λzs e m rz az=>by
  have hn:H (s.heap.objs.size+1)=none:=I.hok.fresh (gU _)
  obtain⟨ep,he⟩:=PyProof.Rows.sortedAll_at s.heap c e.toArray
  refine⟨.ref (s.heap.objs.size+1),aA H (s.heap.objs.size+1) (.lst zs),I.laid (t':=s.toks) (λb o z=>PyProof.Rows.sortedAll_old z) (gU _) ?_,rfl,q _ zs hn az⟩
  exact⟨p6 (wa ∅),e,ep,rz,he⟩
 split at B
 .rename_i K a1
  cases B
  have L:=PB a1
  subst L
  have A:∀ {v:Value},v∈c->∃ a t,v=.ref a/\t∈K/\F a≈(.tup [.int t.1,.int t.2])/\OwnSort.TP s.heap v t:=λ{v} T=>by
   obtain⟨j,hj,rfl⟩:=iK T
   have W:j<K.length:=by rw[u8]at k;omega
   obtain⟨x,hx,ax⟩:=Y.get (i:=j) (d:=fG K[j]) (by rw[k8];simp[W])
   obtain⟨a,rfl,M⟩:=ax.pr_inv
   obtain⟨v,T,E⟩:=rv.get hx
   have e1:c[j]?≈c[j]:=by simp[hj]
   rw[T]at e1
   cases e1
   have e2:c[j]=.ref a:=E
   refine⟨a,K[j],e2,jK W,M,?_⟩
   obtain⟨Z,ru,⟨o,ho,G,n,hd⟩,_⟩:=I.tuple (aJ.of (sm _ _ M))
   obtain⟨u1,u2,rfl,r1,r2⟩:=kY ru
   obtain⟨t1,rfl⟩:=r1
   obtain⟨t2,rfl⟩:=r2
   exact⟨a,o,n,t1,t2,e2,ho,G,hd⟩
  refine OwnSort.own_sorted pl.isList (λv T=>let ⟨a,t,_,_,_,D⟩:=A T;⟨t,D⟩) ∅ λN pm ri=>?_
  obtain⟨Z,l1,l2,l3⟩:=ri
  have a7:N.toList.length=K.length:=by rw[pm.length_eq,k,u8]
  -- the values' addresses
  have P:∀ (e:zz) (f:List Pr),e.length=f.length->(∀ w∈e,w∈c)->(∀ (i:Nat) v t,e[i]?≈v->f[i]?≈t->OwnSort.TP s.heap v t)->∃ zs:zy,ym zs e/\aq F (f.map fG) zs:=by
   intro e
   induction e with
   |nil =>
    intro f m _ _
    cases f with
    |nil=>exact⟨[],.nil,.nil⟩
    |cons _ _=>simp at m
   |cons w e ih =>
    intro f m hm D
    cases f with
    |nil=>simp at m
    |cons t f =>
     obtain⟨zs,O,z2⟩:=ih f (by simpa using m) (λw' a3=>hm w' (r0 _ a3)) (λi v t J C=>D (i+1) v t (by simpa using J) (by simpa using C))
     obtain⟨a,t',rfl,_,M,a0⟩:=A (hm w o7)
     have et:t'=t:=a0.uniq (D 0 _ t rfl rfl)
     subst et
     exact⟨.ref a::zs,.cons rfl O,.cons (.tup M (.cons .int (.cons .int .nil))) z2⟩
  obtain⟨zs,O,z2⟩:=P N.toList Z l1 (λw hw=>pm.mem_iff.mp hw) l2
  have g:Z.Perm K:=by
   -- by the keys of the values
   have kv:∀ (e:zz) (f:List Pr),e.length=f.length->(∀ (i:Nat) v t,e[i]?≈v->f[i]?≈t->OwnSort.TP s.heap v t)->f=e.map λv=>(OwnSort.keyP s.heap v).getD (0,0):=by
    intro e
    induction e with
    |nil=>intro f m _;cases f with
     |nil=>rfl
     |cons _ _=>simp at m
    |cons w e ih =>
     intro f m D
     cases f with
     |nil=>simp at m
     |cons t f =>
      rw[o4,OwnSort.keyP_of (D 0 w t rfl rfl),<- ih f (by simpa using m) λi v t J C=>D (i+1) v t (by simpa using J) (by simpa using C)]
      rfl
   rw[kv _ _ l1 l2,kv c K (by rw[k,u8]) λi v t J C=>?_]
   .exact pm.map _
   .obtain⟨x,hx,ax⟩:=Y.get (i:=i) (d:=fG t) (by rw[k8,C];rfl)
    obtain⟨a,rfl,M⟩:=ax.pr_inv
    obtain⟨v',R,E⟩:=rv.get hx
    rw[J]at R
    cases R
    obtain⟨a5,a4,⟨o,ho,G,n,hd⟩,_⟩:=I.tuple (aJ.of (sm _ _ M))
    obtain⟨u1,u2,rfl,r1,r2⟩:=kY a4
    obtain⟨t1,rfl⟩:=r1
    obtain⟨t2,rfl⟩:=r2
    exact⟨a,o,n,t1,t2,E,ho,G,hd⟩
  have e3:=VR g l3
  rw[e3]at z2
  have:=fin zs N.toList (by rw[O.length];rw[u8]at U;omega) O z2
  simpa using this
 .split at B <;> try cases B
  rename_i ns a2
  have L:=Fd a2
  subst L
  have hI:PyProof.Rows.IntsAre c ns:=v8 (by rw[<-Y.of_ints];exact rv)
  refine PyProof.Rows.sorted_ints pl.isList hI ∅ λN a6 J C h3=>?_
  have e3:=zeU C h3
  subst e3
  have O:ym ((sJ ns).map V.int) N.toList:=QC J
  have:=fin ((sJ ns).map V.int) N.toList (by rw[u8,C.length_eq];rw[u8]at U;omega) O (.ints _)
  simpa using this
def zh8 {p:Pos} {f:yE} (E:X.calm=true) (g:Gl X "sorted") (v:X.mg "sorted"=none) (j:AD X [e] f)
 (G:starEach [e] X.env=(false,eval e X.env)::starEach [] X.env:=by rfl) (d:(backTo pos (starEach [] X.env)).any (·.1)=false:=by rfl):FL X (.Call (.Name "sorted" p) [e] [] pos) (bJ jA f):=by
 obtain⟨t,k,u⟩:=j
 refine⟨_,yy (zbJ E) g v Qx k ⋯ ⋯ G d,λB J F H z Q s n e q=>?_⟩
 obtain⟨A,C,h⟩:=u4.mp e
 refine u B J F H A _ s n C λF1 H1 K b y=>?_
 have a:=h
 unfold jA at a
 split at a
 .obtain⟨x,r,rfl,i,I⟩:=y.cons_inv
  cases I.nil_inv
  obtain⟨p,m,rfl,w,bl⟩:=i.lst_inv
  exact⟨F1,p,m,_,z,rfl,b.fh,b.fh _ _ w,bl,h,λl zs c o=>q _ _ _ _ (b.trans (Gr.hide b.fh c _)) (gH b c) (b.fh.free c) zl o⟩
 .cases a
end
end Dl
namespace Dl
open PySem L2
variable [KK]
def rC:wI
 |[.int i]=>some (.int i)
 |[.bl k]=>some (.int (if k then 1 else 0))
 |_=>none
def zja:eG (λa H Q=>(∃ i,a=[.int i]/\Q (.int i) H)\/∃ k,a=[.bl k]/\Q (.int (if k then 1 else 0)) H) rC:=by
 intro F H g f z Q s c e q
 unfold rC at e
 split at e <;> cases e
 all_goals
  obtain⟨x,r,rfl,b,d⟩:=c.cons_inv
  cases d.nil_inv
 .exact .inl ⟨_,by rw[b.int_inv],q F H _ (.refl s) .int⟩
 .exact .inr ⟨_,by rw[b.bl_inv],q F H _ (.refl s) .int⟩
end Dl
namespace Dl
open PySem L2
variable [KK]
section
variable {X:Cx}{a b:Expr}{pos:Pos}
def xj {a:vu}:bM X a aU:=⟨_,zhM,λ_ _ _ _ _ _ _ _ h=>h.elim⟩
end
end Dl
namespace Dl
open PySem L2
variable [KK]
section
variable {X:Cx}{a e:Expr}
def NB:V->zy->Hp->VK->Prop:=λx c H Q=>∃ G d a y l b j,x=.ref l/\c=[y]/\zS G H/\G l≈(.lst b)/\aq G a b/\At G d y/\aL 20 d=true/\a.all (aL 20)=true/\j<a.length/\aO 20 (a.getD j .non) d=true/\(∀ m,m<j->aO 20 (a.getD m .non) d=false)/\Q (.int (j:Int)) H
def Fp {k:Nat}{a:xv}{t:St}{d:D}{f:zk}{g:zy}(v:xc k X.A)(I:aa X a t H s)(x:zS G H)(A:aL 20 d=true)(e:f.all (aL 20)=true)(q:At G d y)(w:y0 y u)(l:aq G f g)(r:ym g h):∀ z∈h,SeqAt.EqAt X.A.in1 s z u (Z5 G d z):=λz o=>by
 have n:X.A.in1.units+20<cLine:=by have:=v.un;show X.A.units+1+20<cLine;omega
 obtain⟨j,p,rfl⟩:=iK o
 obtain⟨B,i,b⟩:=l.nth r p
 have c:j<f.length:=by have:=l.length;have:=r.length;omega
 have m:=xN e c
 rw[Xl i b m]
 exact Vt I x 20 m A i q b w n
def zh9 {k:Nat} (P:xc k X.A):mQ X "list.index" NB:=by
 intro D s σ H x V v Y Q I N L h
 obtain⟨G,d,C,y,l,T,j,rfl,rfl,E,M,f,O,S,c,Z,i,w,q⟩:=h
 cases N
 obtain⟨u,rfl,R⟩:=L.one
 obtain⟨z,a,n,r,K,e⟩:=I.lstM (E _ _ M)
 have o:=Fp P I E S c O R f r
 have B:a.length=C.length:=by rw[<-K,f.length]
 have b:∀ m (t:m<a.length),Z5 G d a[m]=aO 20 (C.getD m .non) d:=λm t=>by
  obtain⟨U,J,A⟩:=f.nth r t
  exact Xl J A (xN c ∅)
 have p:((j:Nat):Int)<2^63-1:=by
  have h1:j<sizeLine:=by have:=f.length;omega
  have W:(sizeLine:Int)<2^63-1:=by decide
  omega
 refine dw Bk ⟨_,e,rfl⟩ Q0 (Q4 _ _) (SeqAt.list_indexAt l a.toArray n none #[] u (Z5 G d) j (by rw[t9];omega) p ?_ ?_) ⟨e,λy F=>o y (by simpa using F),?_⟩
 .show Z5 G d a[j]=true
  rw[b j ∅]
  exact i
 .intro m t g
  show Z5 G d a[m]=false
  rw[b m ∅]
  exact w m g
 .exact⟨.int (j:Int),H,I.tok _,⟨_,rfl⟩,q⟩
def Cd (c d:D):Option D:=match c with
 |.lst a=>if aL 20 d=true/\a.all (aL 20) then (a.findIdx? λe=>aO 20 e d).map λ(j:Nat)=>D.int (j:Int)else none
 |_=>none
def YC (m:xL)(f:zU)(g:yE):zU:=λa=>(f a).bind λc=>(g a).bind λb=>match b with
 |[d]=>m c d
 |_=>none
def zkE {p:Pos} {f:zU} {g:yE} (L:ED X a f) (Z:AD X [e] g) (V:∀ {r:TE} {t:TA},PE X a r->PA X [e] t->PE X (.Call (.Attribute a "index" p) [e] [] b) (ig X.K "list" NB r t)):ED X (.Call (.Attribute a "index" p) [e] [] b) (YC Cd f g):=by
 obtain⟨r,P,R⟩:=L
 obtain⟨t,K,J⟩:=Z
 refine⟨_,V P K,λI A F H z Q s C h0 q=>?_⟩
 obtain⟨c,Y,G⟩:=u4.mp h0
 obtain⟨as,N,h⟩:=u4.mp G
 clear h0 G
 split at h
 .rename_i d
  unfold Cd at h
  split at h
  .rename_i o
   split at h
   .rename_i B
    obtain⟨j,U,rfl⟩:=t4.mp h
    obtain⟨x,S,M⟩:=List.findIdx?_eq_some_iff_getElem.mp U
    refine R I A F H _ _ s C Y λF1 H1 v k W=>?_
    obtain⟨l,u,rfl,E,O⟩:=W.lst_inv
    refine⟨.inl ⟨rfl,u,aK.of (k.fh _ _ E)⟩,?_⟩
    refine J I A F1 H1 _ _ k.fh (C.mono k.ff) N λF2 H2 vs i a2=>?_
    obtain⟨y,r',rfl,T,ar⟩:=a2.cons_inv
    cases ar.nil_inv
    have w:∀ m (n:m<o.length),o.getD m .non=o[m]:=λm n=>by rw[l4,o6 n];rfl
    refine⟨F2,d,o,y,l,u,j,rfl,rfl,i.fh,i.ff _ _ E,O.mono i.ff,T,B.1,B.2,x,?_,?_,q F2 H2 _ (k.trans i) .int⟩
    .rw[w j x];exact S
    .intro m n
     rw[w m ∅]
     have:=M m n
     simpa using this
   .cases h
  .cases h
 .cases h
end
end Dl
namespace Dl
open PySem L2
def Ci:D->Option aD
 |.int i=>some (.inl i)
 |.str x=>some (.inr x)
 |_=>none
def sE:zk->Option (List aD)
 |[]=>some []
 |d::ds=>(Ci d).bind λk=>(sE ds).map (k::·)
def qJ:D->Option (List aD)
 |.tup a=>sE a
 |_=>none
def jo (t:Bool)(d:D):Option (List aD):=if t then qJ d else (Ci d).map ([·])
def qK:Int->Int->Bool
 |.ofNat a,.ofNat b=>Nat.beq a b
 |.negSucc a,.negSucc b=>Nat.beq a b
 |_,_=>false
def Qd:qK a b=true↔a=b:=by
 cases a with
 |ofNat a=>cases b with
  |ofNat b=>exact⟨λh=>(by rw[Nat.eq_of_beq_eq_true h]),λh=>(by cases h;exact Nat.beq_refl a)⟩
  |negSucc b=>exact⟨λh=>(by cases h),λh=>(by cases h)⟩
 |negSucc a=>cases b with
  |ofNat b=>exact⟨λh=>(by cases h),λh=>(by cases h)⟩
  |negSucc b=>exact⟨λh=>(by rw[Nat.eq_of_beq_eq_true h]),λh=>(by cases h;exact Nat.beq_refl a)⟩
def tM:aD->aD->Bool
 |.inl i,.inl j=>qK i j
 |.inr a,.inr b=>decide (a=b)
 |_,_=>false
def rE:List aD->List aD->Bool
 |[],[]=>true
 |a::r,b::s=>match tM a b with
  |true=>rE r s
  |false=>false
 |_,_=>false
def Qi:tM a b=true↔a=b:=by
 cases a with
 |inl i=>cases b with
  |inl j=>exact⟨λh=>(by rw[Qd.mp h]),λh=>(by cases h;exact Qd.mpr rfl)⟩
  |inr b=>exact⟨λh=>(by cases h),λh=>(by cases h)⟩
 |inr i=>cases b with
  |inl j=>exact⟨λh=>(by cases h),λh=>(by cases h)⟩
  |inr b=>exact⟨λh=>(by rw[k9 h]),λh=>(by cases h;exact t8 rfl)⟩
def Pu:rE x y=true↔x=y:=by
 induction x generalizing y with
 |nil=>cases y with
  |nil=>exact⟨λ_=>rfl,λ_=>rfl⟩
  |cons b s=>exact⟨λh=>(by cases h),λh=>(by cases h)⟩
 |cons a r c=>cases y with
  |nil=>exact⟨λh=>(by cases h),λh=>(by cases h)⟩
  |cons b s =>
   show(match tM a b with|true=>rE r s|false=>false)=true↔_
   cases h:tM a b with
   |true=>rw[Qi.mp h];exact c.trans ⟨λh=>(by rw[h]),λh=>(by cases h;rfl)⟩
   |false=>exact⟨λh=>(by cases h),λe=>(by cases e;rw[Qi.mpr rfl]at h;cases h)⟩
def DN (x y:List aD):Decidable (x=y):=match h:rE x y with
 |true=>.isTrue (Pu.mp h)
 |false=>.isFalse λe=>by rw[Pu.mpr e]at h;cases h
def WF:List (List aD)->zk->List aD->Option D
 |k'::ks,v::vs,k=>@ite _ (k'=k) (DN k' k) (some v) (WF ks vs k)
 |_,_,_=>none
def rB:List (List aD)->zk->List aD->D->zk
 |k'::ks,v::vs,k,d=>(@ite _ (k'=k) (DN k' k) d v)::rB ks vs k d
 |_,_,_,_=>[]
def oF (a:List (List aD))(b:zk)(k:List aD):List (List aD):=if (WF a b k).isSome then a else a++[k]
def oG (b:List (List aD))(a:zk)(k:List aD)(d:D):zk:=if (WF b a k).isSome then rB b a k d else a++[d]
def Qh {k:List aD}:WF (a::b) (v::c) k=if a=k then some v else WF b c k:=by
 show @ite _ (a=k) (DN a k) (some v) (WF b c k)=_
 by_cases h:a=k
 .rw[q4 h,q4 h]
 .rw[j4 h,j4 h]
section
variable [KK]
def En {d:D}{k:aD}(h:Ci d≈k)(a:At F d y):y=kV k:=by
 cases d with
 |int i=>cases h;exact a.int_inv
 |str x=>cases h;exact a.str_inv
 |_=>cases h
def O2:∀ {b:zk} {c:List aD} {e:zy},sE b≈c->aq F b e->e=c.map kV
 |[],_,_,h,a=>by cases h;exact a.nil_inv
 |d::b,_,_,h,a=>by
  obtain⟨k,i,f⟩:=u4.mp h
  obtain⟨r,g,rfl⟩:=t4.mp f
  obtain⟨x,m,rfl,j,l⟩:=a.cons_inv
  rw[En i j,O2 g l]
  rfl
def Mm {F:Hp}{d:D}{k:List aD}(h:qJ d≈k)(a:At F d y):∃ b,y=.ref b/\F b≈(.tup (k.map kV)):=by
 cases d with
 |tup f =>
  obtain⟨b,g,rfl,c,e⟩:=a.tup_inv
  rw[O2 (show sE f≈k from h) e]at c
  exact⟨b,rfl,c⟩
 |_=>cases h
section
variable {κ:Type}[DecidableEq κ](f:κ->List aD)(hf:∀ a b,f a=f b->a=b)
include hf
theorem uZ {k:κ}:∀ {b:List (κ × V)} {c:zk},aq F c (b.map (·.2)) ->
 (∀ d,WF (b.map λp=>f p.1) c (f k)≈d->∃ x,dJ b k≈x/\At F d x)/\(WF (b.map λp=>f p.1) c (f k)=none->dJ b k=none)
 |[],_,_=>⟨λd h=>(by cases h),λ_=>rfl⟩
 |p::b,[],a=>by cases a.nil_inv
 |p::b,v::c,a=>by
  obtain⟨x,r,e,j,g⟩:=a.cons_inv
  cases e
  have i:=uZ (k:=k) g
  by_cases h:p.1=k
  .rw[Wk h]
   have e:WF ((p::b).map λp=>f p.1) (v::c) (f k)≈v:=by
    rw[o4,Qh,q4 (by rw[h])]
   rw[e]
   exact⟨λd z=>(by cases z;exact⟨_,rfl,j⟩),λz=>(by cases z)⟩
  .rw[Wg h]
   have e:WF ((p::b).map λp=>f p.1) (v::c) (f k)=WF (b.map λp=>f p.1) c (f k):=by
    rw[o4,Qh,j4 (λz=>h (hf _ _ z))]
   rw[e]
   exact i
theorem zkK {k:κ}{b:List (κ × V)}(a:aq F c (b.map (·.2))):(WF (b.map λp=>f p.1) c (f k)).isSome=(dJ b k).isSome:=by
 obtain⟨i,g⟩:=uZ f hf (k:=k) a
 cases h:WF (b.map λp=>f p.1) c (f k) with
 |none=>rw[g h];rfl
 |some d=>obtain⟨x,e,_⟩:=i d h;rw[e];rfl
theorem Ni {k:κ}{d:D}(i:At F d y):∀ {b:List (κ × V)} {c:zk},aq F c (b.map (·.2)) ->
 aq F (rB (b.map λp=>f p.1) c (f k) d) ((b.map λg=>if g.1=k then (g.1,y)else g).map (·.2))
 |[],_,_=>by unfold rB;exact .nil
 |p::b,[],a=>by cases a.nil_inv
 |p::b,v::c,a=>by
  obtain⟨x,r,e,j,l⟩:=a.cons_inv
  cases e
  have m:=Ni (k:=k) i l
  rw[o4,o4]
  refine aq.cons ?_ m
  by_cases h:p.1=k
  .rw[q4 h,q4 (by rw[h])];exact i
  .rw[j4 h,j4 (λz=>h (hf _ _ z))];exact j
theorem Oq {k:κ}{d:D}(g:At F d y){b:List (κ × V)}(a:aq F c (b.map (·.2))) :
 (dm b k y).map (λp=>f p.1)=oF (b.map λp=>f p.1) c (f k)/\aq F (oG (b.map λp=>f p.1) c (f k) d) ((dm b k y).map (·.2)):=by
 unfold dm oF oG
 rw[zkK f hf a,Gb]
 cases h:(dJ b k).isSome with
 |true =>
  rw[q4 rfl,q4 rfl,q4 rfl]
  refine⟨?_,Ni f hf g a⟩
  rw[iV]
  refine Gy λp _=>?_
  by_cases e:p.1=k
  .show f (if p.1=k then (p.1,y)else p).1=_;rw[q4 e]
  .show f (if p.1=k then (p.1,y)else p).1=_;rw[j4 e]
 |false =>
  rw[j4 u7,j4 u7,j4 u7,g5,g5]
  exact⟨rfl,a.append (.cons g .nil)⟩
end
def Mq (a b:aD)(h:[a]=[b]):a=b:=by cases h;rfl
def Lq (a b:List aD)(h:a=b):a=b:=h
def zmR {t:Bool}{g:zk}{k:List aD}(s:zS F H)(c:gD F a z t h i)(l:aq F g i)(f:jo t n≈k)(m:At F n y) :
 ∃ o,Cp H a y o/\(∀ d,WF h g k≈d->∃ x,o≈x/\At F d x)/\(WF h g k=none->o=none):=by
 obtain⟨u,c,j⟩:=(c.mono s).rd
 unfold cR at c
 unfold jo at f
 cases t with
 |true =>
  rw[q4 rfl]at c f
  obtain⟨e,rfl,rfl,rfl⟩:=c
  obtain⟨b,rfl,q⟩:=Mm f m
  exact⟨_,.inr ⟨e,k,b,j,rfl,s _ _ q,rfl⟩,uZ (λk=>k) Lq l⟩
 |false =>
  rw[j4 u7]at c f
  obtain⟨e,rfl,rfl,rfl⟩:=c
  obtain⟨r,p,rfl⟩:=t4.mp f
  rw[En p m]
  exact⟨_,.inl ⟨e,r,j,rfl,rfl⟩,uZ (λk=>[k]) Mq l⟩
def zm3 {H:Hp}{t:Bool}{f:List (List aD)}{w d:D}{k:List aD}(h:H a≈o)(c:cR o t f m)(r:aq F i m)(e:jo t w≈k)(u:At G w y)(s:zS G H)(n:At F d v)(q:f.length<sizeLine):∃ p,gm H a y v (aA H a p)/\dC F p (.m t (oF f i k) (oG f i k d)):=by
 unfold cR at c
 unfold jo at e
 cases t with
 |true =>
  rw[q4 rfl]at c e
  obtain⟨g,rfl,rfl,rfl⟩:=c
  obtain⟨b,rfl,z⟩:=Mm e u
  obtain⟨l,j⟩:=Oq (λk=>k) Lq (k:=k) n r
  refine⟨_,gm.t h (s _ _ z) (by simpa using q),_,?_,j⟩
  unfold cR
  rw[q4 rfl]
  exact⟨_,rfl,l,rfl⟩
 |false =>
  rw[j4 u7]at c e
  obtain⟨g,rfl,rfl,rfl⟩:=c
  obtain⟨A,x,rfl⟩:=t4.mp e
  rw[En x u]
  obtain⟨l,j⟩:=Oq (λk=>[k]) Mq (k:=A) n r
  refine⟨_,gm.k h (by simpa using q),_,?_,j⟩
  unfold cR
  rw[j4 u7]
  exact⟨_,rfl,l,rfl⟩
def mZ (a:Bool):xL
 |kd,.dct _ t ks vs=>(jo t kd).map λk=>.bl (a != (WF ks vs k).isSome)
 |_,_=>none
section
variable {X:Cx}{a b c:Expr}{pos apos:Pos}
def qF (b:Bool):R2:=λx y H Q=>∃ a o,y=.ref a/\Cp H a x o/\Q (.bl (b != o.isSome)) H
def Ef {k:Nat}(d:xc k X.A):aP X (compareOp .In) (qF false):=by
 intro b s i H x y v u Q I c e h
 obtain⟨a,o,rfl,g,q⟩:=h
 obtain rfl:u=Value.ref a:=e
 exact Ir (JF d) I g c λf I3=>⟨.bl o.isSome,H,I3,rfl,by simpa using q⟩
def Ej {a:Bool}:bh (qF a) (mZ a):=by
 intro F H x y d e z Q s l m h q
 cases e with
 |dct v t c b =>
  obtain⟨k,j,rfl⟩:=t4.mp h
  obtain⟨p,u,rfl,f,n⟩:=m.dct_inv
  obtain⟨o,g,i,r⟩:=zmR s f n j l
  refine⟨p,o,rfl,g,?_⟩
  have e:(WF c b k).isSome=o.isSome:=by
   cases h:WF c b k with
   |none=>rw[r h];rfl
   |some d=>obtain⟨w,rfl,_⟩:=i d h;rfl
  rw[<-e]
  exact q F H _ (.refl s) .bl
 |_=>cases h
end
section
variable {X:Cx}{a e ko:Expr}{pos pos':Pos}{st:Stmt}
def tE (t:Bool)(i:Nat):zD:=λa=>.nx (a.set i (.m t [] []))
def LR {t:Bool}{i:Nat}(j:X.N.Nodup)(h:X.N[i]?≈x)(l:bY X.env.scope x)(e:swapsWith (.Dict [] [] pos) (some (.Name x pos')) pos.line X.env=pure false:=by rfl)(m:X.fn x=true\/X.env.scope.names.lookup x≈.local:=by first|exact .inl rfl|exact .inr rfl|assumption){f:Pos}(e:swapsWith (.Dict [] [] f) (some (.Name x pos')) pos.line X.env=pure false:=by rfl):SD X (.Assign [.Name x pos'] (.Dict [] [] f) pos) (tE t i):=by
 have n:∀ (o:HO),dC (λ_=>none) o (.m t [] [])->∀ (Fb Hb F H:Hp) (c:SE) (d:St) (E:VN),Rl Fb Hb F H c d->mK Fb Hb E (tE t i c)->∀ p,H p=none->E.nx (d.set i (some (.ref p))) (aA H p o):=λo q Fb Hb F H c d E a k p b=>by
  have g:=Gr.hide a.gr.fh b o
  refine k F _ _ ((a.grow g).setW (a.notbase b) (a.gr.fh.free b) zl (q.mono λ_ _ z=>by cases z) (a.notown g b))
 cases t with
 |true =>
  refine⟨_,Yq j h l zky e m,λFb Hb F H c d E a k=>?_⟩
  refine λp b=>n (.dT []) ⟨[],?_,.nil⟩ Fb Hb F H c d E a k p b
  unfold cR
  rw[q4 rfl]
  exact⟨[],rfl,rfl,rfl⟩
 |false =>
  refine⟨_,Yq j h l zkI e m,λFb Hb F H c d E a k=>?_⟩
  refine λp b=>n (.dK []) ⟨[],?_,.nil⟩ Fb Hb F H c d E a k p b
  unfold cR
  rw[j4 u7]
  exact⟨[],rfl,rfl,rfl⟩
def kj (a:SE)(i:Nat)(b d:D):Option SE:=match a[i]? with
 |some (.m t ks vs)=>(jo t b).bind λk=>if decide (ks.length<sizeLine) then some (a.set i (.m t (oF ks vs k) (oG ks vs k d)))else none
 |_=>none
def kW (m:Bool)(i:Nat)(f e:zU):zD:=λb=>match (aY m e b).bind λd=>(f (visG b)).bind λc=>kj b i c d with
 |some a=>.nx a
 |none=>.no
def M6 {k:Nat}{w:zU}(Z:xc k X.A)(he:ED X e w)(N:PE X a (Zh i))(Q:ED X ko x)(l:swapsWith e (some (.Subscript a ko pos')) pos.line X.env=pure false:=by rfl):SD X (.Assign [.Subscript a ko pos'] e pos) (kW m i x w):=by
 obtain⟨t,p,r⟩:=he
 obtain⟨tk,P,L⟩:=Q
 refine⟨_,znk (JF Z) N P p l,λFb Hb F H y I E z k=>?_⟩
 unfold kW at k
 cases h:(aY m w y).bind λd=>(x (visG y)).bind λJ=>kj y i J d with
 |none=>rw[h]at k;exact k.elim
 |some R =>
  rw[h]at k
  obtain⟨d,W,c⟩:=u4.mp h
  obtain⟨J,M,c⟩:=u4.mp c
  unfold kj at c
  split at c
  .rename_i tt B vs l
   obtain⟨kk,S,n⟩:=u4.mp c
   have A:decide (B.length<sizeLine)=true:=by
    cases T:decide (B.length<sizeLine) with
    |true=>rfl
    |false=>rw[T,j4 u7]at n;cases n
   rw[q4 A]at n
   cases n
   refine r.at z W λF' H' v g U=>?_
   have b:=z.grow g
   obtain⟨q,o,u,_⟩:=b.ows i _ l rfl
   refine⟨_,u,?_⟩
   refine L I _ _ H' _ _ b.gh b.visG M λF3 H3 v3 C s=>?_
   obtain⟨G,_⟩:=b.back C
   have f:=b.grow G
   obtain⟨q3,o3,j,_,_,Y,xs,O,K⟩:=f.ows i _ l rfl
   rw[u]at j
   cases j
   obtain⟨o',V,hw⟩:=zm3 Y O K S s C.fh (U.mono G.ff) (k9 A)
   exact⟨q,_,rfl,V,k _ _ I (f.mutW l rfl u hw)⟩
  .cases c
end
end
end Dl
namespace L2
open PySem PySem.Spec PyProof.Rows
section
variable {prog:zM}{w:World}{A:zN}{E:yI}{s:zn}{d it:Addr}{o:Obj}{es:Array DictEntry}{ep i:Nat}
def raw_iter {Q:yI}(e:(d == sysModules)=false)(a:s.heap.get? d≈o)(f:o.ExactDict)(c:o.data=.dict es ep)
 (g:Q (.ref s.heap.objs.size) { s with heap:=s.heap.push { cls:=.type "dict_keyiterator",data:=.fields #[.ref d,.int 0 0,.int es.size 0,.int ep 0] } }):wpAny (model prog w) A (pyIter (.ref d)) Q E s:=by
 have b:s.TypeIs (.ref d) "dict":=⟨o,a,f.1⟩
 refine wpAny_pyIter_slot b PySem.F.slot_dict_iter (l9 PySem.F.slot_dict_iter b PySem.F.entry_dict_iter ?_ (PySem.F.args_dict_iter_1 _))
 unfold Builtin.«dict.__iter__»
 refine u5 ?_
 unfold Builtin.Dict.dictSlotNone
 refine u5 (wpAny_notOrdered_dict b ?_)
 show wpAny _ _ (pure (Value.ref d)) _ _ s
 refine t5 ?_
 show wpAny _ _ (Builtin.Dict.showsAll d>>=_) _ _ s
 unfold Builtin.Dict.showsAll
 rw[j4 (by rw[e];exact u7)]
 refine u5 (t5 (u5 (GC a c (u5 (wpAny_dictEpoch a c ?_)))))
 refine u5 (i6 (t5 ⟨_,rfl,"dict_keyiterator",_,⟨_,j5 _ rfl,rfl⟩,i4.lookup,?_⟩))
 simpa [rawInt]using g
def raw_next {e:DictEntry}{Q:Option Value->Shared->Prop}(a:s.heap.IsKeyIter it d i es.size ep)(l:s.heap.get? d≈o)(k:o.data=.dict es ep)(n:es[i]?≈e)
 (m:∀ h,h.IsKeyIter it d (i+1) es.size ep->Heap.SameBut it s.heap h->Q (some e.key) { s with heap:=h }):wpAny (model prog w) A (pyNext (.ref it)) Q E s:=by
 obtain⟨p,f,j,b⟩:=id a
 unfold pyNext
 refine u5 (ie (p5 (name:=Str.ofString "__next__") a.typeIs i4
  (l9 i4 a.typeIs Q6 ?_ (Q7 _))))
 refine u5 (t5 ?_)
 refine u5 ?_
 refine u5 ?_
 first|refine u5 (Bq a.typeIs (t5 ?_))|refine u5 (Bm a.typeIs (t5 ?_))
 refine u5 (wpAny_fieldsOf f b ?_)
 have g:Builtin.Dict_items.ownsTuple "dict_keyiterator"=false:=by decide
 simp only[g,my,fB]
 show wpAny _ _ (if (Value.ref d == Value.none) then _ else _) _ _ s
 rw[j4 (show ¬ ((Value.ref d == Value.none)=true)from u7)]
 refine u5 (t5 (u5 (GC l k ?_)))
 rw[j4 (by simp)]
 refine u5 (t5 (u5 (wpAny_dictEpoch l k ?_)))
 rw[j4 (by simp)]
 refine t5 ?_
 simp only[show ¬ ((i:Int)<0)from by omega,fB,mj,n]
 refine u5 ?_
 first|refine u5 (Bq a.typeIs (t5 ?_))|refine u5 (Bm a.typeIs (t5 ?_))
 refine u5 (wpAny_isOneOf_keyiter a.typeIs ?_)
 show wpAny _ _ (setField (.ref it) 1 (rawInt ((i:Int)+1))>>=_) _ _ s
 refine u5 (An f b (by simp) ?_)
 have c:(s.heap.update it (Obj.mapFields (·.setIfInBounds 1 (rawInt ((i:Int)+1))))).IsKeyIter it d (i+1) es.size ep :=
  ⟨_,h9 _ f (Obj.isFreed_of_fields (Be b _)),(Obj.cls_mapFields ..).trans j,by rw[Be b];simp[rawInt]⟩
 refine u5 (o9 ?_)
 refine u5 (wpAny_isOneOf_keyiter (s:={ s with heap:=s.heap.update it (Obj.mapFields (·.setIfInBounds 1 (rawInt ((i:Int)+1)))) }) c.typeIs ?_)
 show wpAny _ _ (pure e.key) _ _ _
 exact t5 (t5 ⟨_,rfl,t5 (m _ c (Ar ..))⟩)
def raw_end {Q:Option Value->Shared->Prop}(q:A.handled=none)(c:s.heap.IsKeyIter it d i es.size ep)(k:s.heap.get? d≈o)(j:o.data=.dict es ep)(n:es.size<=i)
 (l:∀ h,Heap.ExtBut it s.heap h->Q none { s with heap:=h }):wpAny (model prog w) A (pyNext (.ref it)) Q E s:=by
 obtain⟨r,g,p,e⟩:=id c
 unfold pyNext
 refine u5 (ie (p5 (name:=Str.ofString "__next__") c.typeIs i4
  (l9 i4 c.typeIs Q6 ?_ (Q7 _))))
 refine u5 (t5 ?_)
 refine u5 ?_
 refine u5 ?_
 first|refine u5 (Bq c.typeIs (t5 ?_))|refine u5 (Bm c.typeIs (t5 ?_))
 refine u5 (wpAny_fieldsOf g e ?_)
 have f:Builtin.Dict_items.ownsTuple "dict_keyiterator"=false:=by decide
 simp only[f,my,fB]
 show wpAny _ _ (if (Value.ref d == Value.none) then _ else _) _ _ s
 rw[j4 (show ¬ ((Value.ref d == Value.none)=true)from u7)]
 refine u5 (t5 (u5 (GC k j ?_)))
 rw[j4 (by simp)]
 refine u5 (t5 (u5 (wpAny_dictEpoch k j ?_)))
 rw[j4 (by simp)]
 refine t5 ?_
 simp only[show ¬ ((i:Int)<0)from by omega,fB,mj,Array.getElem?_eq_none n]
 refine u5 ?_
 first|refine u5 (Bq c.typeIs (t5 ?_))|refine u5 (Bm c.typeIs (t5 ?_))
 show wpAny _ _ (setField (.ref it) 0 .none>>=_) _ _ s
 refine u5 (An g e (by simp) ?_)
 show wpAny _ _ (newExc (.type "StopIteration") []>>=_) _ _ _
 refine u5 ?_
 simp only[newExc,newTuple]
 refine u5 (i6 ?_ (by size_fits))
 refine u5 (m:=firstArgMember _ _) (wpAny_of_eq (a:=Value.none) (by first|rfl | (simp only[firstArgMember];rfl)) ?_)
 refine i6 ?_ (by size_fits)
 simp only[raiseNew]
 refine u5 (wpAny_handled ?_)
 rw[show A.in1.handled=none from q]
 refine u5 (t5 (wpAny_throw ?_))
 refine u5 (wpAny_isInstance (T:="StopIteration") (b:=true) ⟨_,j5 _ rfl,rfl⟩ isSubtype_stop ?_)
 exact t5 (l _ (((Ar ..).extBut.push _).push _))
end
def Iv:HO->Nat
 |.dK a=>a.length
 |.dT a=>a.length
 |_=>0
def sY (u:HO):Prop:=(∃ a,u=.dK a)\/∃ a,u=.dT a
section
variable {X:Cx}{tg:Expr}
def aa.frz {a:xv}{j:St}{H:Hp}{s:zn}{p:Addr}{u:HO}(I:aa X a j H s)(e:H p≈u)(i:sY u):∃ n,aa X a j (aA H p (.frz n u)) s:=by
 have ok:=I.hok p u e
 have l:mO (H p):=by
  rw[e]
  rcases i with ⟨c,rfl⟩|⟨c,rfl⟩ <;> exact True.intro
 rcases i with ⟨c,rfl⟩|⟨c,rfl⟩
 .obtain⟨z,d,q,v,o,g,h,f,r⟩:=ok
  refine⟨o,I.write (h':=s.heap) (t':=s.toks) l (.inl rfl) (λb u _ e=>e) ⟨o,f⟩ ⟨f,z,d,q,v,o,g,h,f,r⟩⟩
 .obtain⟨z,d,m,t,o,g,h,f,r⟩:=ok
  refine⟨o,I.write (h':=s.heap) (t':=s.toks) l (.inl rfl) (λb u _ e=>e) ⟨o,f⟩ ⟨f,z,d,m,?_,o,g,h,f,r⟩⟩
  exact KT.keeps t λb w k=>by
   rw[zj (sU k e (λz=>nomatch z))]
   exact k
def Hz (i:Nat)(t:TS):TS:=λE a H=>∃ p u,a[i]?≈(some (.ref p))/\H p≈u/\sY u/\∀ b,t E a (aA H p (.frz b u))
def znl {t:TS}(i:Nat)(h:bF X b t):bF X b (Hz i t):=by
 intro a s c H E I q
 obtain⟨p,u,_,e,d,q⟩:=q
 obtain⟨f,I2⟩:=I.frz e d
 exact h a s c _ E I2 (q f)
end
end L2
namespace Dl
open PySem L2
section
variable [KK]
def znm {t:Bool}{b:List (List aD)}(h:cR u t b c):sY u/\Iv u=b.length:=by
 unfold cR at h
 cases t with
 |true=>rw[q4 rfl]at h;obtain⟨a,rfl,rfl,_⟩:=h;exact⟨.inr ⟨_,rfl⟩,by rw[u8];rfl⟩
 |false=>rw[j4 u7]at h;obtain⟨a,rfl,rfl,_⟩:=h;exact⟨.inl ⟨_,rfl⟩,by rw[u8];rfl⟩
def Gr.see {H:Hp}{d:zy}(s:zS F H)(h:H b≈(.tup d)):∃ F',Gr F H F' H/\F' b≈(.tup d):=by
 cases e:F b with
 |some o =>
  have:=s _ _ e
  rw[h]at this
  cases this
  exact⟨F,.refl s,e⟩
 |none =>
  refine⟨aA F b (.tup d),⟨λp o z=>?_,λp o z=>?_,λp o f c=>⟨?_,c⟩⟩,zl⟩
  .rw[zj (zf z e)];exact z
  .by_cases a:p=b
   .subst a;rw[zl]at z;cases z;exact h
   .rw[zj a]at z;exact s p o z
  .by_cases a:p=b
   .subst a
    rw[h]at c
    cases c
    exact .inr ⟨⟨_,rfl⟩,zl⟩
   .exact .inl (by rw[zj a];exact f)
section
variable {X:Cx}{tg a b e k v:Expr}{pos pos':Pos}{sts:vu}
def Cm (i:Nat)(g:zD):zD:=λa=>match a[i]? with
 |some (.m t ks vs)=>g (a.set i (.v (.dct true t ks vs)))
 |_=>.no
def Rl.fzM {H:Hp}{m:SE}{i:Nat}{t:Bool}(r:Rl Fb Hb F H m J)(h:m[i]?≈(.m t O G)) :
 ∃ p u,J[i]?≈(some (.ref p))/\H p≈u/\sY u/\∀ n,Rl Fb Hb (aA F p (.frz n u)) (aA H p (.frz n u)) (m.set i (.v (.dct true t O G))) J:=by
 obtain⟨p,u,l,e2,e3,e4,X,S,Z⟩:=r.ows i _ h rfl
 refine⟨p,u,l,e4,(znm S).1,λn=>?_⟩
 have U:i<m.length:=(j3.mp h).1
 have C:zS F (aA F p (.frz n u)):=λb o e=>by rw[zj (zf e e3)];exact e
 have A:∀ {j:Nat} {s:Sl},(m.set i (.v (.dct true t O G)))[j]?≈s->s.isO=true->i≠j:=λ{j s} h c e=>by
  subst e
  rw[r8 U]at h
  cases h
  cases c
 refine⟨⟨r.gr.ff.trans C,λb o z=>?_,λb o z1 W=>?_⟩,λj d z=>?_,λj s z c=>?_,λj k q s s' g N T V h3 h4=>?_,by simp[r.len],r.dk.step (λj x d' ps I=>?_) C λj x d' ps p' dx q vw vh ys f B L K M Y Q=>?_⟩
 .by_cases E:b=p
  .subst E;rw[zl]at z ⊢;exact z
  .rw[zj E]at z ⊢;exact r.gr.fh b o z
 .have E:b≠p:=zf W e2
  obtain⟨x,y⟩:=r.gr.kp b o z1 W
  refine⟨?_,by rw[zj E];exact y⟩
  unfold BX
  rw[zj E]
  exact x
 .by_cases a:i=j
  .subst a
   rw[r8 U]at z
   cases z
   refine⟨_,l,?_⟩
   unfold At
   exact⟨p,X,rfl,⟨u,S,by rw[q4 rfl];exact⟨n,zl⟩⟩,Z.mono C⟩
  .rw[u9 a]at z
   obtain⟨v,f,B⟩:=r.vals j d z
   exact⟨v,f,B.mono C⟩
 .have a:=A z c
  rw[u9 a]at z
  obtain⟨q,y,f,B,L,K,M⟩:=r.ows j s z c
  have R:q≠p:=λw=>a (r.dis i j p _ s h z rfl c l (by rw[<-w];exact f))
  exact⟨q,y,f,B,by rw[zj R];exact L,by rw[zj R];exact K,M.mono C⟩
 .have a1:=A g T
  have a2:=A N V
  rw[u9 a1]at g
  rw[u9 a2]at N
  exact r.dis j k q s s' g N T V h3 h4
 .have a:=A I rfl
  rw[u9 a]at I
  exact⟨I,rfl⟩
 .have n1:p'≠p:=λw=>by
   have a:=r.dis i j p _ _ h f rfl rfl l (by rw[<-w];exact B)
   subst a
   rw[h]at f
   cases f
  have P:q≠p:=λw=>Q i _ h rfl (by rw[w];exact l)
  refine⟨by rw[zj n1];exact L,K,by rw[zj P];exact M,by rw[zj P];exact Y,λk s g c=>?_⟩
  have a:=A g c
  rw[u9 a]at g
  exact Q k s g c
def Oh {g:zD}(i:Nat)(h:bM X sts g):bM X sts (Cm i g):=by
 obtain⟨t,p,r⟩:=h
 refine⟨_,znl i p,λFb Hb F H s e E b k=>?_⟩
 unfold Cm at k
 split at k
 .rename_i m o n a
  obtain⟨q,u,f,j,c,l⟩:=b.fzM a
  exact⟨q,u,f,j,c,λd=>r Fb Hb _ _ _ e E (l d) k⟩
 .exact k.elim
end
end
end Dl
namespace OwnRep
open PySem Builtin
def Dp {d:Type}{a b:Sem d}{Q:d->Shared->Prop}(e:c=false)(h:wpAny M A b Q E s):wpAny M A (if c then a else b) Q E s:=by rw[e,j4 u7];exact h
def noFill_tuple_mul:fillsNumberSlot (.type "tuple") "mul"=pure false :=
 fillsNumberSlot_seq (id:="tuple.__mul__") (r:=some (.builtin "tuple.__rmul__")) pL.lookup (by decide +kernel) F.slot_tuple_rmul.lookup (by decide +kernel)
def repeat_tuple:seqRepeat? (.type "tuple")=pure (some (.builtin "tuple.__mul__")):=by
 unfold seqRepeat?
 rw[seqSlot_of (T:="tuple") (name:="__mul__") (id:="tuple.__mul__") pL.lookup (by decide +kernel),seqSlot_of (T:="tuple") (name:="__rmul__") (id:="tuple.__rmul__") F.slot_tuple_rmul.lookup (by decide +kernel)]
 rfl
def int_rmul_tuple (a:Int)(t:Tok)(l:Addr)(b:wb)(n:Nat)(e:yN)(f:Array (Option Value)) :
 Meets (Builtin.«int.__rmul__» ⟨[.int a t,.ref l],[]⟩) (λ_ R s=>s.heap.get? l≈{ cls:=.type "tuple",dict:=e,data:=.seq b n,slots:=f }/\R (.ok (.ret Value.notImplemented)) s) :=
 .of_wp λc w A R s h=>by obtain⟨j,g,d,i,os⟩:=s;obtain⟨k,h⟩:=h;wp_walk;exact⟨_,rfl,h⟩
def tmul_same (l:Addr)(a:wb)(n:Nat)(e:yN)(i:Array (Option Value))(x:Int)(u:Tok)(b:(decide (x < -(2^63))||decide (x >= 2^63))=false)(f:(a.isEmpty||x == 1)=true) :
 Meets (Builtin.«tuple.__mul__» ⟨[.ref l,.int x u],[]⟩) (λ_ R s=>s.heap.get? l≈{ cls:=.type "tuple",dict:=e,data:=.seq a n,slots:=i }/\R (.ok (.ret (Value.ref l))) s) :=
 .of_wp λc w A R s h=>by obtain⟨k,g,d,j,os⟩:=s;obtain⟨m,h⟩:=h;wp_walk;refine Dp b ?_;wp_walk;exact⟨_,rfl,h⟩
def tmul_none (l:Addr)(a:wb)(n:Nat)(e:yN)(j:Array (Option Value))(x:Int)(u:Tok)(b:(decide (x < -(2^63))||decide (x >= 2^63))=false)(f:(a.isEmpty||x == 1)=false)(i:(decide (x<=0)||a.isEmpty)=true) :
 Meets (Builtin.«tuple.__mul__» ⟨[.ref l,.int x u],[]⟩) (λ_ R s=>s.heap.get? l≈{ cls:=.type "tuple",dict:=e,data:=.seq a n,slots:=j }/\R (.ok (.ret (Value.ref s.heap.objs.size))) { s with heap:=s.heap.push { cls:=.type "tuple",data:=.seq #[] },toks:=s.toks }) :=
 .of_wp λc w A R s h=>by obtain⟨m,g,d,k,os⟩:=s;obtain⟨o,h⟩:=h;wp_walk;refine Dp b ?_;wp_walk;exact⟨_,rfl,h⟩
def tmul_some (l:Addr)(a:wb)(n:Nat)(j:yN)(q:Array (Option Value))(x:Int)(u:Tok)(b:(decide (x < -(2^63))||decide (x >= 2^63))=false)(k:(a.isEmpty||x == 1)=false)(m:(decide (x<=0)||a.isEmpty)=false)(c:¬ (a.size:Int)*x>(2^63-1)/8)(p:Builtin.Tuple.tupleTooMany ((a.size:Int)*x)=false)(o:(List.foldl (λe f=>e++f) #[] (List.replicate x.toNat a)).size<=sizeLine) :
 Meets (Builtin.«tuple.__mul__» ⟨[.ref l,.int x u],[]⟩) (λ_ R s=>s.heap.get? l≈{ cls:=.type "tuple",dict:=j,data:=.seq a n,slots:=q }/\R (.ok (.ret (Value.ref s.heap.objs.size))) { s with heap:=s.heap.push { cls:=.type "tuple",data:=.seq (List.foldl (λe f=>e++f) #[] (List.replicate x.toNat a)) },toks:=s.toks }) :=
 .of_wp λi w A R s h=>by obtain⟨v,g,d,r,os⟩:=s;obtain⟨t,h⟩:=h;wp_walk;refine Dp b ?_;wp_walk;refine wpAny_ite_false (t6 c) ?_;wp_walk;exact⟨_,rfl,h⟩
end OwnRep
namespace L2
open PySem
section
variable {X:Cx}
def JR (K:zx):R2:=λx y H Q=>∃ a k b,x=.ref a/\y=.int k/\aJ K H a b/\b≠[]/\-(2^63)<=k/\k<2^63/\b.length*k.toNat<=sizeLine /\
 (k=1->Q (.ref a) H)/\(k≠1->∀ p,H p=none->Q (.ref p) (aA H p (.tup (List.replicate k.toNat b).flatten)))
def zmV:aP X (binaryOp .Mult) (JR X.K):=by
 intro i s Z H x y v u Q I Y ry h
 obtain⟨a,k,J,rfl,rfl,N,W,h1,h2,B,q1,O⟩:=h
 cases Y
 obtain⟨t,rfl⟩:=ry
 obtain⟨c,r,⟨⟨cls,l,V,A⟩,e,G,n,D⟩,_⟩:=I.tuple N
 simp only at G D
 subst G D
 have j:c.toArray.isEmpty=false:=by
  cases c with
  |nil=>exact absurd (r.nil_iff.mp rfl) W
  |cons _ _=>rfl
 have f:(decide (k < -(2^63))||decide (k >= 2^63))=false:=by
  rw[t6 ∅,t6 ∅];rfl
 have d:∀ m:Nat,List.foldl (λK L=>K++L) #[] (List.replicate m c.toArray)=(List.replicate m c).flatten.toArray:=λm=>by
  have:=Wr c m []
  rw[List.nil_append]at this
  exact this
 have M:((List.replicate k.toNat c).flatten).length<=sizeLine:=by rw[Em,<- r.length,Nat.mul_comm];exact B
 have C:∀ {Q':yI},wpAny (model X.prog X.w) X.A (call (.builtin "tuple.__mul__") [.ref a,.int k t]) Q' X.xe s->wpAny (model X.prog X.w) X.A (binaryOp .Mult (.ref a) (.int k t)) Q' X.xe s:=λ{Q'} w =>
  wpAny_binaryOp_repeat_ref (T:="tuple") (U:="int") ⋯ ⟨_,e,rfl⟩ (λP=>pC P k t) OwnRep.noFill_tuple_mul F.fills_int_mul Ak OwnRep.repeat_tuple F.slot_int_index.lookup
   (dw Ak (pC s k t) F.entry_int_rmul (F.args_int_rmul_2 _ _) (OwnRep.int_rmul_tuple k t a c.toArray n l A) ⟨e,rfl,⟨_,e,rfl⟩,w⟩)
 by_cases p:k=1
 .exact C (dw pL ⟨_,e,rfl⟩ GJ (Gn _ _) (OwnRep.tmul_same a c.toArray n l A k t f (by rw[p];simp)) ⟨e,⟨.ref a,H,I,rfl,q1 p⟩⟩)
 have g:(c.toArray.isEmpty||k == 1)=false:=by rw[j,Bool.false_or];exact g8.mpr p
 have fin:∀ (z:zz),z=(List.replicate k.toNat c).flatten->EP X i Z Q (.ref s.heap.objs.size) { s with heap:=s.heap.push { cls:=.type "tuple",data:=.seq z.toArray },toks:=s.toks }:=λz S=>by
  refine⟨.ref s.heap.objs.size,_,I.laid (t':=s.toks) (o:=.tup (List.replicate k.toNat J).flatten) (λb ob q=>u6 _ q) (t7 _) ?_,rfl,O p _ (I.hok.fresh (t7 _))⟩
  refine⟨by rw[Em,Nat.mul_comm];exact B,z,?_,PyProof.Rows.IsTup.new _ _⟩
  rw[S]
  exact r.rep k.toNat
 by_cases E:k<=0
 .refine C (dw pL ⟨_,e,rfl⟩ GJ (Gn _ _) (OwnRep.tmul_none a c.toArray n l A k t f g (by rw[t8 E];rfl)) ⟨e,fin [] ?_⟩)
  rw[show k.toNat=0 by omega]
  rfl
 .have R:(c.toArray.size:Int)*k<=(sizeLine:Int):=by
   have:((c.length*k.toNat:Nat):Int)<=(sizeLine:Int):=by rw[<-r.length];exact Int.ofNat_le.mpr B
   rw[Int.natCast_mul,Int.toNat_of_nonneg ∅]at this
   exact this
  refine C (dw pL ⟨_,e,rfl⟩ GJ (Gn _ _) (OwnRep.tmul_some a c.toArray n l A k t f g (by rw[j,Bool.or_false];exact t6 E) ?_ ?_ ?_) ⟨e,?_⟩)
  .have:(sizeLine:Int)<=(2^63-1)/8:=by decide
   omega
  .unfold Builtin.Tuple.tupleTooMany
   exact t6 ∅
  .rw[d,t9]
   exact M
  .rw[d]
   exact fin _ rfl
end
end L2
namespace Dl
open PySem L2
section
variable [KK]
def lr:xL
 |.tup a,.int k=>if a≠[]/\-(2^63)<=k/\k<2^63/\bI (a.length*k.toNat) then some (.tup (List.replicate k.toNat a).flatten)else none
 |_,_=>none
def zk7:bh (JR K) lr:=by
 intro F H x y d e z Q s l j a q
 cases d <;> try cases a
 cases e <;> try cases a
 rename_i f k
 unfold lr at a
 dsimp only at a
 split at a <;> cases a
 rename_i b
 obtain⟨p,h,rfl,i,c⟩:=l.tup_inv
 refine⟨p,k,h,rfl,j.int_inv,aJ.of (s _ _ i),λe=>b.1 ?_,b.2.1,b.2.2.1,by rw[c.length];exact k9 b.2.2.2,λe=>?_,λ_ r m=>?_⟩
 .subst e
  exact qb.mp c.length.symm
 .subst e
  refine q F H _ (.refl s) ?_
  show At F (.tup (List.replicate 1 f).flatten) _
  rw[show(List.replicate 1 f).flatten=f by simp]
  exact .tup i c
 .have g:=Gr.alloc s m (.tup (List.replicate k.toNat h).flatten)
  exact q _ _ _ g (.tup zl ((c.rep _).mono g.ff))
section
variable {X:Cx}{a b:Expr}{pos:Pos}
def zoa {f:zU}(d:ED X a f)(c:ED X b h):ED X (.BinOp a .Mult b pos) (ze lr f h):=VW zmV zk7 d c
end
end
end Dl
namespace L2
open PySem PySem.Spec PyProof.Rows
def Qe {k:Str}:∀ {D:List (Str × KTD.Dat)},(∀ d,KTD.datumAt k D≈d->KTD.Opened h₀ P d)->KTD.EachL h₀ k P D
 |[],_=>trivial
 |[(x,d)],h=>λe=>h d (by show(if decide (k=x) then some d else none)=_;rw[q4 (t8 e)])
 | (x,d)::q::D,h=>by
  show if decide (k=x) then KTD.Opened h₀ P d else KTD.EachL h₀ k P (q::D)
  by_cases e:k=x
  .rw[q4 (t8 e)]
   exact h d (by show(if decide (k=x) then some d else _)=_;rw[q4 (t8 e)])
  .rw[j4 (by rw[t6 e];exact u7)]
   refine Qe λb a=>h b ?_
   show(if decide (k=x) then some d else KTD.datumAt k (q::D))=_
   rw[j4 (by rw[t6 e];exact u7),a]
def VZ:∀ {ns:zB} {a:zz},KTD.Flats a (ns.map PyData.int)->ym (ns.map V.int) a
 |[],_,h=>by cases h;exact .nil
 |n::ns,_,h=>by
  cases h with
  |cons c b =>
   obtain⟨t,rfl⟩:=c.int_inv
   exact .cons ⟨t,rfl⟩ (VZ b)
section
variable {X:Cx}{a:Addr}{D:List (Str × KTD.Dat)}{nm:Str}{b:Expr}{p pos:Pos}{tb:TE}
def zoQ (a:Addr)(D:List (Str × KTD.Dat)):R2:=λx y H Q=>∃ s,x=.str s/\y=.ref a/\Q (.bl (KTD.inKeys s D)) H
def Pn (T:∀ h:Heap,X.K.In h->KTD.TextTab h a D):aP X (compareOp .In) (zoQ a D):=by
 intro b s f H x y v u Q I c d h
 obtain⟨z,rfl,rfl,q⟩:=h
 obtain⟨t,rfl⟩:=c
 cases d
 exact KTD.in_text ⟨T _ I.kIn,λ_ _ e=>e⟩ ⟨.bl _,H,I.tok _,rfl,q⟩
def Hx (D:List (Str × KTD.Dat))(b:Heap)(tb:TE):TE:=λc H Q=>tb c H λy H1=>∃ (z:Str) (ns:zB),y=.str z/\KTD.datumAt z D≈(.tup (ns.map PyData.int))/\∀ p a,IsTup b p (List.toArray a)->ym (ns.map V.int) a->Q (.ref p) H1
def Ut (T:∀ h:Heap,X.K.In h->KTD.TextTab h a D) (k:Gl X nm) (l:X.mg nm≈(.ref a)) (v:PE X b tb) (j:Xx b) (e:(nm == ("__debug__":Str))=false:=by decide):PE X (.Subscript (.Name nm p) b pos) (Hx D X.base tb):=by
 intro c s r H Q I h
 refine Subscript_ (vS I k l (aC (v c s r H _ I h) λu x n=>?_) e)
 obtain⟨y,H1,I1,w,z,ns,rfl,i,q⟩:=n
 obtain⟨t,rfl⟩:=w
 have f:KTD.inKeys z D=true:=by rw[<-KTD.isSome_datumAt,i];rfl
 refine KTD.item_text (h₀:=X.base) ⟨T _ I.mod.kin,I1.bk⟩ f (Qe λd e=>?_) (j _ _) (by intro _;with_unfolding_all rfl)
 rw[i]at e
 cases e
 exact λp g m o=>⟨.ref p,H1,I1.tok _,rfl,q p g m (VZ o)⟩
def HW (b:Heap):R2:=λx y H Q=>∃ p a c i v,x=.ref p/\y=.int i/\IsTup b p (List.toArray a)/\ym c a/\c.length<=sizeLine/\atI c i≈v/\Q v H
def znf:gf X (HW X.base):=by
 intro b d a s f H x y v u Q I E K h C
 obtain⟨p,e,L,i,z,rfl,rfl,F,r,M,J,q⟩:=h
 cases E
 obtain⟨t,rfl⟩:=K
 have pl:IsTup s.heap p e.toArray:=by
  obtain⟨o,k,G,n,g⟩:=F
  exact⟨o,I.bk _ _ k,G,n,g⟩
 obtain⟨j,D,A,O,N,P⟩:=uF J
 obtain⟨w,l,c⟩:=r.get A
 have m:=r.length
 have R:=XF
 have fin:EP X a f Q w s:=⟨z,H,I,c,q⟩
 exact Hi (x:=w) pl.typeIs slot_tuple_getitem.lookup
  (getItem_tuple (j:=j) (Q:=λr B=>r=w/\EP X a f Q r B) pl ∅ ∅ (by rw[t9,<- m];exact D) (by simpa using l) ⟨rfl,fin⟩) C
end
end L2
namespace Dl
open PySem L2 PySem.Spec PyProof.Rows
variable [KK]{X:Cx}{a:Addr}{T:List (Str × KTD.Dat)}{nm:Str}{b:Expr}{p p2 p3 pos:Pos}{f:zU}
abbrev gA:=List (Str × zB)
def oM (t:gA):List (Str × KTD.Dat):=t.map λq=>(q.1,.tup (q.2.map PyData.int))
def Wv:gA->Str->Option zB
 |[],_=>none
 |q::t,x=>if x=q.1 then some q.2 else Wv t x
omit [KK] in
def Vu (x:Str):∀ t:gA,KTD.datumAt x (oM t)=(Wv t x).map λns=>KTD.Dat.tup (ns.map PyData.int)
 |[]=>rfl
 |q::t=>by
  show(if decide (x=q.1) then some (KTD.Dat.tup (q.2.map PyData.int))else KTD.datumAt x (oM t))=(if x=q.1 then some q.2 else Wv t x).map _
  by_cases h:x=q.1
  .rw[q4 (t8 h),q4 h];rfl
  .rw[j4 (by rw[t6 h];exact u7),j4 h,Vu x t]
def KC (t:gA):D->Option D
 |.str x=>some (.bl (Wv t x).isSome)
 |_=>none
def DR (t:gA)(i:Int):D->Option D
 |.str x=>(Wv t x).bind λns=>(atI ns i).map D.int
 |_=>none
def zkO {t:gA} (T:∀ h:Heap,X.K.In h->KTD.TextTab h a (oM t)) (g:Gl X nm) (k:X.mg nm≈(.ref a)) (y:ED X b f) (u:behindInMarks .In (.Name nm p)=false:=by with_unfolding_all rfl) (i:(nm == ("__debug__":Str))=false:=by decide) :
 ED X (.Compare b [.In] [.Name nm p] pos) (aF (KC t) f):=by
 obtain⟨B,l,j⟩:=y
 refine⟨_,Ng (Pn T) l (y6 (v:=.ref a) g k rfl i) u,λn w F H z Q s A e q=>?_⟩
 obtain⟨d,o,c⟩:=u4.mp e
 refine j n w F H d _ s A o λF1 H1 v r m=>?_
 cases d with
 |str x =>
  cases c
  cases m.str_inv
  refine⟨x,rfl,rfl,?_⟩
  rw[<-KTD.isSome_datumAt,Vu,Bb]
  exact q F1 H1 _ r .bl
 |_=>cases c
def zld {t:gA} (T:∀ h:Heap,X.K.In h->KTD.TextTab h a (oM t)) (l:∀ q∈t,q.2.length<=sizeLine) (y:Gl X nm) (J:X.mg nm≈(.ref a)) (U:ED X b f) (G:Xx b) (A:(nm == ("__debug__":Str))=false:=by decide) :
 ED X (.Subscript (.Subscript (.Name nm p) b p2) (.Constant (.int i) j p3) pos) (aF (DR t i) f):=by
 obtain⟨Y,M,I⟩:=U
 refine⟨_,tD znf (Ut T y J M G A) zv (λ_ _=>rfl),λO W F H z Q s E e q=>?_⟩
 obtain⟨d,P,u⟩:=u4.mp e
 refine I O W F H d _ s E P λF1 H1 v C N=>?_
 cases d with
 |str x =>
  obtain⟨ns,w,B⟩:=u4.mp u
  obtain⟨n,K,rfl⟩:=t4.mp B
  cases N.str_inv
  have g:∀ t:gA,(∀ q∈t,q.2.length<=sizeLine)->Wv t x≈ns->ns.length<=sizeLine:=by
   intro t
   induction t with
   |nil=>intro _ h;cases h
   |cons q t R =>
    intro l h
    unfold Wv at h
    split at h
    .cases h;exact l q o7
    .exact R (λr S=>l r (r0 _ S)) h
  refine⟨x,ns,rfl,by rw[Vu,w];rfl,λp m D L=>⟨p,m,ns.map V.int,i,.int n,rfl,rfl,D,L,by rw[u8];exact g t l w,?_,q F1 H1 _ C .int⟩⟩
  have:∀ (c:zB),atI c i≈n->atI (c.map V.int) i≈(V.int n):=λc h=>by
   unfold atI at h ⊢
   rw[u8]
   cases o:ixN c.length i with
   |none=>rw[o]at h;cases h
   |some k =>
    rw[o]at h
    show(c.map V.int)[k]?=_
    have h:c[k]?≈n:=h
    rw[k8,h]
    rfl
  exact this ns K
 |_=>cases u
end Dl
namespace Dl
open PySem L2
variable [KK]
section
variable {X:Cx}{st:Stmt}{sts:vu}{a b c e tg:Expr}{pos pos':Pos}
omit [KK] in
def Ow {f:zU}(a:SE)(d:D):xa m i f a≠.rt d:=by
 unfold xa
 cases aY m f a <;> (intro h;cases h)
end
end Dl
namespace L2
open PySem PySem.Spec PyProof.Rows
def KD {α:Type}:Sem α->Prop
 |.pure _=>True
 |.raise _=>True
 |.unsupported _=>True
 |.finish _=>True
 |.rule _ k=>KD (k ())
 |.at _ k=>KD (k ())
 |.load _ _ k=>∀ o,KD (k o)
 |.update _ _ f k=>(∀ o,(f o).dict=o.dict)/\KD (k ())
 |.loadIfAlive _ k=>∀ o,KD (k o)
 |.point _ k=>KD (k ())
 |.register _ _=>True
 |.alloc _ k=>∀ a,KD (k a)
 |.fresh k=>∀ t,KD (k t)
 |.ask k=>∀ x,KD (k x)
 |.handled _ k=>∀ x,KD (k x)
 |.stack k=>∀ x,KD (k x)
 |.thread k=>∀ n,KD (k n)
 |.choose _ _ _=>False
 |.os _ _ _=>False
 |.call _ _ _ _ _=>False
 |.newGen _ _=>False
 |.genState _ _=>False
 |.resume _ _ _ _=>False
 |.yield _ _ _ _=>False
 |.fork _ _=>False
 |.await _ _ _ _ _=>False
def zmv {i u:Type}(f:i->Sem u)(j:∀ a,KD (f a)):∀ (m:Sem i),KD m->KD (m.bind f):=by
 intro m
 induction m with
 |pure a=>intro _;exact j a
 |raise e=>intro _;trivial
 |unsupported w=>intro _;trivial
 |finish e=>intro _;trivial
 |rule t k b=>intro h;exact b () h
 | «at» p k b=>intro h;exact b () h
 |load a p k b=>intro h o;exact b o (h o)
 |update a p g k b=>intro h;exact⟨h.1,b () h.2⟩
 |loadIfAlive a k b=>intro h o;exact b o (h o)
 |point l k b=>intro h;exact b () h
 |register a k b=>intro h;trivial
 |alloc o k b=>intro h a;exact b a (h a)
 |fresh k b=>intro h a;exact b a (h a)
 |ask k b=>intro h a;exact b a (h a)
 |handled o k b=>intro h a;exact b a (h a)
 |stack k b=>intro h a;exact b a (h a)
 |thread k b=>intro h a;exact b a (h a)
 |choose s n k b=>intro h;exact h.elim
 |os q l k b=>intro h;exact h.elim
 |call c h g l k b=>intro h;exact h.elim
 |newGen c k b=>intro h;exact h.elim
 |genState g k b=>intro h;exact h.elim
 |resume g r l k b=>intro h;exact h.elim
 |yield v g l k b=>intro h;exact h.elim
 |fork c k b=>intro h;exact h.elim
 |await a f d l k b=>intro h;exact h.elim
def yn {α b:Type}{m:Sem α}{f:α->Sem b}(d:KD m)(c:∀ a,KD (f a)):KD (m>>=f):=zmv f c m d
def DK (h c:Heap):Prop:=∀ (b:Nat) (o:Obj),h.objs[b]?≈o->∃ a:Obj,c.objs[b]?≈a/\a.dict=o.dict
def DK.refl (h:Heap):DK h h:=λ_ o e=>⟨o,e,rfl⟩
def DK.trans {f d:Heap}(a:DK f c)(b:DK c d):DK f d:=λp o e=>by
 obtain⟨h,g,k⟩:=a p o e
 obtain⟨l,i,j⟩:=b p h g
 exact⟨l,i,j.trans k⟩
def DK.push (h:Heap)(o:Obj):DK h (h.push o):=λb u e=>by
 refine⟨u,?_,rfl⟩
 obtain⟨a,l⟩:=h
 show(a.push o)[b]?≈u
 have c:b<a.size:=(QX.mp e).1
 rw[Array.getElem?_push_lt c]
 exact(QX.mp e).2 ▸ rfl
def DK.update (h:Heap)(a:Addr){f:Obj->Obj}(g:∀ o,(f o).dict=o.dict):DK h (h.update a f):=λb u e=>by
 obtain⟨c,l⟩:=h
 show ∃ d,(c.modify a f)[b]?≈d/\_
 rw[Array.getElem?_modify]
 have e:c[b]?≈u:=e
 split
 .rw[e];exact⟨f u,rfl,g u⟩
 .rw[e];exact⟨u,rfl,rfl⟩
def Nv {h:Heap}(e:h.get? b≈o):h.objs[b]?≈o:=by
 unfold Heap.get? at e
 split at e
 .cases e
 .exact e
def DK.of {h a:Heap}{o f:Obj}(k:DK h a)(e:h.get? b≈o)(g:a.get? b≈f):f.dict=o.dict:=by
 obtain⟨i,c,d⟩:=k b o (Nv e)
 rw[Nv g]at c
 cases c
 exact d
def S6 {j:Type}(M:Model)(Γ:PySem.Ctx):∀ (m:Sem j) (Q:j->Pos->Shared->Prop) (E:Value->Pos->Shared->Prop) (p:Pos) (s s0:zn),KD m->DK s0.heap s.heap->Sem.wp M Γ m Q E p s ->
 Sem.wp M Γ m (λa p i=>Q a p i/\DK s0.heap i.heap) (λe p i=>E e p i/\DK s0.heap i.heap) p s:=by
 intro m
 induction m with
 |pure a=>intro Q E p s s0 _ k h;exact⟨h,k⟩
 |raise e=>intro Q E p s s0 _ k h;exact⟨h,k⟩
 |unsupported w=>intro Q E p s s0 _ k h;exact h
 |finish e=>intro Q E p s s0 _ k h;exact h
 |rule t k b=>intro Q E p s s0 c d h;exact b () Q E p s s0 c d h
 | «at» p k b=>intro Q E p s s0 c d h;exact b () Q E _ s s0 c d h
 |load a p k b =>
  intro Q E p s s0 c d h
  obtain⟨o,e,h⟩:=h
  exact⟨o,e,b o Q E p s s0 (c o) d h⟩
 |update a p g k b =>
  intro Q E p s s0 c d h
  obtain⟨e,h⟩:=h
  exact⟨e,b () Q E p _ s0 c.2 (d.trans (.update s.heap a c.1)) h⟩
 |loadIfAlive a k b=>intro Q E p s s0 c d h;exact b _ Q E p s s0 (c _) d h
 |point l k b=>intro Q E p s s0 c d h;exact b () Q E p s s0 c d h
 |register a k b=>intro Q E p s s0 c d h;exact h
 |alloc o k b=>intro Q E p s s0 c d h;exact b _ Q E p _ s0 (c _) (d.trans (.push s.heap o)) h
 |fresh k b=>intro Q E p s s0 c d h;exact b _ Q E p _ s0 (c _) d h
 |ask k b=>intro Q E p s s0 c d h;exact b _ Q E p s s0 (c _) d h
 |handled o k b=>intro Q E p s s0 c d h;exact b _ Q E p s s0 (c _) d h
 |stack k b=>intro Q E p s s0 c d h;exact b _ Q E p s s0 (c _) d h
 |thread k b=>intro Q E p s s0 c d h;exact b _ Q E p s s0 (c _) d h
 |choose s n k b=>intro Q E p s s0 c;exact c.elim
 |os q l k b=>intro Q E p s s0 c;exact c.elim
 |call c h g l k b=>intro Q E p s s0 c;exact c.elim
 |newGen c k b=>intro Q E p s s0 c;exact c.elim
 |genState g k b=>intro Q E p s s0 c;exact c.elim
 |resume g r l k b=>intro Q E p s s0 c;exact c.elim
 |yield v g l k b=>intro Q E p s s0 c;exact c.elim
 |fork c k b=>intro Q E p s s0 c;exact c.elim
 |await a f d l k b=>intro Q E p s s0 c;exact c.elim
def Um {f:Type}{t:Sem f}{Q:f->Shared->Prop}{E:yI}{s:zn}(c:KD t)(h:wpAny M A t Q E s) :
 wpAny M A t (λa b=>Q a b/\DK s.heap b.heap) (λe b=>E e b/\DK s.heap b.heap) s:=fun Γ p d=>S6 M Γ t _ _ p s s c (.refl _) (h Γ p d)
def Xp {d:Type}{t:Sem d}{Q Q':d->Shared->Prop}{s:zn}(c:KD t)(h:wpAny M A t Q E s)(k:∀ a b,Q a b->DK s.heap b.heap->Q' a b):wpAny M A t Q' E s :=
 p0 (Um c h) (λa b x=>k a b x.1 x.2) λ_ _ x=>x.1
def zdc (v:Value):KD (fieldsOf v):=by
 unfold fieldsOf
 split
 .refine yn (λ_=>trivial) λo=>?_
  split <;> trivial
 .trivial
def Wm (v:Value)(i:Nat):KD (field v i):=by
 unfold field
 refine yn (zdc v) λa=>?_
 split <;> trivial
def VF (f:wb->wb)(o:Obj):(Obj.mapFields f o).dict=o.dict:=by
 obtain⟨c,d,x,s⟩:=o
 cases x <;> rfl
def Zm (v:Value)(i:Nat)(x:Value):KD (setField v i x):=by
 unfold setField
 split
 .unfold updateField
  refine yn (λ_=>trivial) λo=>?_
  split
  .split
   .exact⟨VF _,trivial⟩
   .trivial
  .trivial
 .trivial
def YO (e:Value)(f:yN):KD (setFlight e f):=by
 unfold setFlight
 refine yn (Wm e 1) λa=>?_
 split
 .exact Zm _ _ _
 .trivial
def zbP (ty:String)(b:zz):KD (newFields ty b):=by
 have a:KD (newObjAsIs (Value.type ty) (Data.fields b.toArray)):=yn (λ_=>trivial) λ_=>trivial
 unfold newFields newObj
 show KD (if b.toArray.size>sizeLine+2 then _ else _)
 by_cases h:b.toArray.size>sizeLine+2
 .rw[q4 h]
  exact yn (show KD (unsupported (α:=Unit) _)from trivial) λ_=>a
 .rw[j4 h]
  exact a
def zdL (a b c d e:Value)(pl:zz):KD (EntryCells.newEntry a b c d e pl):=zbP _ _
def zjB (f:Addr)(b:Bool):KD (entryPlaceOf f b):=by
 unfold entryPlaceOf
 refine yn (λ_=>trivial) λa=>?_
 split <;> trivial
def zbR:KD frameEnvs:=by
 unfold frameEnvs
 exact yn (λ_=>trivial) λ_=>trivial
def zkL:∀ l:List Env,KD (readyFrames l):=by
 intro l
 induction l with
 |nil=>trivial
 |cons env outer a =>
  unfold readyFrames
  split
  .refine yn (λ_=>trivial) λo=>?_
   split
   .trivial
   .refine yn ?_ λb=>yn ?_ λbk=>yn ⟨λo=>rfl,trivial⟩ λ_=>a
    .unfold behindIsImport
     split
     .trivial
     .split
      .trivial
      .exact yn (Wm _ _) λ_=>trivial
    .unfold keptBack
     split
     .split
      .trivial
      .unfold underTheClaimsCaller
       exact yn (λ_=>trivial) λ_=>trivial
     .trivial
  .trivial
def zft (env:Env):KD (PySem.frameOf env):=by
 unfold PySem.frameOf
 refine yn zbR λl=>yn ?_ λo=>?_
 .unfold frameObject
  split
  .trivial
  .exact yn (zkL _) λ_=>trivial
 .split <;> trivial
def XJ (e:Value)(env:Env):KD (noteFrame e env):=by
 unfold noteFrame
 split
 .rename_i f c
  refine yn (Wm e 1) λa=>?_
  have b:KD (do setField e 1 (<- EntryCells.newEntry a (<- PySem.frameOf env) .none (rawInt f) .none (<- entryPlaceOf f (a != .none)))):=yn (zft env) λ_=>yn (zjB _ _) λ_=>yn (zdL _ _ _ _ _ _) λ_=>Zm _ _ _
  by_cases h:(a != Value.none)=true
  .dsimp only
   rw[q4 h]
   refine yn (Wm a 3) λx=>?_
   split
   .trivial
   .exact yn (Zm _ _ _) λ_=>b
  .dsimp only
   rw[j4 h]
   exact b
 .trivial
def Xa (env:Env)(e:Value):KD (leaving env e):=yn (XJ e env) λ_=>YO e none
end L2
namespace L2
open PySem PySem.Spec PyProof.Rows
open Sem (wp)
abbrev ik (h:Heap) (C:Addr) (a:zz):Heap:=(h.push { cls:=.type "tuple",data:=.seq a.toArray }).push { cls:=.ref C,data:=.fields #[.ref h.objs.size,.none,.none,.none,.bool false,.none] }
def vt {h:Heap}(e:h.get? b≈o):(ik h C us).get? b≈o:=u6 _ (u6 _ e)
def Kr (h:Heap)(C:Addr)(a:zz):(ik h C a).get? (h.objs.size+1)≈{ cls:=.ref C,data:=.fields #[.ref h.objs.size,.none,.none,.none,.bool false,.none] }:=by heap_get
section
variable {prog:zM}{w:World}{A:zN}{E:yI}{h:Heap}{g:Array GenState}{d:Drawn}{t:Nat}{os:OsState}
 {nm q:Str} {C N fI:Addr} {bs bm:zz} {hdct:Bool} {sn:zG} {sub:zz} {ab:Bool} {col:Option Bool} {dd:yN} {k0 k1 k2 k3 k5:Option Value} {mN:wm} {us:zz} {oI:Obj}
def zfo {R:Fin->Shared->Prop} (T:OwnTail h [.type "ValueError",.type "Exception",.type "BaseException",.type "object"] bm) (a:h.get? C≈(excClassObj nm q C N bs bm hdct sn sub ab col dd k0 k1 k2 k3 k5 "ValueError.__new__")) (m:h.Ns N mN) (v:mN "__init__"≈(.ref fI)) (p:h.get? fI≈oI) (u:oI.cls=.type "function")
 (k:wpAny (model prog w) A (call (.ref fI) (.ref (h.objs.size+1)::us)) (λr j=>r=.none/\R (.done (.ret (.ref (h.objs.size+1)))) j) E ⟨ik h C us,g,d,t,os⟩) (l:us.length<=sizeLine) :
 wpAny (model prog w) A (Builtin.«type.__call__» ⟨.ref C::us,[]⟩) R E ⟨h,g,d,t,os⟩:=by
 have FV:=pX
 repeat (first|with_reducible refine wpAny_madeBy_exc a ?_|with_reducible refine pM a ?_|wp_step)
 refine codeAny_call_builtin_code (Gq _ FV.quiet) (wpAny_check_new_subU FV ⋯ T a (codeAny_exc_new_subU FV ⋯ FV T a ?_ l))
 show wpAny _ _ _ _ _ _
 have i:=vt (us:=us) (C:=C) a
 have y:=vt (us:=us) (C:=C) p
 have n:(ik h C us).Ns N mN:=let ⟨ob,ens,epo,e1,r1⟩:=m;⟨ob,ens,epo,vt e1,r1⟩
 have s:=T.keeps (h':=ik h C us) λb o e=>vt e
 have x:=Kr h C us
 have c:(Value.ref C::bm).contains (.ref C)=true:=by simp
 unfold isInstance
 repeat (first | (with_reducible refine wpAny_isSubtype_exc i ?_;rw[c])|with_reducible refine pM x ?_|wp_step)
 show wpAny _ _ (typeLookup (.ref C) _) _ _ _
 refine wpAny_typeLookup_tail i n s FV.mroIs FV.init.lookup ?_
 rw[v]
 refine o9 (u5 ?_)
 unfold bindSpecial
 refine u5 (lR (T:="function") ⟨_,y,u⟩ ?_)
 rw[q4 ⋯]
 refine t5 (u5 (p0 k (λr j f=>?_) λ_ _ z=>z))
 obtain⟨rfl,f⟩:=f
 wp_walk
 exact f
def zgR {R:yI} (T:OwnTail h [.type "ValueError",.type "Exception",.type "BaseException",.type "object"] bm) (a:h.get? C≈(excClassObj nm q C N bs bm hdct sn sub ab col dd k0 k1 k2 k3 k5 "ValueError.__new__")) (f:h.Ns N mN) (c:mN "__init__"≈(.ref fI)) (i:h.get? fI≈oI) (e:oI.cls=.type "function")
 (k:wpAny (model prog w) (A.under (.builtin "type.__call__" ⟨.ref C::us,[]⟩)) (call (.ref fI) (.ref (h.objs.size+1)::us)) (λr j=>r=.none/\R (.ref (h.objs.size+1)) j) E ⟨ik h C us,g,d,t,os⟩) (b:us.length<=sizeLine) :
 wpAny (model prog w) A (call (.ref C) us) R E ⟨h,g,d,t,os⟩:=by
 have l:=tc_lookup
 have n:=tc_bind (.ref C)
 have m:(⟨h,g,d,t,os⟩:zn).TypeIs (.ref C) "type":=⟨_,a,rfl⟩
 refine gR (codeAny_of_tree ?_)
 show wpAny _ _ (callAny (.ref C) _) _ _ _
 repeat (any_goals (first|with_reducible refine pM a ?_|assumption|wp_step))
 refine⟨rfl,codeAny_call_builtin_at (Gq _ (by decide +kernel)) entry_typeCall (wpAny_check_type_call_sub a (zfo T a f c i e ?_ b))⟩
 exact k
end
def zfq {A:zN} {E:yI} {nm:Str} {N:Addr} {bs bm:zz} {sub:zz} (k:bm.contains (.type "BaseException")=true) (j:A.handled=none) (h:wpAny M A x (λv a=>∃ e t d f,v=.ref e/\a.heap.get? C≈(excClassObj nm q C N bs bm hdct sn sub ab col dd k0 k1 k2 k3 k5 newId) /\
 a.heap.get? e≈{ cls:=.ref C,dict:=d,data:=.fields #[.ref t,.none,.none,.none,.bool false,.none],slots:=f }/\E (.ref e) a) E s):wpAny M A (raiseStmt env (some x) none) Q E s:=by
 have b:(Value.ref C::bm).contains (.type "BaseException")=true:=by rw[List.contains_cons,k,pD]
 unfold raiseStmt
 refine u5 (p0 h (λv a z=>?_) λ_ _ z=>z)
 obtain⟨e,t,d,f,rfl,c,g,l⟩:=z
 obtain⟨n,o,i,m,os⟩:=a
 repeat (first|with_reducible refine pM c ?_|with_reducible refine pM g ?_ | (with_reducible refine wpAny_isSubtype_exc c ?_;rw[b])|wp_step)
 exact wpAny_raiseNew_none j l
end L2
namespace L2
open PySem PySem.Spec PyProof.Rows
section
variable {prog:zM}{w:World}{A:zN}{E:yI}{s:zn}{env:Env}
 {nm q:Str} {C N fI:Addr} {bs bm:zz} {hdct:Bool} {sn:zG} {sub:zz} {ab:Bool} {col:Option Bool} {dd:yN} {k0 k1 k2 k3 k5:Option Value} {mN:wm} {oI:Obj}
def zeY {p:Pos} (O:bm.contains (.type "BaseException")=true) (I:A.handled=none) (k:(backTo b (starEach args env)).any (·.1)=false) (G:mN "__init__"≈(.ref fI)) (M:oI.cls=.type "function") (h:wpAny (model prog w) A (eval (.Name x B) env) (λf F=>f=.ref C/\wpAny (model prog w) A (evalArgs (.ref C) true (backTo b (starEach args env)) []) (λa c=>a.kw=[]/\a.pos.length<=sizeLine /\
 c.heap.get? C≈(excClassObj nm q C N bs bm hdct sn sub ab col dd k0 k1 k2 k3 k5 "ValueError.__new__")/\c.heap.Ns N mN/\OwnTail c.heap [.type "ValueError",.type "Exception",.type "BaseException",.type "object"] bm/\c.heap.get? fI≈oI /\
 wpAny (model prog w) (A.under (.builtin "type.__call__" ⟨.ref C::a.pos,[]⟩)) (call (.ref fI) (.ref (c.heap.objs.size+1)::a.pos)) (λr i=>r=.none/\∃ t m o,i.heap.get? C≈(excClassObj nm q C N bs bm hdct sn sub ab col dd k0 k1 k2 k3 k5 "ValueError.__new__") /\
  i.heap.get? (c.heap.objs.size+1)≈{ cls:=.ref C,dict:=m,data:=.fields #[.ref t,.none,.none,.none,.bool false,.none],slots:=o }/\E (.ref (c.heap.objs.size+1)) i) E { c with heap:=ik c.heap C a.pos }) E F) E s) :
 wpAny (model prog w) A (exec (.Raise (some (.Call (.Name x B) args [] b)) none p) env) Q E s:=by
 rw[arm_exec_Raise]
 refine u5 (jC (zfq (C:=C) (nm:=nm) (q:=q) (N:=N) (bs:=bs) (bm:=bm) (hdct:=hdct) (sn:=sn) (sub:=sub) (ab:=ab) (col:=col) (dd:=dd) (k0:=k0) (k1:=k1) (k2:=k2) (k3:=k3) (k5:=k5) (newId:="ValueError.__new__") O I (u5 (p0 (wpAny_Call_ofName (p0 h (λf F z=>?_) λ_ _ z=>z)) (λv i z=>u5 (jC (t5 z))) λ_ _ z=>z))))
 obtain⟨rfl,z⟩:=z
 unfold callWith
 refine u5 (o9 (p0 z (λa c y=>u5 (jC ?_)) λ_ _ z=>z))
 obtain⟨S,J⟩:=a
 obtain⟨j,e,D,K,L,H,u⟩:=y
 obtain rfl:J=[]:=j
 obtain⟨T,g,d,R,os⟩:=c
 simp only[k]
 refine u5 (wpAny_keeperOf_exc D (u5 (zgR L D K G H M (p0 u (λr i y=>?_) λ_ _ z=>z) e)))
 obtain⟨rfl,t,m,o,l,n,P⟩:=y
 exact⟨rfl,u5 (o9 (wpAny_point (t5 ⟨_,t,m,o,rfl,l,n,P⟩)))⟩
end
def jj (K:zx)(C f:Addr):Bool:=match K.lookup C with
 | some ⟨.type "type",_,.cls cd,sl⟩=>(match cd.mro,sl.toList with
  | .ref C'::bm,[_,_,_,_,some (.builtin n),_]=>(C' == C)&&(n == "ValueError.__new__"&&(!cd.hasDel&&(cd.hasDict&&(W.tailIn K [.type "ValueError",.type "Exception",.type "BaseException",.type "object"] bm&&(W.nsOkIn K cd.ns&&(W.nsIn K cd.ns "__init__" == some (some (.ref f))&&(match K.lookup f with | some of=>of.cls == .type "function" | none=>false)))))))
  |_,_=>false)
 |_=>false
def znu {K:zx}{h:Heap}{N:Addr}{m:wm}(X:K.In h)(G:h.Ns N m)(e:W.nsIn K N n≈(some v)):m n≈v:=by
 obtain⟨k,a,f,d,b,_,g⟩:=G
 unfold W.nsIn at e
 split at e
 .rename_i c
  have z:=(X _ _ c).symm.trans d
  cases z
  cases b
  split at e
  .rename_i j i
   cases e
   rw[<-g]
   unfold nsFind findBy
   rw[<-Array.find?_toList,i]
   rfl
  .split at e <;> cases e
 .cases e
def zkj {K:zx}{h0:Heap}{f:Addr}(X:K.In h0)(e:jj K C f=true) :
 ∃ p N s q y u g v d t o k m j i E h,h0.get? C≈(excClassObj s q C N y p true u g v d t o k m j i "ValueError.__new__")/\h0.Ns N E/\E "__init__"≈(.ref f)/\OwnTail h0 [.type "ValueError",.type "Exception",.type "BaseException",.type "object"] p/\h0.get? f≈h/\h.cls=.type "function":=by
 unfold jj at e
 split at e
 .rename_i t I D G
  split at e
  .rename_i C' p o k m j n i B A
   simp only[j7,dz,pO]at e
   obtain⟨rfl,rfl,b,a,J,c,z,w⟩:=e
   obtain⟨s,y,F,ns,H,M,u,g,v,d,L⟩:=I
   dsimp only at B b a c z
   subst B b a
   have r:D=#[o,k,m,j,some (.builtin "ValueError.__new__"),i]:=by
    obtain⟨l⟩:=D
    simp only at A
    rw[A]
   subst r
   split at w
   .rename_i h x
    exact⟨p,ns,s,H,y,u,g,v,d,t,o,k,m,j,i,h0.nsMap ns,h,X _ _ G,.of_isNs (GX X c),znu X (.of_isNs (GX X c)) z,W.tail_of_in X J,X _ _ x,dz.mp w⟩
   .cases w
  .cases e
 .cases e
end L2
namespace L2
open PySem PySem.Spec PyProof.Rows PySem.Builtin PySem.Builtin.ObjectAttr
abbrev Gg:zz:=[.type "ValueError",.type "Exception",.type "BaseException",.type "object"]
def oA:zz->Bool
 |.ref _::r=>oA r
 |l=>l == Gg
def zgI (a:Value):∀ {l:zz},oA l=true->refuseLoop a "__setattr__" l=pure ():=by
 intro l
 induction l with
 |nil=>intro e;cases e
 |cons v r b =>
  intro e
  cases v with
  |ref c=>rw[refuseLoop_ref];exact b e
  |_=>exact dz.mp (show((_:zz) == Gg)=true from e) ▸ PySem.F.store_ValueError.passes a
def ziF:∀ {l:zz},oA l=true->l.contains (.type "object")=true/\l.isEmpty=false:=by
 intro l
 induction l with
 |nil=>intro e;cases e
 |cons v r a =>
  intro e
  refine⟨?_,rfl⟩
  cases v with
  |ref c=>rw[List.contains_cons,(a e).1,pD]
  |_=>rw[dz.mp (show((_:zz) == Gg)=true from e)];decide +kernel
def VA (K:zx) (C:Addr):Bool:=(W.clsIn K C).any (λa=>oA a.mro&&a.hasDict)&&W.findIn K (.ref C) "__setattr__" == some (some (.builtin "object.__setattr__"))&&W.findIn K (.ref C) "__getattribute__" == some (some (.builtin "BaseException.__getattribute__"))&&W.findIn K (.ref C) "__getattr__" == some none&&W.subIn K (.ref C) (.type "BaseException") == some true
structure Yc (K:zx) (C:Addr):Prop where
 cls:∃ cd,W.clsIn K C≈cd/\oA cd.mro=true/\cd.hasDict=true
 sa:W.findIn K (.ref C) "__setattr__"≈(some (.builtin "object.__setattr__"))
 ga:W.findIn K (.ref C) "__getattribute__"≈(some (.builtin "BaseException.__getattribute__"))
 gt:W.findIn K (.ref C) "__getattr__"≈none
 sb:W.subIn K (.ref C) (.type "BaseException")≈true
def Yc.of {K:zx}{C:Addr}(h:VA K C=true):Yc K C:=by
 unfold VA at h
 simp only[j7,dz]at h
 obtain⟨b,e,a⟩:=W.any_some h.1.1.1.1
 rw[j7]at a
 exact⟨⟨b,e,a.1,a.2⟩,h.1.1.1.2,h.1.1.2,h.1.2,h.2⟩
section
variable {prog:zM}{w:World}{A:zN}{E:yI}{s:zn}{K:zx}{x C:Addr}{ox:Obj}{od:Option Obj}{name:Str}{v:Value}
def zmx {R:Result->Shared->Prop}(X:K.In s.heap)(I:PySem.W.InstAt s.heap x ox C od)(m:Yc K C)(o:W.findIn K (.ref C) name≈none)(h:wpAny (model prog w) A.in1 (storeInOwnDict (.ref x) (.ref C) (.str name a) name v false) (λfin b=>match fin with|.done f=>R (.ok f) b|.again j=>j.quiet=true/\codeAny (model prog w) A j R b) (λe b=>R (.error e) b) s) :
 codeAny (model prog w) A (.call (.builtin "object.__setattr__") ⟨[.ref x,.str name a,v],[]⟩) R s:=by
 have SO:=PySem.F.store_object
 obtain⟨p,k,i,_⟩:=m.cls
 obtain⟨c,g⟩:=ziF i
 have d:PySem.W.Looks (model prog w) s.heap (isInstance (.ref x) (.type "object")) true:=I.type.andThen (W.looks_mroIn X (by unfold W.mroIn;rw[k,k6,j4 (by rw[g];decide),c]))
 refine Av SO.slot.plain SO.entry (@W.check_slot (model prog w) _ _ s "object.__setattr__" "object" "__setattr__" (.ref x) [.str name a,v] [] _ SO.kind SO.split d (SO.args (.ref x) (.str name a) v) ?_)
 have n:PySem.W.Looks (model prog w) s.heap (mroOf (.ref C)) p.mro:=(Gv X k).andThen .now
 have l:PySem.W.Looks (model prog w) s.heap (storeTaker? none) none:=.now
 rw[W.osa_eq,refuse_eq]
 refine u5 (u5 (I.type.here (u5 (n.here ?_))))
 rw[zgI _ i]
 exact t5 (u5 (I.type.here (u5 ((Aw X o).here (u5 (l.here h))))))
def znG {Q:Unit->Shared->Prop}(X:K.In s.heap)(I:PySem.W.InstAt s.heap x ox C od)(a:Yc K C)(d:W.findIn K (.ref C) name≈none)
 (h:wpAny (model prog w) A.in1 (storeInOwnDict (.ref x) (.ref C) (.str name s.toks) name v false) (λfin b=>match fin with|.done (.ret _)=>Q () b|_=>False) E { s with toks:=s.toks+1 }) :
 wpAny (model prog w) A (setAttr (.ref x) name v) Q E s:=by
 refine W.set_plain X I a.sa (zmx (s:={ s with toks:=s.toks+1 }) X I a d (p0 h (λfin b z=>?_) λ_ _ z=>z))
 cases fin with
 |again c=>exact z.elim
 |done f=>cases f <;> first|exact z|exact z.elim
def zfl {Q:Unit->Shared->Prop} (X:K.In s.heap) (I:PySem.W.InstAt s.heap x ox C od) (d:W.subIn K (.ref C) (.type "BaseException")≈true) (f:Q () s):wpAny M A (checkBuiltinCall "BaseException.__getattribute__" ⟨[.ref x,a],[]⟩) Q E s:=by
 have c:builtinKind "BaseException.__getattribute__"≈.slot:=by decide +kernel
 have b:splitId "BaseException.__getattribute__"≈("BaseException","__getattribute__"):=by decide +kernel
 have e:=PySem.F.args_bexc_ga (.ref x) a
 have L0:=I.type (M:=M)
 have L1:PySem.W.Looks M s.heap (isSubtype (.ref C) (.type "BaseException")) true:=W.looks_subIn X d
 simp only[checkBuiltinCall,c,b]
 refine u5 ?_
 unfold isInstance
 refine u5 (L0.here (L1.here ?_))
 repeat (first|assumption|wp_step)
def zjE {Q:Unit->Shared->Prop}(X:K.In s.heap)(j:s.heap.get? x≈ox)(d:ox.cls=.ref C)(f:PySem.W.notCls ox=true)(l:ox.dict=none)(B:Yc K C)(G:PySem.W.findIn K (.ref C) name≈none)
 (h:∀ g:Heap,g.get? x≈{ ox with dict:=some s.heap.objs.size }->g.Ns1 s.heap.objs.size (λy=>if y=name then some v else none)->(∀ b o,b≠x->s.heap.get? b≈o->g.get? b≈o)->Q () { s with heap:=g,toks:=s.toks+2 }) :
 wpAny (model prog w) A (setAttr (.ref x) name v) Q E s:=by
 have I:PySem.W.InstAt s.heap x ox C none:=⟨j,d,f,by rw[l];trivial⟩
 refine znG X I B G ?_
 obtain⟨W,P,_,J⟩:=B.cls
 have O:=Gv (M:=model prog w) X P
 unfold storeInOwnDict
 refine u5 (t5 ?_)
 have k:(Value.ref C == Value.type "module")=false:=rfl
 simp only[k]
 unfold ownDictForStores instanceDict
 refine u5 ?_
 refine u5 (wpAny_loadPart j ?_)
 obtain⟨T,H,a,p⟩:=ox
 dsimp only at d l
 subst d l
 dsimp only
 refine u5 (O.here (s:={ s with toks:=s.toks+1 }) ?_)
 rw[J]
 rw[j4 ⋯,j4 (by simp[typeHasDict])]
 have N:∀ c,a≠.cls c:=λc e=>by rw[e]at f;cases f
 split
 .rename_i c;exact absurd rfl (N c)
 have z:(s.heap.push { cls:=.type "dict",data:=.dict #[] }).get? x≈⟨.ref C,none,a,p⟩:=u6 _ j
 have t:x≠s.heap.objs.size:=j9 (q7 j)
 refine u5 (wpAny_alloc' (u5 (wpAny_update' z (t5 ?_))))
 generalize n:((s.heap.push { cls:=Value.type "dict",data:=Data.dict #[] }).update x λo=>{ cls:=o.cls,dict:=some s.heap.objs.size,data:=o.data,slots:=o.slots })=h1
 have D:h1.get? s.heap.objs.size≈{ cls:=.type "dict",data:=.dict #[] }:=by rw[<-n];exact(Heap.get?_update_ne _ _ _ _ t.symm).trans (Heap.get?_push_at rfl rfl)
 have L:h1.Ns s.heap.objs.size (λ_=>none):=⟨_,#[],_,D,rfl,λe R=>absurd R (by simp),λ_=>rfl⟩
 show wpAny _ _ (storeInDict s.heap.objs.size (.str name s.toks) name v) _ _ _
 unfold storeInDict newKeyGuard
 refine u5 (t5 (u5 (wpAny_nsSet1 (Heap.Ns1.of_empty L) λg i u=>?_)))
 obtain⟨V,Y,U,q,r,m⟩:=i.count (Within.cons name v Within.nil)
 refine u5 (wpAny_lookBehind q (by rw[r];exact pastItsLine_dict (r6 m (by rw[r4,Ai,fC];omega))) (t5 (h g ?_ i λb o S e=>?_)))
 .refine(u.2 x t).trans ?_
  rw[<-n]
  refine h9 _ z ?_
  have F:=(Heap.get?_some_iff.mp j).2
  cases a <;> first|rfl|exact F
 .refine(u.2 b (j9 (q7 e))).trans ?_
  rw[<-n]
  exact(Heap.get?_update_ne _ _ _ _ S).trans (u6 _ e)
def zm5 {f:Str}{Q:yI}(X:K.In s.heap)(I:PySem.W.InstAt s.heap x ox C od)(e:Yc K C)(k:W.findObj K C od f≈(.value v))(j:W.handedIn v=true)(h:Q v { s with toks:=s.toks+1 }):wpAny (model prog w) A (getAttr (.ref x) f b) Q E s:=by
 obtain⟨l,g,d,t,os⟩:=s
 have L0:=I.type (M:=model prog w)
 have L1:=Aw (M:=model prog w) X e.ga
 have L2:=Aw (M:=model prog w) X e.gt
 have L3:=W.looks_find (M:=model prog w) X I k
 have i:=QZ.ga.bind (.ref x)
 have a:(Value.builtin "BaseException.__getattribute__" == Value.builtin "object.__getattribute__")=false:=by decide +kernel
 have c:(b&&onTheHeap (Value.builtin "BaseException.__getattribute__"))=false:=by cases b <;> rfl
 unfold getAttr getAttrBy
 refine u5 (wpAny_mkText (o9 (u5 (L0.at (u5 (L1.at ?_))))))
 dsimp only
 rw[a,iR,j4 u7]
 unfold getAttrByItsOwn
 refine u5 ?_
 show wpAny _ _ (typeLookup (.ref C) "__getattr__") _ _ _
 refine L2.at (u5 (ie (o9 ?_)))
 unfold callGetattribute
 rw[c,j4 u7]
 unfold boundAndCalled
 rw[i]
 refine u5 (t5 ?_)
 refine gR (Av QZ.ga.plain PySem.F.entry_bexc_ga ?_)
 refine zfl X I e.sb ?_
 refine u5 (t5 (u5 (t5 (u5 (L0.at (u5 (L3.at ?_)))))))
 refine t5 ?_
 show wpAny _ _ (handedOut v) _ _ _
 rw[W.handedOut_of j];exact t5 h
end
end L2
namespace L2
open PySem PySem.Spec PyProof.Rows
section
variable {P:zM}{w:World}{H H':Hp}{h h':Heap}{a:Addr}{o:HO}
def yM.ex (x:yM P w H h a o):∃ u,h.get? a≈u:=by
 cases o with
 |lst d=>obtain⟨_,_,_,_,e⟩:=x;exact⟨_,e⟩
 |tup d=>obtain⟨_,_,_,g,e,_⟩:=x;exact⟨_,e⟩
 |dK b=>obtain⟨_,_,_,_,o,_,_,e,_⟩:=x;exact⟨_,e⟩
 |dT b=>obtain⟨_,_,_,_,o,_,_,e,_⟩:=x;exact⟨_,e⟩
 |set S n=>obtain⟨o,_,_,_,e,_⟩:=x;exact⟨_,e⟩
 |ins C k c=>obtain⟨_,_,_,e,_⟩:=x;exact⟨_,e⟩
 |own y=>exact x
 |xd c=>obtain⟨_,⟨_,_,_,e,_⟩,_⟩:=x;exact⟨_,e⟩
 |rng i m=>obtain⟨_,_,_,e⟩:=x;exact⟨_,e⟩
 |frz g u=>obtain⟨e,_⟩:=x;exact⟨_,e⟩
 |tbl j=>exact⟨_,(show h.get? a≈_ from x)⟩
 |met f y=>exact⟨_,(show h.get? a≈_ from x)⟩
 |ext l=>obtain⟨_,⟨_,e⟩,_⟩:=x;exact⟨_,e⟩
theorem bj.stays (x:bj P w H h)(k:∀ b u,H b≠none->h.get? b≈u->h'.get? b≈u):bj P w H h':=λa o e =>
 (x a o e).stay (λb u c q=>k b u (by
  rcases c with rfl|c
  .rw[e];intro z;cases z
  .rw[c];intro z;cases z) q) (λ_ q=>q) λ_ _ q=>q
end
structure jR (outer:List Env) (H:Hp) (h:Heap) (H':Hp) (h' B:Heap):Prop where
 old:∀ b o,h.get? b≈o->H b=none->b∉bH outer->B.get? b≈o
 there:∀ b o,h.get? b≈o->b∉bH outer->∃ o',B.get? b≈o'
 new:∀ b o,H' b≠none->h'.get? b≈o->B.get? b≈o
def ZZ (h:Heap)(a:Addr)(c:yN):Prop:=∃ b,h.get? a≈b/\b.dict=c
def ZZ.stay {b:Heap}{g:yN}(d:ZZ h a g)(k:DK h b)(e:∃ i,b.get? a≈i):ZZ b a g:=by
 obtain⟨i,l,j⟩:=d
 obtain⟨c,f⟩:=e
 exact⟨c,f,(k.of l f).trans j⟩
def aR (P:zM)(w:World):cQ:=λouter H s E e a =>
 ∃ (b C t:Addr) (c:yN) (H':Hp) (B:Heap),e=.ref b/\a.os=s.os/\AllBare a.gens/\Un (bH outer) [] H H' s.heap a.heap/\bj P w H' a.heap /\
  Heap.FlyingW B outer b (.ref C) (.ref t) a.heap/\jR outer H s.heap H' a.heap B/\ZZ a.heap b c/\E (.ref C) c H'
section
variable {X:Cx}{pins:xv}{σ:St}{H H':Hp}{s s':zn}{E:XK}{e:Value}{M:Model}{E2:yI}
def aa.airUn (r:X.ex=[])(I:aa X pins σ H s){g B:Heap}(J:aa X pins σ H' s')(d:jR X.stack H s.heap H' s'.heap B)(i:B.StaysIn g)(k:g.FunFrames B X.outer)(E:s'.heap.UpToSlots g) :
 Un X.fs [] X.H₀ H' X.s₀.heap g/\bj X.prog X.w H' g/\jR X.outer X.H₀ X.s₀.heap H' g B:=by
 have p:∀ b o,X.s₀.heap.get? b≈o->b≠X.env.locals:=λb o e=>j9 (j0 (q7 e) I.ok.above)
 have h:∀ b o,X.s₀.heap.get? b≈o->b∉X.fs->b∉bH X.stack:=λb o e n z=>(q5.mp (I.stkSub b z)).elim (p b o e) n
 have nx:∀ b:Addr,b∉X.ex:=by rw[r];simp
 have c:jR X.outer X.H₀ X.s₀.heap H' g B:=by
  refine⟨λb o e n a=>d.old b o (I.base.keep b o e n a (nx b)) (I.base.free b o e n (nx b)) (h b o e a),λb o e a=>?_,λb o a e=>?_⟩
  .obtain⟨j,m⟩:=I.base.there b o e (nx b)
   exact d.there b j m (h b o e a)
  .cases q:H' b with
   |none=>exact absurd q a
   |some u =>
    obtain⟨t,A⟩:=(J.hok b u q).ex
    have z:=d.new b t a A
    have v:=i b t z
    rw[e]at v
    cases v
    exact z
 refine⟨⟨λb o e n a _=>i b o (c.old b o e n a),λb o e n a _=>?_,λb o e n _=>J.base.free b o e n (nx b),λb o e _=>?_,J.base.tups,J.base.frzs,J.base.tbls⟩,J.hok.stays λb u a x=>i b u (d.new b u a x),c⟩
 .obtain⟨F,C⟩:=J.base.slot b o e n a (nx b)
  obtain⟨_,w,f,y⟩:=I.ok.funs.mem a
  rw[e]at f
  cases f
  obtain⟨l,D⟩:=E b _ C y
  exact⟨l,D⟩
 .by_cases a:b∈X.fs
  .obtain⟨_,w,f,_⟩:=k.mem a
   exact⟨w,f⟩
  .obtain⟨j,m⟩:=c.there b o e a
   exact⟨j,i b j m⟩
def Ur (h:X.stack=X.env::X.outer)(x:X.env.frame≈X.env.locals)(m:X.ex=[])(I:aa X pins σ H s)(a:aR X.prog X.w X.stack H s E e s') :
 wpAny M X.A (leaving X.env e) (λ_ d=>aR X.prog X.w X.outer X.H₀ X.s₀ E e d) E2 s':=by
 obtain⟨n,C,t,v,H',B,rfl,os,c,r,i,o,k,q,D⟩:=a
 have J:aa X pins σ H' s':=I.call' (ch:=[]) os r i c (λb z=>nomatch z)
 rw[h]at o
 refine Xp (Xa _ _) (wpAny_leaves_onW (Q:=λ_ d=>∃ f,d={ s' with heap:=f }/\Heap.FlyingW B X.outer n (.ref C) (.ref t) f/\s'.heap.UpToSlots f) (by rw[I.ok.frames,h]) x o λf g j=>⟨f,rfl,g,j⟩) ?_
 rintro _ _ ⟨f,rfl,g,j⟩ w
 obtain⟨A,y,p⟩:=I.airUn m J k g.1 g.2.2.1 j
 obtain⟨u,l,_⟩:=g.there
 exact⟨n,C,t,v,H',B,rfl,os.trans I.os,c,A,y,g,p,q.stay w ⟨u,l⟩,D⟩
end
def yw {P:zM}{w:World}{K:zx}{g:wm}{c:Heap}{N:zG}{d:Str}{b:Scope}{f:Addr}{h:Value}{A:zN}{outer:List Env}{s:zn}{H:Hp}{E:XK} :
 wJ (aR P w) (vd (aR P w) P w K g c N d b f h A outer s H E) E:=λi k H1 l e j I a =>
 Ur (X:=vd (aR P w) P w K g c N d b f h A outer s H E) rfl rfl rfl I a
def zg2 {P:zM}{w:World}{K:zx}{R:wm}{i:Heap}{N:zG}{k:Str}{c:Scope}{f:Addr}{D:Value}{A:zN}{outer:List Env}{s:zn}{H:Hp}{E:XK}
 {j:xv} {M:St} {H1:Hp} {g:zn} {l:Heap} {m C:Addr} {args:zz}
 (I:aa (vd (aR P w) P w K R i N k c f D A outer s H E) j M H1 g) (G:Heap.MadeExcOf g.heap l m (.ref C) args) (hE:E (.ref C) none H1) :
 (vd (aR P w) P w K R i N k c f D A outer s H E).xe (.ref m) { g with heap:=l }:=by
 let X:=vd (aR P w) P w K R i N k c f D A outer s H E
 have I:aa X j M H1 g:=I
 have d:∀ b o,g.heap.get? b≈o->l.get? b≈o:=G.keeps
 have F:∀ env∈X.stack,∀ a,env.frame≈a->a∈bH X.stack:=λenv he a Y=>Bf.mpr ⟨env,he,Y⟩
 have J:aa X j M H1 { g with heap:=l }:=by
  have:=I.un (t':=g.toks) (H':=H1) (h':=l) (Un.kept d) (I.hok.kept d)
  exact this
 show wpAny (model P w) X.A (leaving X.env (.ref m)) (λ_ n=>aR P w outer H s E (.ref m) n) _ { g with heap:=l }
 refine Xp (Xa _ _) (wpAny_leaves_madeW (Q:=λ_ n=>∃ p t,n={ g with heap:=p }/\Heap.FlyingW (PySem.W.hideAll g.heap (bH X.stack)) outer m (.ref C) (.ref t) p/\l.UpToSlots p) (base:=PySem.W.hideAll g.heap (bH X.stack)) (h:=g.heap) (L:=X.env.locals) (outer:=outer) (I.ok.frames) rfl (λb o q=>GR _ q) (PySem.W.funFrames_hide I.stack F) G λp t r x2 x3 x=>⟨p,t,rfl,r,x⟩) ?_
 rintro _ _ ⟨p,t,rfl,r,x⟩ W
 obtain⟨O,S,_⟩:=r.there
 have di:ZZ p m none:=by
  obtain⟨V,B,_⟩:=G.there
  exact ZZ.stay (h:=l) ⟨_,B,rfl⟩ W ⟨O,S⟩
 have y:jR X.stack H1 g.heap H1 l (PySem.W.hideAll g.heap (bH X.stack)):=by
  refine⟨λb o e _ v=>jF _ e v,λb o e v=>⟨o,jF _ e v⟩,λb o v e=>?_⟩
  cases q:H1 b with
  |none=>exact absurd q v
  |some u =>
   obtain⟨O,T⟩:=(I.hok b u q).ex
   have z:=d b O T
   rw[e]at z
   cases z
   exact jF _ T λz=>v (I.stkFree b z)
 obtain⟨u1,Z,U⟩:=I.airUn (X:=X) rfl J y r.1 r.2.2.1 x
 exact⟨m,C,t,none,H1,_,rfl,I.os,I.bare,u1,Z,r,U,di,hE⟩
abbrev il:zz:=[.type "ValueError",.type "Exception",.type "BaseException",.type "object"]
structure qO (K:zx) (mg:wm) (C:Addr) (x:Str):Prop where
 bound:mg x≈(.ref C)
 exc:W.excIn K C il "ValueError.__new__"=true
def zoi {K:zx}{a:Heap}(X:K.In a)(q:W.excIn K C i b=true) :
 ∃ r N t q x g v f w e u p m o k j B,a.get? C≈(excClassObj t q C N x r g v f w e u p m o k j b)/\a.Ns N B/\B "__init__"=none/\OwnTail a i r:=by
 unfold W.excIn at q
 split at q
 .rename_i u H A F
  split at q
  .rename_i C' r p m o k n j z y
   simp only[j7,dz,pO]at q
   obtain⟨⟨⟨⟨⟨rfl,rfl⟩,c⟩,I⟩,d⟩,h⟩:=q
   obtain⟨t,x,E,ns,G,D,v,f,w,e,J⟩:=H
   dsimp only at z c d h
   subst z c
   have s:A=#[p,m,o,k,some (.builtin n),j]:=by
    obtain⟨l⟩:=A
    simp only at y
    rw[y]
   subst s
   exact⟨r,ns,t,G,x,D,v,f,w,e,u,p,m,o,k,j,_,X _ _ F,.of_isNs (GX X d),W.nsMap_none_of_in X d h,W.tail_of_in X I⟩
  .cases q
 .cases q
def zjJ {P:zM}{w:World}{K:zx}{k:wm}{b:Heap}{N:zG}{d:Str}{a:Scope}{f:Addr}{y:Value}{A:zN}{outer:List Env}{s:zn}{H:Hp}{E:XK}{C:Addr}{x:Str}{R g m:Pos}
 (F:qO K k C x) (M:Gl (vd (aR P w) P w K k b N d a f y A outer s H E) x) (O:(x == ("__debug__":Str))=false:=by decide) :
 PS (vd (aR P w) P w K k b N d a f y A outer s H E) (.Raise (some (.Call (.Name x R) [] [] g)) none m) (λ_ _ H1=>E (.ref C) none H1):=by
 intro G Y X H1 D I h
 obtain⟨V,N',n,q,J,c,t,j,u,i,o,B,v,z,r,p,L,Q,U,l,T⟩:=zoi I.ok.mod.kin F.exc
 refine wpAny_Raise_call_subU (C:=C) (nm:=n) (q:=q) (N:=N') (bs:=J) (bm:=V) (hdct:=c) (sn:=t) (sub:=j) (ab:=u) (col:=i) (dd:=o) (k0:=B) (k1:=v) (k2:=z) (k3:=r) (k5:=p)
  pX ⋯ pX (mN:=L) (T.hasType pX.hasBase) (I.ok.hd rfl) rfl l (vS I M F.bound ⟨rfl,?_⟩ O)
 exact evalArgs_empty ⟨rfl,cX _,I.bk _ _ Q,U.keeps I.bk,T.keeps I.bk,λW e S=>zg2 I S h⟩
def zj7:PA X a (λ_ _ _=>False):=λ_ _ _ _ _ _ _ h=>h.elim
end L2
namespace Dl
open PySem L2
def jc (j:Nat):Option (List (Str × V)):=match j/16%4 with
 |0=>none
 | 1=>some [("at",.int ((j/64:Nat)-1))]
 | 2=>some [("row",.int ((j/64:Nat)-1))]
 | _=>some [("many",.int ((j/64/1024:Nat):Int)),("most",.int ((j/64%1024:Nat):Int))]
variable [KK]
section
variable (E:XK)(cl:Nat->Addr)
def EJ (j:Nat)(H:Hp):Prop:=match jc j with
 |none=>E (.ref (cl j)) none H
 |some b=>∀ a,H a=none->E (.ref (cl j)) (some a) (aA H a (.xd b))
def Wi (F H:Hp)(j:Nat):Prop:=∀ F' H',Gr F H F' H'->EJ E cl j H'
def RXE (t:TE)(c:cg):Prop:=∀ (a:St) (b:Ev) (F H:Hp) (j:Nat) (Q:VK),zS F H->cJ F b a->c b≈j->Wi E cl F H j->t a H Q
def RXA (t:TA)(c:cg):Prop:=∀ (a:St) (b:Ev) (F H:Hp) (j:Nat) (Q:zy->Hp->Prop),zS F H->cJ F b a->c b≈j->Wi E cl F H j->t a H Q
def Rm (t:TS)(c:yW):Prop:=∀ (Fb Hb F H:Hp) (b:SE) (a:St) (D':VN) (j:Nat),Rl Fb Hb F H b a->c b≈j->Wi E cl Fb Hb j->t D' a H
def XE (X:Cx)(e:Expr)(a:cg):Prop:=∃ t,PE X e t/\RXE E cl t a
def XA (X:Cx)(a:yO)(b:cg):Prop:=∃ t,PA X a t/\RXA E cl t b
def XS (X:Cx)(b:Stmt)(a:yW):Prop:=∃ t,PS X b t/\Rm E cl t a
def dO (X:Cx)(a:vu)(b:yW):Prop:=∃ t,bF X a t/\Rm E cl t b
end
section
variable {E:XK}{cl:Nat->Addr}{X:Cx}{a b c e:Expr}{es:yO}{st:Stmt}{sts:vu}{pos pos':Pos}
def Wi.grow (w:Wi E cl F H j)(g:Gr F H F1 H1):Wi E cl F1 H1 j:=λF' H' a=>w F' H' (g.trans a)
def Wi.out {b:SE}{a:St}(w:Wi E cl Fb Hb j)(c:Rl Fb Hb F H b a):Wi E cl (cI b a F H) H j:=λF' H' g=>w F' H' (c.out g)
def iY (cl:Nat->Addr)(m:Nat)(r:fU):Sp:=λb H _ E=>∃ a j F,a.length=m/\zS F H/\aq F a b/\r a≈j/\Wi E cl F H j
def wn (m:Nat)(r:fU)(f:yE):cg:=λa=>(f a).bind λds=>if ds.length=m then r ds else none
def wM {k:Nat} {f:Addr} {g:wL} {d:yE} (F:xt X.prog X.w X.K X.mg X.base (aR X.prog X.w) k f g i (iY cl m r)) (A:wJ (aR X.prog X.w) X E) (I:xc k X.A) (n:Gl X x) (z:X.mg x≈(.ref f)) (q:W.keepIn X.K (.ref f)=true) (K:xx X.K g i []) (p:AD X (e::es) d) (c:(x == ("__debug__":Str))=false:=by decide) (J:starEach (e::es) X.env=(false,eval e X.env)::starEach es X.env:=by rfl) (b:(backTo pos (starEach es X.env)).any (·.1)=false:=by rfl) :
 XE E cl X (.Call (.Name x M) (e::es) [] pos) (wn m r d):=by
 obtain⟨t,u,y⟩:=p
 refine⟨_,uL F I n z q K .nil A u c J b,λC L F0 H j Q s v e w=>?_⟩
 obtain⟨l,G,a⟩:=u4.mp e
 split at a <;> try cases a
 rename_i o
 refine y C L F0 H l _ s v G λF1 H1 N h B=>?_
 exact⟨l,j,F1,o,h.fh,by rw[r9];exact B,a,w.grow h⟩
def PN {k:Nat} {f:Addr} {d:wL} {c:zG} {p:wI} {g:cg} (F:xt X.prog X.w X.K X.mg X.base aM k f d c (bW m p)) (r:xc k X.A) (h:Gl X x) (l:X.mg x≈(.ref f)) (q:W.keepIn X.K (.ref f)=true) (y:xx X.K d c []) (o:XA E cl X (e::es) g) (b:(x == ("__debug__":Str))=false:=by decide) (u:starEach (e::es) X.env=(false,eval e X.env)::starEach es X.env:=by rfl) (a:(backTo pos (starEach es X.env)).any (·.1)=false:=by rfl) :
 XE E cl X (.Call (.Name x A) (e::es) [] pos) g:=by
 obtain⟨t,z,i⟩:=o
 exact⟨_,uL F r h l q y .nil gK z b u a,λn v F0 H j Q s B e w=>i n v F0 H j _ s B e w⟩
def Zl {b:cg}(h:XE E cl X a b)(c:starEach (a::es) X.env=(false,eval a X.env)::starEach es X.env:=by rfl):XA E cl X (a::es) b:=by
 obtain⟨t,p,r⟩:=h
 exact⟨_,zo p zj7 c,λd g F H j Q s f e w=>r d g F H j _ s f e w⟩
def N5 {f:zU}{k:cg}(h:ED X a f)(n:XA E cl X es k)(l:starEach (a::es) X.env=(false,eval a X.env)::starEach es X.env:=by rfl):XA E cl X (a::es) (λb=>(f b).bind λ_=>k b):=by
 obtain⟨t,p,r⟩:=h
 obtain⟨u,m,x⟩:=n
 refine⟨_,zo p m l,λc b F H j Q s i e w=>?_⟩
 obtain⟨d,o,q⟩:=u4.mp e
 exact r c b F H d _ s i o λF' H' v g y=>x c b F' H' j _ g.fh (i.mono g.ff) q (w.grow g)
def WT {c:cg}(h:XE E cl X e c)(d:swapsWith e none pos.line X.env=pure false:=by rfl):XS E cl X (.Expr e pos) (λb=>c (visG b)):=by
 obtain⟨t,p,r⟩:=h
 exact⟨_,Xd p d,λFb Hb F H b f D' j a e w=>r f _ _ H j _ a.gh a.visG e (w.out a)⟩
def XQ {c:cg}(h:XE E cl X e c):XS E cl X (.Return (some e) pos) (λb=>c (visG b)):=by
 obtain⟨t,p,r⟩:=h
 exact⟨_,Ys p,λFb Hb F H b d D' j a e w=>r d _ _ H j _ a.gh a.visG e (w.out a)⟩
def K7 {i:Nat}{c:cg}(g:X.N.Nodup)(d:X.N[i]?≈x)(k:bY X.env.scope x)(h:XE E cl X e c)(f:swapsWith e (some (.Name x pos')) pos.line X.env=pure false:=by rfl)(l:X.fn x=true\/X.env.scope.names.lookup x≈.local:=by first|exact .inl rfl|exact .inr rfl|assumption):XS E cl X (.Assign [.Name x pos'] e pos) (λb=>c (visG b)):=by
 obtain⟨t,p,r⟩:=h
 exact⟨_,Yq g d k p f l,λFb Hb F H b m D' j a e w=>r m _ _ H j _ a.gh a.visG e (w.out a)⟩
noncomputable def bA (t:vz)(g h:yW):yW:=λa=>match t (visG a) with
 |some true=>g a
 |some false=>h a
 |none=>none
def YJ {t:vz}{g:yW}(s:TD X c t)(m:dO E cl X i g)(v:dO E cl X l h):XS E cl X (.If c i l pos) (bA t g h):=by
 obtain⟨y,u,o⟩:=s
 obtain⟨x,n,p⟩:=m
 obtain⟨z,r,q⟩:=v
 refine⟨_,lG u n r,λFb Hb F H f e D' j b k w=>?_⟩
 unfold bA at k
 cases h:t (visG f) with
 |none=>rw[h]at k;cases k
 |some d =>
  rw[h]at k
  refine o e _ _ H d _ b.gh b.visG h λF' H' g=>?_
  have a:=b.grow (b.back g).1
  cases d with
  |true=>rw[q4 rfl];exact p Fb Hb _ H' f e D' j a k w
  |false=>rw[j4 u7];exact q Fb Hb _ H' f e D' j a k w
def bc:yW:=λ_=>none
def vE:XS E cl X st bc:=⟨_,PP,λ_ _ _ _ _ _ _ _ _ h _=>by cases h⟩
def yb {g:yW}(h:XS E cl X st g):dO E cl X [st] g:=let ⟨_,p,r⟩:=h;⟨_,x4 p,r⟩
noncomputable def ve (d:yW)(g:zD)(c:yW):yW:=λb=>match d b with
 |some j=>some j
 |none=>match g b with
  |.nx a=>c a
  |_=>none
def yr {f p:yW}{g:zD}(C:XS E cl X st f)(x:SD X st g)(B:dO E cl X sts p):dO E cl X (st::sts) (ve f g p):=by
 obtain⟨G,y,z⟩:=C
 obtain⟨v,q,A⟩:=x
 obtain⟨u,t,r⟩:=B
 have i:PS X st (λD a H=>G D a H\/v D a H):=λb s a H D I h=>h.elim (y b s a H D I) (q b s a H D I)
 refine⟨_,yV i t,λFb Hb F H d a D' j o k w=>?_⟩
 unfold ve at k
 cases l:f d with
 |some J =>
  rw[l]at k
  cases k
  exact .inl (z Fb Hb F H d a _ j o l w)
 |none =>
  rw[l]at k
  dsimp only at k
  cases c:g d with
  |nx e =>
   rw[c]at k
   refine .inr (A Fb Hb F H d a _ o ?_)
   rw[c]
   exact λF' H' n m=>r Fb Hb F' H' e n D' j m k w
  |rt _=>rw[c]at k;cases k
  |bk _=>rw[c]at k;cases k
  |ct _=>rw[c]at k;cases k
  |no=>rw[c]at k;cases k
def xG {g:yW}(h:XS E cl X st g):dO E cl X (st::sts) g:=by
 obtain⟨t,p,r⟩:=h
 exact⟨_,yV p (λ_ _ _ _ _ _ h=>(h:False).elim),λFb Hb F H c a D' j b k w=>r Fb Hb F H c a _ j b k w⟩
end
def XU (j:Nat):yW:=λ_=>some j
def Ye {w:World} {g:wm} {N:zG} {f:Addr} {cl:Nat->Addr} {d:Pos} (p:qO K g (cl j) x) (k:Gl (vd (aR P w) P w K g b N c a f i A outer s H E) x) (l:(x == ("__debug__":Str))=false:=by decide) (o:jc j=none:=by rfl) :
 XS E cl (vd (aR P w) P w K g b N c a f i A outer s H E) (.Raise (some (.Call (.Name x n) [] [] d)) none h) (XU j) :=
 ⟨_,zjJ p k l,λFb Hb F H t r D' q m e w=>by
  cases e
  have z:=w F H m.gr
  unfold EJ at z
  rw[o]at z
  exact z⟩
noncomputable def cY (n:Nat)(b:yW)(a:zk):Option Nat:=b (a.map .v++List.replicate (n-a.length) .no)
def v9 {w:World}{g:Heap}{f:Addr}{N ps:zG}{k:Nat}{gx:yW}(Fu:bQ K x b i f n)(S:yz N ps (zm i))(I:∀ (c:Value) (A:zN) (outer:List Env) (s:zn) (H:Hp) (E:XK),xc k (A.deeper (PyProof.Rows.envOfC b (zm i) s.heap.objs.size f c))->dO E cl (vd (aR P w) P w K u g N b (zm i) f c A outer s H E) (ya i) gx) :
 xt P w K u g (aR P w) (k+1) f n ps (iY cl ps.length (cY N.length gx)):=by
 obtain⟨J,M,kV,z,L,O,c,ct,B,rfl,v,m⟩:=Fu.ex
 refine JG v m S (λy H Q E h=>?_) λA outer s H y Q E D l=>?_
 .obtain⟨C,d,F,o,_,a,_⟩:=h
  rw[a.length];exact o
 .obtain⟨C,j,F,o,G,a,e,q⟩:=l
  obtain⟨t,p,r⟩:=I c A outer s H E D
  exact⟨t,p,r F H F H _ _ _ j (We G a) e q⟩
end Dl
namespace L2
open PySem PySem.Spec PyProof.Rows
section
variable {X:Cx}{pins:xv}{σ:St}{H H':Hp}{s s':zn}{E:XK}{e:Value}{E2:yI}{B h3:Heap}
def aa.caught (I:aa X pins σ H s)(os:s'.os=s.os)(g:AllBare s'.gens)(f:Un (bH X.stack) [] H H' s.heap s'.heap)(t:bj X.prog X.w H' s'.heap)(d:jR X.stack H s.heap H' s'.heap B)
 (j:B.StaysIn h3) (v:h3.FunFrames B X.stack) (x:s'.heap.UpToSlots h3):aa X pins σ H' { s' with heap:=h3 }:=by
 obtain⟨N,p,q,k,h⟩:=s'
 have J:h=s.os:=os
 subst J
 have nil:∀ b:Addr,b∉([]:xW):=λb z=>nomatch z
 show aa X pins σ H' { s with heap:=h3,gens:=p,drawn:=q,toks:=k }
 refine I.step (s:=s) (g':=p) (d':=q) (t':=k) (ch:=[]) (λb z=>nomatch z) (λb o y c _ e n=>j b o (d.old b o e n λz=>(q5.mp (I.stkSub b z)).elim y c)) (λb o y c _ e n=>?_) (λb o _ e n=>f.free b o e n (nil b)) (λb o _ e=>?_) f.tups f.frzs f.tbls (λm L=>?_) (t.stays λb u c K=>j b u (d.new b u c K)) g
 .obtain⟨M,w⟩:=f.any e n (nil b)
  obtain⟨_,A,a,i⟩:=I.funs.mem c
  rw[e]at a
  cases a
  obtain⟨l,D⟩:=x b _ w i
  exact⟨l,D⟩
 .by_cases c:b∈bH X.stack
  .obtain⟨_,A,a,_⟩:=v.mem c
   exact⟨A,a⟩
  .obtain⟨h,E⟩:=d.there b o e c
   exact⟨h,j b h E⟩
 .obtain⟨o,F,G,C,i,r⟩:=L
  obtain⟨M,w⟩:=f.any C I.free (nil _)
  exact x.ns ⟨_,F,G,w,i,r⟩
def zfH (h:X.stack=X.env::X.outer)(hf:X.env.frame≈X.env.locals)(R:X.ex=[])(I:aa X pins σ H s)(a:aR X.prog X.w X.stack H s E e s') (k:∀ (b C t:Addr) (A:yN) (H':Hp) (B h3:Heap),E (.ref C) A H'->ZZ h3 b A->H' b=none->(∀ j,X.s₀.heap.get? b≈j->False)->(∀ p∈X.pn++pins,p.1≠b)->Heap.FlyingW B X.stack b (.ref C) (.ref t) h3->(∀ r:Heap,B.StaysIn r->r.FunFrames B X.stack->h3.UpToSlots r->aa X pins σ H' { s' with heap:=r }) ->
 e=.ref b->wpAny M X.A (handleBy (.ref b) X.env W) Q E2 { s' with heap:=h3 }) :
 wpAny M X.A (noteFrame e X.env) (λ_ o=>wpAny M X.A (setFlight e none) (λ_ v=>wpAny M X.A (handleBy e X.env W) Q E2 v) E2 o) E2 s':=by
 obtain⟨b,C,t,A,H',B,rfl,os,w,un,y,G,i,di,hE⟩:=a
 have S:X.A.frames≈(X.env::X.outer):=by rw[I.ok.frames,h]
 have D:=G
 rw[h]at D
 refine Xp (XJ _ _) (wpAny_looks_onW (Q:=λ_ m=>∃ f,m={ s' with heap:=f }/\Heap.HeldW B (X.env::X.outer) b (.ref C) (.ref t) X.env.locals f/\s'.heap.UpToSlots f) S hf D λf c n=>⟨f,rfl,c,n⟩) ?_
 rintro _ _ ⟨f,rfl,c,n⟩ O
 refine Xp (YO _ _) (wpAny_landsW (Q:=λ_ m=>∃ h3,m={ s' with heap:=h3 }/\Heap.FlyingW B (X.env::X.outer) b (.ref C) (.ref t) h3/\f.UpToSlots h3) (s:={ s' with heap:=f }) c λh3 d l=>⟨h3,rfl,d,l⟩) ?_
 rintro _ _ ⟨h3,rfl,d,l⟩ U
 have T:ZZ h3 b A:=by
  obtain⟨K,N,_⟩:=d.there
  exact di.stay (DK.trans O U) ⟨K,N⟩
 rw[<-h]at d
 have x:B.get? b=none:=G.2.1
 have V:b∉bH X.stack:=λz=>by
  obtain⟨_,P,F,L⟩:=G.2.2.1.mem z
  obtain⟨oe,vs,_,_,_,he,_,Y,_⟩:=G.2.2.2
  rw[he]at F
  cases F
  exact L vs Y
 have g:∀ j,s.heap.get? b≈j->False:=λj z=>by
  obtain⟨P,J⟩:=i.there b j z V
  rw[x]at J
  cases J
 refine k b C t A H' B h3 hE T ?_ (λj z=>?_) (λp hp z=>?_) d (λr b1 b2 b3=>I.caught os w un y i b1 b2 ((n.trans l).trans b3)) rfl
 .cases q:H' b with
  |none=>rfl
  |some u =>
   obtain⟨K,Z⟩:=(y b u q).ex
   have z:=i.new b K (by rw[q];intro z;cases z) Z
   rw[x]at z
   cases z
 .obtain⟨P,J⟩:=I.base.there b j z (by rw[R];intro z;cases z)
  exact g P J
 .exact g p.2 (z ▸ (I.pin p hp).1)
end
abbrev Cx.held (X:Cx)(e:Value):Cx:={ X with A:=X.A.mark (some e),calm:=false }
section
variable {X:Cx}{pins:xv}{σ:St}{H H':Hp}{s s':zn}{E:yI}{e:Value}{M:Model}{A:zN}
def Cx.Ok.held (ok:X.Ok)(e:Value):(X.held e).Ok :=
 ⟨ok.mod,ok.kind,ok.glob,ok.blt,ok.above,ok.inj,ok.has,ok.cab,(λz=>by cases z),ok.frames,ok.stk,ok.exf,ok.bs,ok.bsz,ok.noex,ok.exfs,ok.funs,ok.frf⟩
def aa.held (I:aa X pins σ H s)(e:Value):aa (X.held e) pins σ H s:=⟨I.ok.held e,I.os,I.bare,I.base,I.loc,I.cell,I.free,I.freeC,I.pin,I.hok,I.len⟩
def aa.unheld (ok:X.Ok)(I:aa (X.held e) pins σ H s):aa X pins σ H s:=⟨ok,I.os,I.bare,I.base,I.loc,I.cell,I.free,I.freeC,I.pin,I.hok,I.len⟩
def Z4 {i:Nat}{Q:Unit->Shared->Prop}(I:aa X pins σ H s)(Z:X.N.Nodup)(L:X.N[i]?≈x)(W:X.env.scope.names.lookup x≈.local)(h:∀ s',aa X pins (σ.set i none) H s'->Q () s'):wpAny M A (do bindName X.env x .none;unbindBehindTheSuite X.env x G) Q E s:=by
 obtain⟨m,O,V⟩:=id I.loc
 have t:(X.env.scope.kind == .class||(X.env.scope.kind == .module&&X.env.locals != X.env.globals))=false:=by rw[I.ok.kind];rfl
 have r:i<σ.length:=by rw[I.len];exact(j3.mp L).1
 have u:=I.cne
 refine wpAny_nameGoes_keeps W O t λY v D f=>?_
 obtain⟨oL,_,_,R,_⟩:=id O
 have a:bj X.prog X.w H Y:=λb T e=>by
  refine(I.hok b T e).stay (λc N C q=>(f.2 c ?_).trans q) (λ_ q=>q) λ_ _ q=>q
  rintro rfl
  rcases C with rfl|C
  .rw[I.free]at e;cases e
  .rw[I.free]at C;cases C
 have g:∀ b o,X.s₀.heap.get? b≈o->b≠X.env.locals:=λb o e=>j9 (j0 (q7 e) I.ok.above)
 refine h _ ⟨I.ok,I.os,I.bare,⟨λb o e n J w=>?_,λb o e n J w=>?_,I.base.free,λb o e w=>?_,I.base.tups,I.base.frzs,I.base.tbls⟩,⟨_,D,λj y v' l B S=>?_⟩,λy c e=>?_,I.free,I.freeC,λp hp=>?_,a,by simpa using I.len⟩
 .exact(f.2 b (g b o e)).trans (I.base.keep b o e n J w)
 .obtain⟨sl,l⟩:=I.base.slot b o e n J w
  exact⟨sl,(f.2 b (g b o e)).trans l⟩
 .obtain⟨o',l⟩:=I.base.there b o e w
  exact⟨o',(f.2 b (g b o e)).trans l⟩
 .by_cases F:j=i
  .subst F
   rw[r8 r]at B
   cases B
  .rw[u9 (bw F)]at B
   obtain⟨U,P,q⟩:=V j y v' l B S
   refine⟨U,P,?_⟩
   rcases q with ⟨k,e⟩|⟨k,c,e,z⟩
   .refine .inl ⟨k,?_⟩
    have:y≠x:=λe=>F (Ft Z l (e ▸ L))
    simp[this,e]
   .exact .inr ⟨k,c,e,z.sameBut f (u y c e)⟩
 .obtain⟨N,z⟩:=I.cell y c e
  exact⟨N,z.sameBut f (u y c e)⟩
 .obtain⟨e,n,K,nf,d⟩:=I.pin p hp
  exact⟨(f.2 p.1 K).trans e,n,K,nf,d⟩
def eQ (a C:Addr)(c:yN):HO:=.ext λh=>∃ b,h.get? a≈b/\b.cls=.ref C/\b.dict=c/\W.notCls b=true
def aa.track {C:Obj}(I:aa X pins σ H s)(i:H a=none)(E:s.heap.get? a≈C)(B:C.data=.fields G)(h0:∀ M,X.s₀.heap.get? a≈M->False)(L:∀ p∈X.pn++pins,p.1≠a)(t:yM X.prog X.w (aA H a o) s.heap a o):aa X pins σ (aA H a o) s:=by
 have w:X.env.locals≠a:=by
  rintro rfl
  obtain⟨m,⟨P,Q,R,g,l,_⟩,_⟩:=I.loc
  rw[E]at g
  cases g
  rw[B]at l
  cases l
 have y:∀ x c,X.env.cells.lookup x≈c->c≠a:=λx c e=>by
  rintro rfl
  obtain⟨v,O,j,k⟩:=I.cell x c e
  rw[E]at j
  cases j
  rw[B]at k
  cases k
 refine⟨I.ok,I.os,I.bare,⟨I.base.keep,I.base.slot,λb u e n K=>?_,I.base.there,λb A e=>?_,λb u v e=>?_,λb J e=>?_⟩,I.loc,I.cell,?_,λx c e=>?_,λp D=>?_,λb u e=>?_,I.len⟩
 .rw[zj (λz:b=a=>h0 u (z ▸ e))]
  exact I.base.free b u e n K
 .have f:=I.base.tups b A e
  rw[zj (zf f i)]
  exact f
 .have f:=I.base.frzs b u v e
  rw[zj (zf f i)]
  exact f
 .obtain⟨h,f⟩:=I.base.tbls b J e
  exact⟨h,by rw[zj (zf f i)];exact f⟩
 .rw[zj w]
  exact I.free
 .rw[zj (y x c e)]
  exact I.freeC x c e
 .obtain⟨e,n,F,N,d⟩:=I.pin p D
  exact⟨e,by rw[zj (L p D)];exact n,F,N,d⟩
 .by_cases c:b=a
  .subst c
   rw[zl]at e
   cases e
   exact t
  .rw[zj c]at e
   refine(I.hok b u e).stay (λ_ _ _ q=>q) (λc r=>?_) λc A r=>?_
   .rw[zj (zf r i)];exact r
   .rw[zj (zf r i)];exact r
end
abbrev Cx.pinned (X:Cx)(a:xv):Cx:={ X with pn:=X.pn++a }
section
variable {X:Cx}{pins ps:xv}{σ:St}{H H':Hp}{s s':zn}
def Cx.Ok.pinned (ok:X.Ok)(ps:xv):(X.pinned ps).Ok :=
 ⟨ok.mod,ok.kind,ok.glob,ok.blt,ok.above,ok.inj,ok.has,ok.cab,ok.hd,ok.frames,ok.stk,ok.exf,ok.bs,ok.bsz,ok.noex,ok.exfs,ok.funs,ok.frf⟩
def aa.pinAll (I:aa X pins σ H s):aa (X.pinned pins) [] σ H s:=⟨I.ok.pinned pins,I.os,I.bare,I.base,I.loc,I.cell,I.free,I.freeC,λp a=>I.pin p (by rw[r9]at a;exact a),I.hok,I.len⟩
def aa.unpin (ok:X.Ok)(I:aa (X.pinned pins) ps σ H s):aa X pins σ H s:=⟨ok,I.os,I.bare,I.base,I.loc,I.cell,I.free,I.freeC,λp a=>I.pin p (Hr _ a),I.hok,I.len⟩
end
abbrev Je (i:Nat)(D:VN):VN:={ nx:=λa H=>D.nx (a.set i none) H,rt:=D.rt,bk:=λa H=>D.bk (a.set i none) H,ct:=λa H=>D.ct (a.set i none) H }
def BL (K:zx)(CS:Addr)(i n:Nat)(u:TS)(D:VN):XK:=λcls c H'=>∃ C,cls=.ref C/\W.exmOne K (.ref C) (.ref CS)≈true/\∀ (a:Addr) (b:St),b.length=n->H' a=none->u (Je i D) (b.set i (some (.ref a))) (aA H' a (eQ a C c))
def zoR {Y:Cx} {i:Nat} {p k:vu} {tb:XK->TS} (a0:Y.stack=Y.env::Y.outer) (hf:Y.env.frame≈Y.env.locals) (a8:Y.ex=[]) (J:Y.N.Nodup) (O:Y.N[i]?≈n) (A:Y.env.scope.names.lookup n≈.local) (hg:Gl Y x) (hm:Y.mg x≈(.ref CS)) (y:∀ (ps:xv) (W:yI) (E0:XK),wJ (aR Y.prog Y.w) ((Y.pinned ps).wish W) E0->bF ((Y.pinned ps).wish W) p (tb E0)) (m:∀ g,bF (Y.held (.ref g)).nox (r::k) u) (hd:(x == ("__debug__":Str))=false:=by decide) :
 PS Y.nox (.Try p [.ExceptHandler (some (.Name x np)) (some n) (r::k) L] [] [] b4) (λD V H=>tb (BL Y.K CS i Y.N.length u D) D V H):=by
 intro d s V H D I h
 have ok:Y.Ok:=I.ok.unwish
 have IY:aa Y d V H s:=I.unwish
 refine wpAny_Try_except ?_
 refine p0 (y d _ (BL Y.K CS i Y.N.length u D) ?_ [] s V H D (IY.pinAll.wish _) h) ?_ λe E h=>h
 .intro a2 l H1 s1 e K I1 a
  have I1':aa Y d l H1 s1:=I1.unwish.unpin ok
  refine zfH (X:=Y) a0 hf a8 I1' a λg C t od H' B G hE a4 P h0 a1 z w ee=>?_
  obtain⟨C',ec,N,hu⟩:=hE
  cases ec
  have I3:aa Y d l H' { K with heap:=G }:=w G z.1 z.2.2.1 (.refl _)
  obtain⟨ob,a7,R⟩:=z.there
  have ty:PySem.W.Looks (model Y.prog Y.w) G (typeOf (.ref g)) (.ref C):=R ▸ (PySem.W.Looks.ld a7).andThen .now
  refine wpAny_handleBy_cons (codeAny_handlers_test (vS (X:=Y.held (.ref g)) (I3.held (.ref g)) hg hm ?_ hd)) (by intro q;cases q)
  refine(PySem.W.exm_one (M:=model Y.prog Y.w) I3.kIn ty N).here ?_
  refine codeAny_handlers_suite_as ?_
  refine Xp (YO _ _) (wpAny_setFlight_noneW (Q:=λ_ a5=>∃ j,a5={ K with heap:=j }/\B.StaysIn j/\j.FunFrames B Y.stack/\j.TracedW B g (.ref C) (.ref t)/\∀ b o,G.get? b≈o->(∀ vs,o.data≠.fields vs)->j.get? b≈o) (s:={ K with heap:=G }) z.1 z.2.2.1 z.2.2.2.at λj k1 k2 Z k4=>⟨j,rfl,k1,k2,Z,k4⟩) ?_
  rintro _ _ ⟨j,rfl,k1,k2,Z,k4⟩ a9
  have I4:aa Y d l H' { K with heap:=j }:=w j k1 k2 λb o hb hn=>⟨o.slots,k4 b o hb hn⟩
  obtain⟨U,vs,_,_,_,T,a3,F,_⟩:=Z
  obtain⟨b5,S,b0⟩:=a4.stay a9 ⟨U,T⟩
  rw[T]at S
  cases S
  have a6:PySem.W.notCls U=true:=by unfold PySem.W.notCls;rw[F]
  have I5:aa Y d l (aA H' g (eQ g C od)) { K with heap:=j }:=I4.track P T F h0 a1 ⟨⟨U,T,a3.1,b0,a6⟩,⟨U,T⟩,λh1 h2 ⟨o1,e1,e2⟩ kk=>⟨o1,kk o1 e1,e2⟩⟩
  refine Fo (X:=Y.held (.ref g)) (v:=.ref g) (I5.held (.ref g)) J O (.inl A) rfl (λs6 I6=>?_) (.inr A)
  refine p0 (m g d s6 _ _ (Je i D) (I6.wish _) (hu g l I4.len P)) (λf s7 q=>?_) λx s7 q=>q.elim
  cases f with
  |ret uv =>
   obtain⟨v,c,H7,I7,rv,q⟩:=q
   exact Z4 ((aa.unheld (X:=Y) ok I7.unwish)) J O A λs8 I8=>⟨v,_,H7,I8.wish _,rv,q⟩
  |next =>
   obtain⟨c,H7,I7,q⟩:=q
   exact Z4 ((aa.unheld (X:=Y) ok I7.unwish)) J O A λs8 I8=>⟨_,H7,I8.wish _,q⟩
  |brk =>
   obtain⟨c,H7,I7,q⟩:=q
   exact Z4 ((aa.unheld (X:=Y) ok I7.unwish)) J O A λs8 I8=>⟨_,H7,I8.wish _,q⟩
  |cont =>
   obtain⟨c,H7,I7,q⟩:=q
   exact Z4 ((aa.unheld (X:=Y) ok I7.unwish)) J O A λs8 I8=>⟨_,H7,I8.wish _,q⟩
 .intro f E q
  cases f with
  |ret uv =>
   obtain⟨v,c,H7,I7,rv,q⟩:=q
   exact⟨v,c,H7,(aa.unpin (X:=Y) ok I7.unwish).wish _,rv,q⟩
  |next =>
   obtain⟨c,H7,I7,q⟩:=q
   exact Af ⟨c,H7,(aa.unpin (X:=Y) ok I7.unwish).wish _,q⟩
  |brk =>
   obtain⟨c,H7,I7,q⟩:=q
   exact⟨c,H7,(aa.unpin (X:=Y) ok I7.unwish).wish _,q⟩
  |cont =>
   obtain⟨c,H7,I7,q⟩:=q
   exact⟨c,H7,(aa.unpin (X:=Y) ok I7.unwish).wish _,q⟩
end L2
namespace L2
open PySem PySem.Spec PyProof.Rows PySem.W PySem.Calls PySem.Builtin PySem.Builtin.Getset_descriptor
section
variable {prog:zM}{w:World}{A:zN}{E:yI}{K:zx}{h:Heap}{g:Array GenState}{d:Drawn}{t:Nat}{os:OsState}{a C:Addr}{o:Obj}
def Of (h:Heap)(a:Addr)(o:Obj)(C:Addr):Prop:=h.get? a≈o/\o.cls=.ref C
def Of.type (I:Of h a o C):Looks M h (typeOf (.ref a)) (.ref C):=I.2 ▸ (Looks.ld I.1).andThen .now
def zhc (X:K.In h) (d:findIn K (.ref C) b≈(some x)) (e:specialIn K x "__get__"≈(some c)) (f:takesIn K x≈true):Looks M h (Builtin.ObjectAttr.find (.ref a) (.ref C) b) (.bind c x):=by
 have L1:=looks_findIn (M:=M) X d
 have L2:Looks M h (Builtin.ObjectAttr.getOf (some x)) (some c):=looks_specialIn X e
 have L3:=looks_takesIn (M:=M) X f
 exact L1.andThen (L2.andThen ((show Looks M h (Builtin.ObjectAttr.dataDescriptor? (some x) (some c)) (some (c,x))from L3.andThen .now).andThen (Looks.tag .now)))
def zmH {R:Result->Shared->Prop} (X:K.In h) (I:Of h a o C) (e:mroIn K C (.type "object")≈true) (b:R (.ok (.ret (.ref C))) ⟨h,g,d,t,os⟩) :
 codeAny (model prog w) A (.call (.builtin "getset_descriptor.__get__") ⟨[.builtin "object.__class__",.ref a,c],[]⟩) R ⟨h,g,d,t,os⟩:=by
 have L0:=I.type (M:=model prog w)
 have L1:=looks_mroIn (M:=model prog w) X e
 refine Av KF.slot_gs.plain KF.entry_gs (KF.slot_gs.check _ _ _ _ _ _ _ _ KF.type_class (KF.args_gs _ _ _) ?_)
 unfold Builtin.«getset_descriptor.__get__» descrGet
 rw[dga_obj]
 refine u5 (t5 ?_)
 unfold descrGetter descrCheckInstance descrNameAndClass isInstance
 simp only[KF.owner_class]
 repeat lk
 refine⟨Gq _ (by decide +kernel),codeAny_builtin KF.entry_class ?_⟩
 unfold Builtin.«object.__class__» shownTypeOf
 repeat lk
 exact b
def zhq {Q:Fin->Shared->Prop} (X:K.In h) (I:Of h a o C) (b:findIn K (.ref C) "__class__"≈(some (.builtin "object.__class__"))) (c:specialIn K (.builtin "object.__class__") "__get__"≈(some (.builtin "getset_descriptor.__get__"))) (i:takesIn K (.builtin "object.__class__")≈true) (f:mroIn K C (.type "object")≈true) (j:Q (.done (.ret (.ref C))) ⟨h,g,d,t,os⟩):wpAny (model prog w) A (Builtin.«object.__getattribute__» ⟨[.ref a,.str "__class__" e],[]⟩) Q E ⟨h,g,d,t,os⟩:=by
 have L0:=I.type (M:=model prog w)
 have L1:=zhc (M:=model prog w) (a:=a) X b c i
 refine u5 (t5 (u5 ?_))
 refine t5 (u5 (L0.at (u5 (L1.at ?_))))
 show wpAny _ _ (holding [.builtin "object.__class__"] (call (.builtin "getset_descriptor.__get__") [.builtin "object.__class__",.ref a,.ref C])>>=ret) _ _ _
 exact u5 (o9 (gR (zmH X I f (t5 j))))
def zg0 {Q:Unit->Shared->Prop} (X:K.In h) (I:Of h a o C) (f:subIn K (.ref C) (.type "BaseException")≈true) (j:Q () ⟨h,g,d,t,os⟩):wpAny M A (checkBuiltinCall "BaseException.__getattribute__" ⟨[.ref a,b],[]⟩) Q E ⟨h,g,d,t,os⟩:=by
 have e:builtinKind "BaseException.__getattribute__"≈.slot:=by decide +kernel
 have c:splitId "BaseException.__getattribute__"≈("BaseException","__getattribute__"):=by decide +kernel
 have i:=F.args_bexc_ga (.ref a) b
 have L0:=I.type (M:=M)
 have L1:Looks M h (isSubtype (.ref C) (.type "BaseException")) true:=looks_subIn X f
 simp only[checkBuiltinCall,e,c]
 refine u5 ?_
 unfold isInstance
 refine u5 (L0.at (L1.at ?_))
 repeat (first|assumption|wp_step)
def zoI {f:Tok} {Q:yI} (X:K.In h) (I:Of h a o C) (e:findIn K (.ref C) "__getattribute__"≈(some (.builtin "BaseException.__getattribute__"))) (c:findIn K (.ref C) "__getattr__"≈none)
 (i:findIn K (.ref C) "__class__"≈(some (.builtin "object.__class__"))) (j:specialIn K (.builtin "object.__class__") "__get__"≈(some (.builtin "getset_descriptor.__get__"))) (n:takesIn K (.builtin "object.__class__")≈true) (k:mroIn K C (.type "object")≈true) (l:subIn K (.ref C) (.type "BaseException")≈true) (p:Q (.ref C) ⟨h,g,d,t,os⟩) :
 wpAny (model prog w) A (getAttrBy (.ref a) (.str "__class__" f) false) Q E ⟨h,g,d,t,os⟩:=by
 have L0:=I.type (M:=model prog w)
 have L1:=looks_findIn (M:=model prog w) X e
 have L2:=looks_findIn (M:=model prog w) X c
 have m:=F.attrBase_ValueError.ga.bind (.ref a)
 have b:(Value.builtin "BaseException.__getattribute__" == Value.builtin "object.__getattribute__")=false:=by decide +kernel
 unfold getAttrBy
 refine o9 (u5 (L0.at (u5 (L1.at ?_))))
 dsimp only
 rw[b,iR,j4 u7]
 unfold getAttrByItsOwn
 refine u5 ?_
 show wpAny _ _ (typeLookup (.ref C) "__getattr__") _ _ _
 refine L2.at (u5 (ie (o9 ?_)))
 show wpAny _ _ (boundAndCalled (.builtin "BaseException.__getattribute__") (.ref a) (.str "__class__" f)) _ _ _
 unfold boundAndCalled
 rw[m]
 refine u5 (t5 ?_)
 refine gR (Av F.attrBase_ValueError.ga.plain F.entry_bexc_ga (zg0 X I l (zhq X I i j n k ?_)))
 exact handed_on rfl p
def zhO {Q:Option Value->Shared->Prop} {s:zn} (X:K.In s.heap) (I:Of s.heap a o C) (c:findIn K (.ref C) "__getattribute__"≈(some (.builtin "BaseException.__getattribute__"))) (b:findIn K (.ref C) "__getattr__"≈none)
 (e:findIn K (.ref C) "__class__"≈(some (.builtin "object.__class__"))) (f:specialIn K (.builtin "object.__class__") "__get__"≈(some (.builtin "getset_descriptor.__get__"))) (k:takesIn K (.builtin "object.__class__")≈true) (h:mroIn K C (.type "object")≈true) (i:subIn K (.ref C) (.type "BaseException")≈true)
 (j:Q (some (.ref C)) { s with toks:=s.toks+1 }):wpAny (model prog w) A (getAttr? (.ref a) "__class__") Q E s:=by
 obtain⟨l,g,d,t,os⟩:=s
 unfold getAttr? getAttrBy?
 exact u5 (wpAny_mkText (u5 (ie (zoI X I c b e f k h i (t5 j)))))
def vm (K:zx) (C:Addr):Bool:=(clsIn K C).isSome&&findIn K (.ref C) "__getattribute__" == some (some (.builtin "BaseException.__getattribute__"))&&findIn K (.ref C) "__getattr__" == some none&&findIn K (.ref C) "__class__" == some (some (.builtin "object.__class__"))
 && specialIn K (.builtin "object.__class__") "__get__" == some (some (.builtin "getset_descriptor.__get__"))&&takesIn K (.builtin "object.__class__") == some true&&mroIn K C (.type "object") == some true&&subIn K (.ref C) (.type "BaseException") == some true
def zjW (q:vm K C=true):KitX K (.ref a) (.ref C) (λh=>∃ o,Of h a o C):=by
 unfold vm at q
 simp only[j7,dz]at q
 obtain⟨⟨⟨⟨⟨⟨⟨c,i⟩,l⟩,s⟩,t⟩,x⟩,m⟩,v⟩:=q
 obtain⟨A,b⟩:=Q3.mp c
 unfold clsIn at b
 refine⟨λ_ _ _ ⟨_,I⟩=>I.type,λ_ _ X _=>?_,λh p y u n D X f=>?_,λX ⟨_,I⟩ k=>zhO X I i l s t x m v k⟩
 .split at b
  .rename_i r w d j g
   intro A' Q' E' B k q
   unfold isType loadHead
   exact u5 (wpAny_loadPart (k _ _ (X _ _ g)) (t5 q))
  .cases b
 .refine Bool.eq_false_iff.mpr λq=>?_
  have e:C=p:=Value.ref.inj (dz.mp q)
  subst e
  split at b
  .rename_i r w d j g
   have z:=(X _ _ g).symm.trans f
   cases z
  .cases b
def VO {s:zn}{Q:yI}(q:vm K C=true)(X:K.In s.heap)(I:∃ o,Of s.heap a o C)(e:kitOne K (.ref C) c≈b)(f:∀ d,Q (.bool b) { s with toks:=d }) :
 wpAny (model prog w) A (call (.builtin "isinstance") [.ref a,c]) Q E s:=kia_one (zjW q) X I e (by intro z;cases z) f
end
end L2
namespace L2
open PySem PySem.Spec PyProof.Rows
section
variable {P:zM}{w:World}{K:zx}{mg:wm}{base:Heap}
def DG (P:zM)(w:World)(K:zx)(mg:wm)(base:Heap)(k:Nat)(f:Addr)(e:wL)(c:zG)(b:Sp):Prop :=
 (∀ a H Q E,b a H Q E->a.length=c.length)/\∀ (A:zN) (outer:List Env) (s:zn) (H:Hp) (args:Args) (d:zz) (a:zy) (Q:VK) (E:XK) (g:Value),xc k A->gw P w K mg base A outer s H->BindsTo s e args (c.zip d)->ym a d->b a H Q E ->
  codeAny (model P w) (A.mark (some g)) (.call (.ref f) args) (CR aM outer P w H s Q E) s
def znx {f:Addr}{N ps:zG}{k:Nat}{z:Sp}(F:bQ K x c i f L)(S:yz N ps (zm i))(m:∀ g H Q E,z g H Q E->g.length=ps.length) (h:∀ (d:Value) (A:zN) (outer:List Env) (s:zn) (H:Hp) (g:zy) (Q:VK) (E:XK) (l:Value),xc k (A.deeper (envOfC c (zm i) s.heap.objs.size f d))->z g H Q E ->
 ∃ t,bF ((vd aM P w K mg base N c (zm i) f d A outer s H E).held l).nox (ya i) t/\t { nx:=λ_ H'=>Q .non H',rt:=Q } (start N g) H):DG P w K mg base (k+1) f L ps z:=by
 obtain⟨oc,od,kV,O,pm,an,d,ct,Y,rfl,U,B⟩:=F.ex
 refine⟨m,λA outer s H args us g Q E l C n hb r p=>?_⟩
 have KX:K.In s.heap:=n.mod.kin.keeps λb o e=>(n.bs b o e).1
 have bI:s.heap.NoLimit:=n.mod.nolimit.keeps λb o e=>(n.bs b o e).1
 refine Hf (A:=A.mark (some l)) C.depth (KX _ _ U) rfl S.co S.gen rfl (GZ KX B) (hb _ _ _ _ ?_)
 refine wpAny_newFunctionEnv_cells S.kind (λy M=>?_) λenv he G x=>?_
 .rcases S.par y.1 (pU (a:=y.1) (b:=y.2) M).1 with q|q
  .exact .inl q
  .exact .inr ⟨q,Bs _ _ _ (.inl q)⟩
 subst he
 refine⟨bI.keeps x.toInCall.keep,codeAny_func ?_⟩
 obtain⟨t,R,T⟩:=h d A outer s H g Q E l (C.deeper _) p
 have I:aa (vd aM P w K mg base N c (zm i) f d A outer s H E) [] (start N g) H G:=WE S C.hd n (m _ _ _ _ p) r x
 refine p0 (R [] G (start N g) H _ ((I.held l).wish _) T) (λW X j=>?_) λe X j=>j.elim
 cases W with
 |ret u =>
  obtain⟨v,D,H',J,Z,q⟩:=j
  exact⟨v,H',J.os,J.bare,J.base,J.hok,Z,q⟩
 |next =>
  obtain⟨D,H',J,q⟩:=j
  exact⟨V.non,H',J.os,J.bare,J.base,J.hok,rfl,q⟩
 |brk =>
  obtain⟨_,_,_,q⟩:=j
  exact False.elim q
 |cont =>
  obtain⟨_,_,_,q⟩:=j
  exact False.elim q
end
def Y3 {Y:Cx} {k:Nat} {f:Addr} {g:Sp} {p:Pos} {t:TA} (F:DG Y.prog Y.w Y.K Y.mg Y.base k f v y g) (J:xc k Y.A) (A:Gl Y x) (G:Y.mg x≈(.ref f)) (D:W.keepIn Y.K (.ref f)=true) (L:xx Y.K v y []) (l:Y.Ok) (B:PA (Y.held i).nox (e::c) t) (o:(x == ("__debug__":Str))=false:=by decide) (K:starEach (e::c) Y.env=(false,eval e Y.env)::starEach c Y.env:=by rfl) (j:(backTo b (starEach c Y.env)).any (·.1)=false:=by rfl) :
 PE (Y.held i).nox (.Call (.Name x p) (e::c) [] b) (Ds g [] E t):=by
 intro a s z H Q I h
 refine mq (vS I A G ?_ o)
 refine Bd (h₀:=Y.base) I.ok.mod.kin D (aC (B b a s z H _ I h) λm n ⟨w,H1,I1,r,q⟩=>⟨I1.kIn,?_⟩) K j
 have q:g (w++[]) H1 Q E:=q
 rw[r9]at q
 have I2:aa Y a z H1 n:=aa.unheld (X:=Y) l I1.unwish
 refine gR (jB (F.2 Y.A Y.stack n H1 ⟨m,[]⟩ m w Q E i J I2.env0 ?_ r q) λr M d=>?_)
 .have:=L n m I2.kIn (by rw[r9,<- r.length];exact F.1 _ _ _ _ q)
  rwa[r9]at this
 .cases r with
  |error e=>exact False.elim d
  |ok C =>
   cases C with
   |ret u=>exact I1.after d
   |next=>exact False.elim d
   |brk=>exact False.elim d
   |cont=>exact False.elim d
end L2
namespace L2
open PySem PySem.Spec PyProof.Rows PySem.SeqAt
def FZ:∀ {c:List Bool} {a:zz},ym (c.map V.bl) a->a=c.map Value.bool
 |[],a,r=>by
  have:=r.length
  exact List.eq_nil_of_length_eq_zero (by rw[<-this];rfl)
 |b::c,a,r=>by
  cases r with
  |cons d e =>
   rw[FZ e]
   cases d
   rfl
def Qa {a:List Bool}(h:y∈(a.map Value.bool).toArray):EqAt A s y (.bool true) (isBoolOf true y):=by
 obtain⟨b,_,rfl⟩:=dX.mp (List.mem_toArray.mp h)
 exact EqAt.bool_bool b true
def Oc:V->zy->Hp->VK->Prop:=λx b H Q=>∃ (l:Addr) (a:List Bool),x=.ref l/\b=[.bl true]/\H l≈(.lst (a.map V.bl))/\Q (.int ((a.countP (· == true):Nat):Int)) H
def zgQ:qU X "list.count" Oc:=by
 intro d s B H x A v w Q I k i h
 obtain⟨l,a,rfl,rfl,t,q⟩:=h
 cases k
 obtain⟨u,rfl,p⟩:=i.one
 cases p
 obtain⟨m,r,pl,z⟩:=I.list (aK.of (K:=X.K) t)
 have e:=FZ r
 subst e
 obtain⟨⟨cls,g,data,o⟩,c,f,n,b⟩:=pl.isList
 simp only at f b
 subst f b
 refine dw PySem.F.slot_list_count ⟨_,c,rfl⟩ PySem.F.entry_list_count (PySem.F.args_list_count_2 _ _) (list_countAt l (a.map Value.bool).toArray n g o (.bool true) (isBoolOf true)) ⟨c,λy j=>Qa j,?_⟩
 refine⟨.int (((a.map Value.bool).toArray.toList.countP (isBoolOf true):Nat):Int),H,I.tok _,⟨_,rfl⟩,?_⟩
 rw[show(a.map Value.bool).toArray.toList=a.map Value.bool from rfl,List.countP_map]
 exact q
def Mj:V->zy->Hp->VK->Prop:=λx b H Q=>∃ (l:Addr) (a:List Bool),x=.ref l/\b=[.bl true]/\H l≈(.lst (a.map V.bl))/\true∈a/\Q (.int ((a.idxOf true:Nat):Int)) H
def zgh:qU X "list.index" Mj:=by
 intro i s L H x G v J Q I B z h
 obtain⟨l,a,rfl,rfl,F,A,q⟩:=h
 cases B
 obtain⟨u,rfl,E⟩:=z.one
 cases E
 obtain⟨C,r,pl,w⟩:=I.list (aK.of (K:=X.K) F)
 have e:=FZ r
 subst e
 obtain⟨⟨cls,o,data,D⟩,d,j,n,c⟩:=pl.isList
 simp only at j c
 subst j c
 have g:a.idxOf true<a.length:=List.idxOf_lt_length_iff.mpr A
 have f:=XF
 have M:a.length<=sizeLine:=by simpa using w
 refine dw Bk ⟨_,d,rfl⟩ Q0 (Q4 _ _) (list_indexAt l (a.map Value.bool).toArray n o D (.bool true) (isBoolOf true) (a.idxOf true) (by simpa using g) ∅ ?_ ?_) ⟨d,λy t=>Qa t,⟨.int ((a.idxOf true:Nat):Int),H,I.tok _,⟨_,rfl⟩,q⟩⟩
 .simp only[List.getElem_toArray,Bg]
  rw[List.getElem_idxOf g]
  rfl
 .intro m k b
  simp only[List.getElem_toArray,Bg]
  exact List.not_of_lt_findIdx (p:=(· == true)) (xs:=a) b
end L2
namespace L2
open PySem PySem.Spec PyProof.Rows
def qL:V->Option Value
 |.ref C=>some (.ref C)
 |.ty T=>some (.type T)
 |_=>none
def rJ (K:zx):lB:=λe H Q=>∃ (a C:Addr) (d:yN) (v:V) (c:Value) (b:Bool),e=[.ref a,v]/\H a≈(eQ a C d)/\vm K C=true/\qL v≈c/\W.kitOne K (.ref C) c≈b/\Q (.bl b) H
def y9 {X:Cx}:v5 X (.builtin "isinstance") (rJ X.K):=by
 intro i s A H z l Q I j h
 obtain⟨a,C,y,v,c,b,rfl,x,o,t,u,q⟩:=h
 obtain⟨g,d,rfl,f,e⟩:∃ g d,l=[g,d]/\y0 (.ref a) g/\y0 v d:=by
  cases j with
  |cons f r=>cases r with
   |cons e r=>cases r;exact⟨_,_,rfl,f,e⟩
 cases f
 have w:d=c:=by
  cases v <;> try cases t
  .cases e;rfl
  .cases e;rfl
 subst w
 obtain⟨⟨m,n,p,_⟩,_⟩:=I.hok a _ x
 exact VO o I.kIn ⟨m,n,p⟩ u λk=>⟨.bl b,H,I.tok k,rfl,q⟩
def Ph {K:zx}{e:St}{H:Hp}{a C:Addr}{d:yN}{v:V}{c:Value}{b:Bool}{Q:VK}(h0:e[0]?≈(some (.ref a)))(i:H a≈(eQ a C d))(f:vm K C=true)(g:qL v≈c)(h:W.kitOne K (.ref C) c≈b)(q:Q (.bl b) H) :
 qp (rJ K) (XZ (Zh 0) (XZ (tC v) eN)) e H Q:=⟨.ref a,h0,⟨a,C,d,v,c,b,rfl,i,f,g,h,q⟩⟩
def lA (n j:Nat):List Bool:=(List.range n).map λi=>i == j
def vH (K:zx) (a:xW) (CS C:Addr) (j:Nat):Bool:=vm K C&&(W.kitOne K (.ref C) (.type "ValueError") == some true)&&(W.exmOne K (.ref C) (.ref CS) == some true)&&(a.map (λc=>W.kitOne K (.ref C) (.ref c)) == (lA a.length j).map some)
structure oX (K:zx) (cs:xW) (CS C:Addr) (j:Nat):Prop where
 look:vm K C=true
 val:W.kitOne K (.ref C) (.type "ValueError")≈true
 exm:W.exmOne K (.ref C) (.ref CS)≈true
 hot:cs.map (λc=>W.kitOne K (.ref C) (.ref c))=(lA cs.length j).map some
def oX.of {K:zx}{a:xW}{CS C:Addr}{j:Nat}(h:vH K a CS C j=true):oX K a CS C j:=by
 unfold vH at h
 simp only[j7,dz]at h
 exact⟨h.1.1.1,h.1.1.2,h.1.2,h.2⟩
section
variable {K:zx}{σ:St}{H H0:Hp}{a C:Addr}{od:yN}
def By (K:zx):xW->TA
 |[]=>eN
 |c::r=>XZ (qp (rJ K) (XZ (Zh 0) (XZ (tC (.ref c)) eN))) (By K r)
def KH (h0:σ[0]?≈(some (.ref a)))(k:H a≈(eQ a C od))(j:vm K C=true):∀ (f:xW) (d:List Bool) (Q:zy->Hp->Prop),f.map (λc=>W.kitOne K (.ref C) (.ref c))=d.map some->Q (d.map V.bl) H->By K f σ H Q:=by
 intro f
 induction f with
 |nil =>
  intro d Q e q
  cases d with
  |nil=>exact q
  |cons b r=>cases e
 |cons c r h =>
  intro d Q e q
  cases d with
  |nil=>cases e
  |cons b d =>
   obtain⟨g,i⟩:=iM e
   exact Ph h0 k j rfl g (h d _ i q)
structure qW (H0:Hp) (a C:Addr) (od:yN) (bs:List Bool) (σ:St) (H:Hp):Prop where
 same:zS H0 H
 len:σ.length=2
 e0:σ[0]?≈(some (.ref a))
 he:H a≈(eQ a C od)
 lst:∃ p,σ[1]?≈(some (.ref p))/\H p≈(.lst (bs.map V.bl))
def Ox {f:List Bool}{p:Addr}(s:zS H0 H)(h:σ.length=2)(g:σ[0]?≈(some (.ref a)))(d:H a≈(eQ a C od))(c:H p=none):qW H0 a C od f (σ.set 1 (some (.ref p))) (aA H p (.lst (f.map V.bl))):=by
 refine⟨λb o e=>?_,by rw[Gk];exact h,?_,?_,p,?_,zl⟩
 .have:=s b o e
  rw[zj (zf this c)];exact this
 .rw[u9 ⋯];exact g
 .rw[zj (zf d c)];exact d
 .rw[r8 ∅]
def zhK {cs:xW}{bs:List Bool}{D:VN}(g:vm K C=true)(e:cs.map (λc=>W.kitOne K (.ref C) (.ref c))=bs.map some)(h:bs.length<=sizeLine)(j:σ.length=2)(f:σ[0]?≈(some (.ref a)))(d:H a≈(eQ a C od))(k:∀ b H',qW H a C od bs b H'->D.nx b H') :
 kh (rT (By K cs)) (VH 1) D σ H :=
 KH f d g cs bs _ e ⟨by rw[u8];exact h,λp i=>k _ _ (Ox (.refl _) j f d i)⟩
def FJ {cs:xW}{d bs:List Bool}{D:VN}(j:vm K C=true)(e:cs.map (λc=>W.kitOne K (.ref C) (.ref c))=bs.map some)(m:d.length+bs.length<=sizeLine)(S:qW H0 a C od d σ H)(k:∀ f H',qW H0 a C od (d++bs) f H'->D.nx f H') :
 kh (iW CV (Zh 1) (rT (By K cs))) (VH 1) D σ H:=by
 obtain⟨p,i,h⟩:=S.lst
 refine⟨.ref p,i,KH S.e0 S.he j cs bs _ e ⟨by rw[u8];omega,λq g=>?_⟩⟩
 refine⟨p,q,d.map V.bl,bs.map V.bl,rfl,rfl,by rw[zj (zf h g)];exact h,zl,by rw[u8,u8];exact m,λr l=>?_⟩
 rw[<-g5]
 refine k _ _ (Ox (λb o e=>?_) S.len S.e0 ?_ l)
 .have:=S.same b o e
  rw[zj (zf this g)];exact this
 .rw[zj (zf S.he g)];exact S.he
def zfU:∀ j:Nat,j<13->(lA 13 j).countP (· == true)=1/\(lA 13 j).idxOf true=j/\true∈lA 13 j:=by decide +kernel
def zna {j:Nat} {D:VN} (g:W.kitOne K (.ref C) (.type "ValueError")≈true) (e:vm K C=true) (h:j<13) (S:qW H0 a C od (lA 13 j) σ H) (k:D.rt (.int j) H) :
 mV (Cw (Rb (ql (tB (qp (rJ K) (XZ (Zh 0) (XZ (tC (.ty "ValueError")) eN))))) (jx (iW HS (ig K "list" Oc (Zh 1) (XZ (tC (.bl true)) eN)) (tC (.int 1))))) l Dq) (Cg (ig K "list" Mj (Zh 1) (XZ (tC (.bl true)) eN))) D σ H:=by
 obtain⟨i,d,f⟩:=zfU j h
 obtain⟨p,c,b⟩:=S.lst
 refine Ph S.e0 S.he e rfl g ⟨true,rfl,?_⟩
 show(if (!true) then _ else _)
 rw[j4 ⋯]
 refine⟨.ref p,c,.inl ⟨rfl,_,aK.of b⟩,p,_,rfl,rfl,b,?_⟩
 rw[i]
 refine⟨rfl,false,by rw[Ff];rfl,?_⟩
 show(if false then _ else _)
 rw[j4 ⋯]
 refine⟨.ref p,c,.inl ⟨rfl,_,aK.of b⟩,p,_,rfl,rfl,b,f,?_⟩
 rw[d]
 exact k
end
def N7 (c:Nat->Addr)(ok:Nat->Prop):Sp:=λd H Q _=>∃ a j b,d=[.ref a]/\H a≈(eQ a (c j) b)/\ok j/\∀ H',zS H H'->Q (.int (j:Nat)) H'
def Ra (K:zx)(e:TE)(f:Str):TE:=λd H Q=>e d H λx H1=>∃ a C c b v,x=.ref a/\H1 a≈(eQ a C (some c))/\H1 c≈(.xd b)/\Yc K C/\wX K C f/\b.lookup f≈v/\Q v H1
def JL {X:Cx}{g:TE}{f:Str}{d:Pos}(O:PE X e g)(R:attributeBase e f X.env (eval e X.env)=eval e X.env):PE X (.Attribute e f d) (Ra X.K g f):=by
 intro b s K H Q I h
 refine Mt R (aC (O b s K H _ I h) λu P hh9=>?_)
 obtain⟨x,H1,I1,G,a,C,k,T,v,ex,p,S,i,n,l,q⟩:=hh9
 subst ex
 obtain rfl:u=Value.ref a:=G
 obtain⟨⟨E,F,r,D,w⟩,_⟩:=I1.hok a _ p
 obtain⟨t,M,N⟩:=I1.hok k _ S
 obtain⟨c,y,m⟩:=QK M
 obtain⟨u,B,j⟩:=cV.some_of (v:=v) (o:=t f) (by rw[<-l];exact N f)
 have II:PySem.W.InstAt P.heap a E C (some c):=⟨F,r,w,by rw[D];exact y⟩
 obtain⟨z,L,_,A⟩:=i.cls
 have J:W.findObj X.K C (some c) f≈(.value u):=by
  unfold W.findObj
  rw[L,k6,show W.findIn X.K (.ref C) f≈none from n]
  show((W.ownOf z (some c) f).bind _)=_
  unfold W.ownOf
  rw[A,q4 rfl]
  dsimp only
  rw[m,B]
  rfl
 exact zm5 I1.kIn II i J (QH j) ⟨v,H1,I1.tok _,j,q⟩
def PS.nox {X:Cx}{t:TS}(h:PS X.nox b t):PS X b t:=λa s c H D I hw =>
 p0 (h a s c H D (I.wish _) hw) (λ_ _ q=>q.unwish) λ_ _ z=>False.elim z
end L2
namespace Dl
open PySem L2
variable [KK]
def SD.nox {X:Cx}{g:zD}(h:SD X.nox a g):SD X a g:=let ⟨t,p,r⟩:=h;⟨t,p.nox,r⟩
def bM.nox {X:Cx}{g:zD}(h:bM X.nox a g):bM X a g:=let ⟨t,p,r⟩:=h;⟨t,p.nox,r⟩
noncomputable def bD (b:cg):yW:=λa=>b (visG a)
def tR (f:zU)(b:cg):cg:=λa=>(f a).bind λ_=>b a
def yf:dO E cl X a bc:=⟨λ_ _ _=>False,λ_ _ _ _ _ _ h=>h.elim,λ_ _ _ _ _ _ _ _ _ h _=>by cases h⟩
def Gr.more (s:zS F H)(k:zS H H'):Gr F H F H':=⟨zS.refl _,s.trans k,λp o a b=>⟨.inl a,k p o b⟩⟩
def jk (b:yW)(g:zD)(h:Nat->Option D):zD:=λa=>match b a with
 |some j=>match h j with
  |some d=>.rt d
  |none=>.no
 |none=>g a
def gG (H:Hp)(j:Nat)(a:yN):Prop:=match jc j with
 |none=>a=none
 |some c=>∃ b,a≈b/\H b≈(.xd c)
def gG.mono (h:gG H j a)(s:zS H H'):gG H' j a:=by
 unfold gG at h ⊢
 cases e:jc j with
 |none=>rw[e]at h;exact h
 |some f=>rw[e]at h;obtain⟨d,b,c⟩:=h;exact⟨d,b,s _ _ c⟩
structure mR (cl:Nat->Addr) (i j:Nat) (σ:St) (H:Hp) (a:Addr) (od:yN):Prop where
 sl:σ[i]?≈(some (.ref a))
 he:H a≈(eQ a (cl j) od)
 pa:gG H j od
def mR.mono (h:mR cl i j b H a c)(s:zS H H'):mR cl i j b H' a c:=⟨h.sl,s _ _ h.he,h.pa.mono s⟩
def RU (e:Nat->Addr)(i:Nat)(u:TS)(h:Nat->Option D):Prop:=∀ (j:Nat) (d:D) (b:St) (H:Hp) (a:Addr) (c:yN) (D':VN),h j≈d->mR e i j b H a c->(∀ H' v,(∀ F,zS F H->∃ F',Gr F H F' H'/\At F' d v)->D'.rt v H')->u D' b H
def Kd {Y:Cx} {i:Nat} {V:Pos} {E:Nat->Addr} {g:zD} {h:Nat->Option D} (L:Y.stack=Y.env::Y.outer) (hf:Y.env.frame≈Y.env.locals) (T:Y.ex=[]) (hN:Y.N.Nodup) (hi:Y.N[i]?≈n) (hk:Y.env.scope.names.lookup n≈.local) (hg:Gl Y x) (hm:Y.mg x≈(.ref CS)) (Q:∀ (c:xv) (W:yI) (E0:XK),wJ (aR Y.prog Y.w) ((Y.pinned c).wish W) E0->dO E0 E ((Y.pinned c).wish W) a U) (hb:∀ (c:xv) (W:yI),bM ((Y.pinned c).wish W) a g) (C:∀ j d,h j≈d->PySem.W.exmOne Y.K (.ref (E j)) (.ref CS)≈true) (w:Y.Ok->∀ A,bF (Y.held (.ref A)).nox (y::l) u) (hu:RU E i u h) (hd:(x == ("__debug__":Str))=false:=by decide) :
 SD Y.nox (.Try a [.ExceptHandler (some (.Name x np)) (some n) (y::l) B] [] [] V) (jk U g h):=by
 let O:XK->TS:=λE0 D m H=>∀ (c:xv) (W:yI),wJ (aR Y.prog Y.w) ((Y.pinned c).wish W) E0->∃ t,bF ((Y.pinned c).wish W) a t/\t D m H
 refine⟨λD m H=>O (BL Y.K CS i Y.N.length u D) D m H,λf s m H D I M=>?_,λFb Hb F H P m D Z k=>?_⟩
 .refine zoR (tb:=O) L hf T hN hi hk hg hm (λc W E0 R f s m H D I M=>?_) (w I.ok.unwish) hd f s m H D I M
  obtain⟨t,p,ht⟩:=M c W R
  exact p f s m H D I ht
 .intro c W R
  unfold jk at k
  cases e:U P with
  |none =>
   rw[e]at k
   obtain⟨t,p,r⟩:=hb c W
   exact⟨t,p,r Fb Hb F H P m D Z k⟩
  |some j =>
   rw[e]at k
   dsimp only at k
   cases J:h j with
   |none=>rw[J]at k;exact k.elim
   |some d =>
    rw[J]at k
    obtain⟨t,p,r⟩:=Q c W _ R
    refine⟨t,p,r Fb Hb F H P m D j Z e λF' H' N=>?_⟩
    have go:∀ (G:yN) (H0:Hp),zS H' H0->gG H0 j G->BL Y.K CS i Y.N.length u D (.ref (E j)) G H0:=λG H0 sm pa=>⟨_,rfl,C j d J,λA X hl hn=>by
     have K:i<X.length:=by
      rw[hl]
      exact(j3.mp hi).1
     have z:zS H0 (aA H0 A (eQ A (E j) G)):=λb o q=>by rw[zj (zf q hn)];exact q
     refine hu j d _ _ A G _ J ⟨by rw[r8 K],zl,pa.mono z⟩ λH'' v av=>?_
     obtain⟨F2,g2,a2⟩:=av F' (N.fh.trans (sm.trans z))
     exact k F2 H'' v ((N.trans (Gr.more N.fh (sm.trans z))).trans g2) a2⟩
    unfold EJ
    cases ep:jc j with
    |none=>exact go none H' (zS.refl _) (by unfold gG;rw[ep])
    |some fs=>exact λdx S=>go (some dx) _ (λb o q=>by rw[zj (zf q S)];exact q) (by unfold gG;rw[ep];exact⟨dx,rfl,zl⟩)
def SX (e:Nat->Addr)(i:Nat)(t:TE)(f:Nat->Option D):Prop:=∀ (j:Nat) (d:D) (b:St) (H:Hp) (a:Addr) (c:yN) (Q:VK),f j≈d->mR e i j b H a c->(∀ H' v,zS H H'->(∀ F,At F d v)->Q v H')->t b H Q
def qP (g:Nat->Addr)(i:Nat)(t:TA)(f:Nat->Option zk):Prop:=∀ (j:Nat) (d:zk) (b:St) (H:Hp) (a:Addr) (e:yN) (Q:zy->Hp->Prop),f j≈d->mR g i j b H a e->(∀ H' c,zS H H'->(∀ F,aq F d c)->Q c H')->t b H Q
section
variable {cl:Nat->Addr}{i:Nat}
def fK (a:Zx):Nat->Option D:=λj=>if j%16∈a then some (.int (j%16:Nat))else none
def YW {g:Zx}{ok:Nat->Prop}(c:∀ j,cl j=cl (j%16))(b:∀ j,j∈g->ok j):SX cl i (Ds (N7 cl ok) [] E (XZ (Zh i) eN)) (fK g):=by
 intro j d n H a h Q e f k
 unfold fK at e
 split at e <;> try cases e
 rename_i l
 refine⟨.ref a,f.sl,a,j%16,h,rfl,?_,b _ l,λH' m=>k H' _ m λF=>.int⟩
 rw[<-c j]
 exact f.he
def uB:SX cl i (tC (.int c)) (λ_=>some (.int c)):=λj d b H a g Q e f k=>by
 cases e
 exact k H _ (zS.refl _) λF=>.int
def fA (f:Str)(b:Zx):Nat->Option D:=λj=>if j%16∈b then (jc j).bind λa=>match a.lookup f with
 |some (.int n)=>some (.int n)
 |_=>none
 else none
def Mi {f:Str}(h:∀ j,j%16∈o->Yc K (cl j)/\wX K (cl j) f):SX cl i (Ra K (Zh i) f) (fA f o):=by
 intro j d u H a t Q e c k
 unfold fA at e
 split at e <;> try cases e
 rename_i l
 obtain⟨p,s,m⟩:=u4.mp e
 have g:=c.pa
 unfold gG at g
 rw[s]at g
 obtain⟨q,rfl,b⟩:=g
 split at m <;> cases m
 rename_i n r
 exact⟨.ref a,c.sl,a,_,q,p,.int n,rfl,c.he,b,(h j l).1,(h j l).2,r,k H _ (zS.refl _) λF=>.int⟩
def Xo:qP cl i eN (λ_=>some []):=λj d b H a f Q e c k=>by
 cases e
 exact k H _ (zS.refl _) λF=>.nil
def Zb (f:Nat->Option D)(g:Nat->Option zk):Nat->Option zk:=λj=>(f j).bind λd=>(g j).bind λa=>some (d::a)
def wC {t:TE}{f:Nat->Option D}{g:Nat->Option zk}(h:SX cl i t f)(s:qP cl i u g):qP cl i (XZ t u) (Zb f g):=λj d c H a b Q e l k=>by
 obtain⟨x,w,y⟩:=u4.mp e
 obtain⟨n,o,z⟩:=u4.mp y
 cases z
 exact h j x c H a b _ w l λH1 v m q=>s j n c H1 a b _ o (l.mono m) λH2 A p r=>k H2 _ (m.trans p) λF=>.cons (q F) (r F)
def jt (f:Nat->Option zk):Nat->Option D:=λj=>(f j).bind λa=>if a.length<=1000 then some (.lst a)else none
def uq {t:TA}{f:Nat->Option zk}(h:qP cl i t f):RU cl i (Cg (rT t)) (jt f):=λj d u H a n D' e m k=>by
 obtain⟨r,v,b⟩:=u4.mp e
 split at b <;> cases b
 rename_i l
 refine h j r u H a n _ v m λH' w g c=>⟨?_,λp q=>k _ _ λF s=>?_⟩
 .rw[(c H).length]
  exact p6 (wa l)
 .have o:=s.trans g
  exact⟨_,(Gr.more s g).trans (Gr.alloc o q _),At.lst zl (c _)⟩
end
end Dl
namespace L2
open PySem PySem.Spec PyProof.Rows
def eH (a C t:Addr)(c:yN):HO:=.ext λh=>∃ b,h.get? a≈{ cls:=.ref C,dict:=c,data:=.fields #[.ref t,.none,.none,.none,.bool false,.none],slots:=b }
section
variable {X:Cx}{pins:xv}{σ:St}{H:Hp}{s:zn}{h':Heap}{a C t dx:Addr}{f:Str}
def MJ {w:World}{H:Hp}{h:Heap}(e:h.get? a≈{ cls:=.ref C,dict:=b,data:=.fields #[.ref t,.none,.none,.none,.bool false,.none],slots:=sl }):yM P w H h a (eH a C t b) :=
 ⟨⟨sl,e⟩,⟨_,e⟩,λc d ⟨sl,z⟩ k=>⟨sl,k _ z⟩⟩
def aa.two {C:Heap->Prop}{p:HO}{A:Nat}(I:aa X pins σ H s)(x:H a≈(.ext C))(j:∀ o,H dx≈o->∃ l,o=.xd l)(w:∀ o,s.heap.get? dx≈o->H dx≠none)(D:a≠dx)(k:∀ b o,b≠a->b≠dx->s.heap.get? b≈o->h'.get? b≈o)(t:yM X.prog X.w (aA (aA H dx p) a m) h' a m)(r:yM X.prog X.w (aA (aA H dx p) a m) h' dx p):aa X pins σ (aA (aA H dx p) a m) { s with heap:=h',toks:=A }:=by
 have d:∀ b u,H b≈u->(∀ B,u≠.ext B)->(∀ l,u≠.xd l)->aA (aA H dx p) a m b≈u:=λb u e t r=>by
  have h:b≠a:=λz=>by subst z;rw[x]at e;cases e;exact t _ rfl
  have i:b≠dx:=λz=>by subst z;obtain⟨l,rfl⟩:=j u e;exact r _ rfl
  rw[zj h,zj i];exact e
 have f:∀ b o,s.heap.get? b≈o->H b=none->b≠a/\b≠dx:=λb o e n=>⟨λz=>by(subst z;rw[x]at n;cases n),λz=>by(subst z;exact w o e n)⟩
 refine I.un ⟨λb o e n _ _=>k b o (f b o e n).1 (f b o e n).2 e,λb o e n _ _=>⟨o.slots,k b o (f b o e n).1 (f b o e n).2 e⟩,λb o e n _=>by rw[zj (f b o e n).1,zj (f b o e n).2];exact n,λb o e _=>?_,
  λb y e=>d b _ e (λ_ z=>by cases z) (λ_ z=>by cases z),λb o u e=>d b _ e (λ_ z=>by cases z) (λ_ z=>by cases z),λb E e=>⟨#[],by rw[Array.append_empty];exact d b _ e (λ_ z=>by cases z) (λ_ z=>by cases z)⟩⟩ λb u e=>?_
 .by_cases h:b=a
  .subst h;exact t.ex
  .by_cases i:b=dx
   .subst i;exact r.ex
   .exact⟨o,k b o h i e⟩
 .by_cases h:b=a
  .subst h;rw[zl]at e;cases e;exact t
  .rw[zj h]at e
   by_cases i:b=dx
   .subst i;rw[zl]at e;cases e;exact r
   .rw[zj i]at e
    refine(I.hok b u e).stay (λc v g q=>?_) (λc g=>d c _ g (λ_ z=>by cases z) λ_ z=>by cases z) λc y g=>d c _ g (λ_ z=>by cases z) λ_ z=>by cases z
    rcases g with rfl|g
    .exact k _ v h i q
    .refine k c v (λz=>?_) (λz=>?_) q
     .subst z;rw[x]at g;cases g
     .subst z;obtain⟨l,z⟩:=j _ g;cases z
def RC {Q:Unit->Shared->Prop}(I:aa X pins σ H s)(e:H a≈(eH a C t none))(m:Yc X.K C)(n:wX X.K C f)(r:y0 y u)(h:∀ dx d,H dx=none->aa X pins σ (aA (aA H dx (.xd [(f,y)])) a (eH a C t (some dx))) d->Q () d):wpAny (model X.prog X.w) A (setAttr (.ref a) f u) Q E s:=by
 obtain⟨⟨i,c⟩,_⟩:=I.hok a _ e
 refine zjE I.kIn c rfl rfl rfl m n λh' p l k=>h s.heap.objs.size _ (I.hok.fresh (t7 _)) ?_
 have j:a≠s.heap.objs.size:=j9 (q7 c)
 refine I.two e (λo z=>by rw[I.hok.fresh (t7 _)]at z;cases z) (λo z=>absurd (q7 z) (dY _)) j (λb o v _ z=>k b o v z) (MJ (sl:=i) p) ⟨_,l,λg=>?_⟩
 show cV (List.lookup g [(f,y)]) _
 by_cases q:g=f
 .subst q
  rw[q4 rfl]
  simp only[List.lookup,mD]
  exact r
 .rw[j4 q]
  simp only[List.lookup,g8.mpr q]
  trivial
end
def Rc (K:zx)(d e:TE)(f:Str):TS:=λD b H=>e b H λy H1=>d b H1 λx H2=>∃ a C t,x=.ref a/\H2 a≈(eH a C t none)/\Yc K C/\wX K C f/\∀ c,H2 c=none->D.nx b (aA (aA H2 c (.xd [(f,y)])) a (eH a C t (some c)))
section
variable {X:Cx}{o e value:Expr}{f:Str}{pos pos':Pos}{ta tv:TE}
def Jx (m:PE X o ta)(i:PE X value tv)(d:swapsWith value (some (.Attribute o f pos')) pos.line X.env=pure false):PS X (.Assign [.Attribute o f pos'] value pos) (Rc X.K ta tv f):=by
 intro b s c H D I h
 refine Q8 (aC (i b s c H _ I h) λu r ⟨y,H1,I1,v,q⟩=>aC (m b r c H1 _ I1 q) λw A hh9=>?_) d
 obtain⟨x,H2,I2,k,a,C,t,ex,l,j,n,p⟩:=hh9
 subst ex
 obtain rfl:w=Value.ref a:=k
 exact RC I2 l j n v λg z e I3=>⟨c,_,I3,p g e⟩
end
def fD (K:zx)(m:Nat)(ns:zG)(g:zy->List (Str × V)):Sp:=λd H Q _=>∃ a C t c,d=.ref a::c/\c.length=m/\H a≈(eH a C t none)/\Yc K C/\(∀ f,f∈ns->wX K C f)/\∀ b,H b=none->Q .non (aA (aA H b (.xd (g c))) a (eH a C t (some b)))
def BK (f:Str):zy->List (Str × V):=λa=>[(f,a.getD 0 .non)]
def Mr {K:zx}{m:Nat}{ns:zG}{g:zy->List (Str × V)}(b:zy)(H:Hp)(Q:VK)(E:XK)(h:fD K m ns g b H Q E):b.length=m+1:=by
 obtain⟨a,C,t,d,rfl,c,_⟩:=h
 rw[r4,c]
def MF {K:zx} {f:Str} {b:zy} {H:Hp} {Q:VK} {E:XK} {rt:VK} (h:fD K 1 [f] (BK f) b H Q E):Rc K (Zh 0) (Zh 1) f { nx:=λ_ H'=>Q .non H',rt:=rt } (start ["self",f] b) H:=by
 obtain⟨a,C,t,d,rfl,c,j,i,k,q⟩:=h
 obtain⟨y,rfl⟩:∃ y,d=[y]:=by
  cases d with
  |nil=>cases c
  |cons y r=>cases r with
   |nil=>exact⟨y,rfl⟩
   |cons _ _=>cases c
 exact⟨y,rfl,.ref a,rfl,a,C,t,rfl,j,i,k f (j6.mpr rfl),λg e=>q g e⟩
section
variable {X:Cx}{pins:xv}{σ:St}{H:Hp}{s:zn}{ea dx:Addr}{φ:Heap->Prop}
def aa.untrack {H':Hp}(I:aa X pins σ H s)(h:H ea≈(.ext φ))(l:H' ea=none)(d:∀ b,b≠ea->H' b=H b):aa X pins σ H' s:=by
 have no:∀ b,H b=none->H' b=none:=λb e=>by
  have:b≠ea:=λz=>by(subst z;rw[h]at e;cases e)
  rw[d b this];exact e
 have keep:∀ b u,H b≈u->(∀ i,u≠.ext i)->H' b≈u:=λb u e n=>by
  have:b≠ea:=λz=>by(subst z;rw[h]at e;cases e;exact n _ rfl)
  rw[d b this];exact e
 refine⟨I.ok,I.os,I.bare,⟨I.base.keep,I.base.slot,λb o e n m=>no b (I.base.free b o e n m),I.base.there,λb g e=>keep b _ (I.base.tups b g e) (λ_ z=>by cases z),λb o u e=>keep b _ (I.base.frzs b o u e) (λ_ z=>by cases z),λb k e=>?_⟩,I.loc,I.cell,no _ I.free,λx c e=>no _ (I.freeC x c e),λp t=>?_,λb u e=>?_,I.len⟩
 .obtain⟨a,z⟩:=I.base.tbls b k e
  exact⟨a,keep b _ z λ_ y=>by cases y⟩
 .obtain⟨e,n,r⟩:=I.pin p t
  exact⟨e,no _ n,r⟩
 .have j:b≠ea:=λz=>by(subst z;rw[l]at e;cases e)
  rw[d b j]at e
  exact(I.hok b u e).stay (λ_ _ _ q=>q) (λc f=>keep c _ f λ_ z=>by cases z) λc g f=>keep c _ f λ_ z=>by cases z
end
structure Ju (K:zx) (mg:wm) (C:Addr) (x:Str) (f:Addr) (ns:zG):Prop where
 bound:mg x≈(.ref C)
 exc:jj K C f=true
 attr:VA K C=true
 no:∀ n,n∈ns->W.findIn K (.ref C) n≈none
def zgm {P:zM}{w:World}{K:zx}{S:wm}{i:Heap}{N:zG}{j:Str}{d:Scope}{f:Addr}{W:Value}{A:zN}{outer:List Env}{s:zn}{H:Hp}{E:XK}{C fI:Addr}{fd:wL}{x:Str}{np G c4:Pos}{ns ps:zG}{m k:Nat}{g:zy->List (Str × V)}{e:Expr}{es:yO}{t:TA}
 (hc:Ju K S C x fI ns) (F:xt P w K S i aM k fI fd ps (fD K m ns g)) (O:xx K fd ps []) (hr:xc (k+1) (vd (aR P w) P w K S i N j d f W A outer s H E).A) (hg:Gl (vd (aR P w) P w K S i N j d f W A outer s H E) x) (ha:PA (vd (aR P w) P w K S i N j d f W A outer s H E) (e::es) t) (hd:(x == ("__debug__":Str))=false:=by decide)
 (a6:starEach (e::es) (vd (aR P w) P w K S i N j d f W A outer s H E).env=(false,eval e (vd (aR P w) P w K S i N j d f W A outer s H E).env)::starEach es (vd (aR P w) P w K S i N j d f W A outer s H E).env:=by rfl) (c1:(backTo G (starEach es (vd (aR P w) P w K S i N j d f W A outer s H E).env)).any (·.1)=false:=by rfl) :
 PS (vd (aR P w) P w K S i N j d f W A outer s H E) (.Raise (some (.Call (.Name x np) (e::es) [] G)) none c4) (λ_ Z H0=>t Z H0 λU H1=>U.length=m/\m<=1000/\∀ p,H1 p=none->E (.ref C) (some p) (aA H1 p (.xd (g U)))):=by
 let X:=vd (aR P w) P w K S i N j d f W A outer s H E
 intro l s1 Z H0 D I h
 have I:aa X l Z H0 s1:=I
 obtain⟨bm,NN,nm,q,bs,sn,b4,ab,b0,dd,k0,k1,k2,k3,k5,mN,oI,hC,hN,hi,T,hf,c3⟩:=zkj I.ok.mod.kin hc.exc
 refine zeY (C:=C) (nm:=nm) (q:=q) (N:=NN) (bs:=bs) (bm:=bm) (hdct:=true) (sn:=sn) (sub:=b4) (ab:=ab) (col:=b0) (dd:=dd) (k0:=k0) (k1:=k1) (k2:=k2) (k3:=k3) (k5:=k5) (mN:=mN) (fI:=fI) (oI:=oI) (T.hasType pX.hasBase) (I.ok.hd rfl) (by rw[a6];show((false||(backTo G (starEach es _)).any (·.1)))=false;rw[c1];rfl) hi c3 (vS I hg hc.bound ⟨rfl,?_⟩ hd)
 have hs:=ha G l s1 Z H0 _ I h
 rw[a6]at hs ⊢
 refine PySem.Calls.evalArgs_plain (p0 hs (λY c z=>?_) λ_ _ z=>z)
 obtain⟨U,H1,I2,r,hl,hm,hE⟩:=z
 have I2:aa X l Z H1 c:=I2
 have b5:Y.length<=sizeLine:=by rw[<-r.length,hl];exact p6 (wa hm)
 refine⟨rfl,b5,I2.bk _ _ hC,hN.keeps I2.bk,T.keeps I2.bk,I2.bk _ _ hf,?_⟩
 have I3:aa X l Z (aA H1 (c.heap.objs.size+1) (eH (c.heap.objs.size+1) C c.heap.objs.size none)) { c with heap:=ik c.heap C Y }:=I2.laid (t':=c.toks) (λb o z=>vt z) (gU _) (MJ (Kr _ _ _))
 have a8:H1 (c.heap.objs.size+1)=none:=I2.hok.fresh (gU _)
 let R:VK:=λv H'=>v=.non/\∃ p,aA H1 (c.heap.objs.size+1) (eH (c.heap.objs.size+1) C c.heap.objs.size none) p=none/\H'=aA (aA (aA H1 (c.heap.objs.size+1) (eH (c.heap.objs.size+1) C c.heap.objs.size none)) p (.xd (g U))) (c.heap.objs.size+1) (eH (c.heap.objs.size+1) C c.heap.objs.size (some p))
 have a9:fD K m ns g (.ref (c.heap.objs.size+1)::U) (aA H1 (c.heap.objs.size+1) (eH (c.heap.objs.size+1) C c.heap.objs.size none)) R E0:=⟨_,C,_,U,rfl,hl,zl,.of hc.attr,hc.no,λp J=>⟨rfl,p,J,rfl⟩⟩
 have r3:ym (V.ref (c.heap.objs.size+1)::U) (Value.ref (c.heap.objs.size+1)::Y):=.cons rfl r
 have b9:(Value.ref (c.heap.objs.size+1)::Y++[]).length=ps.length:=by rw[r9,<- r3.length];exact F.len _ _ _ _ a9
 have bd:=O { c with heap:=ik c.heap C Y } (Value.ref (c.heap.objs.size+1)::Y) I3.kIn b9
 rw[r9]at bd
 refine gR (jB (F.run _ X.stack _ _ ⟨Value.ref (c.heap.objs.size+1)::Y,[]⟩ _ _ R E0 (hr.make C Y []) (I3.env0.make C Y []) bd r3 a9) λres s4 z=>?_)
 cases res with
 |error e=>exact z.elim
 |ok fl =>
  cases fl with
  |next=>exact False.elim z
  |brk=>exact False.elim z
  |cont=>exact False.elim z
  |ret u =>
   obtain⟨v,H4,c2,a2,a0,a7,rv,rfl,p,J,rfl⟩:=id z
   have J4:aa X l Z _ s4:=I3.call' (ch:=[]) c2 a0 a7 a2 (λb z=>nomatch z)
   obtain rfl:u=Value.none:=rv
   have a5:c.heap.objs.size+1≠p:=λz=>by(subst z;rw[zl]at J;cases J)
   have b7:H1 p=none:=by rw[zj a5.symm]at J;exact J
   have J5:aa X l Z (aA H1 p (.xd (g U))) s4:=J4.untrack (ea:=c.heap.objs.size+1) zl (by rw[zj a5];exact a8) λb O=>by
    rw[zj O]
    unfold aA
    by_cases M:b=p
    .rw[q4 M,q4 M]
    .rw[j4 M,j4 M,j4 O]
   obtain⟨⟨sl,a3⟩,_⟩:=J4.hok _ _ zl
   refine⟨rfl,_,some p,sl,J4.bk _ _ hC,a3,?_⟩
   show wpAny (model P w) X.A (leaving X.env (.ref (c.heap.objs.size+1))) (λ_ a1=>aR P w outer H s E (.ref (c.heap.objs.size+1)) a1) _ s4
   let B:=PySem.W.hideAll s4.heap ((c.heap.objs.size+1)::bH X.stack)
   have b8:∀ env∈X.stack,∀ a,env.frame≈a->a∈(c.heap.objs.size+1)::bH X.stack:=λenv he a ha=>.tail _ (Bf.mpr ⟨env,he,ha⟩)
   refine Xp (Xa _ _) (wpAny_leaving_firstW (Q:=λ_ a1=>∃ M,a1={ s4 with heap:=M }/\Heap.LeftW B (X.env::outer) (c.heap.objs.size+1) (.ref C) (.ref c.heap.objs.size) s4.heap M) (base:=B) (L:=X.env.locals) (outer:=outer) (J4.ok.frames) (PySem.W.funFrames_hide J4.stack b8) rfl a3 (λb o q=>GR _ q) (Ho _ (.head _)) rfl rfl rfl λM y=>⟨M,rfl,y⟩) ?_
   rintro _ _ ⟨M,rfl,y1,⟨_,_,y2⟩,y3,y4⟩ dk
   have x1:Heap.FlyingW B outer (c.heap.objs.size+1) (.ref C) (.ref c.heap.objs.size) M:=⟨y1,Ho _ (.head _),y2,y3⟩
   have a4:∀ b,b∉bH X.stack->b≠c.heap.objs.size+1->b∉(c.heap.objs.size+1)::bH X.stack:=λb h1 M z=>(q5.mp z).elim M h1
   have b6:jR X.stack H1 c.heap (aA H1 p (.xd (g U))) s4.heap B:=by
    refine⟨λb o e n O=>?_,λb o e O=>?_,λb o O e=>?_⟩
    .have ne:b≠c.heap.objs.size+1:=j9 (jM (q7 e))
     exact jF _ (a0.keep b o (vt e) (by rw[zj ne];exact n) O (by simp)) (a4 b O ne)
    .have ne:b≠c.heap.objs.size+1:=j9 (jM (q7 e))
     obtain⟨o',e'⟩:=a0.there b o (vt e) (by simp)
     exact⟨o',jF _ e' (a4 b O ne)⟩
    .refine jF _ e (a4 b (λz=>O (J5.stkFree b z)) λz=>?_)
     subst z
     exact O (by rw[zj a5];exact a8)
   obtain⟨u1,u2,u3⟩:=I2.airUn (X:=X) rfl J5 b6 x1.1 x1.2.2.1 y4
   obtain⟨ob,c0,_⟩:=x1.there
   exact⟨_,C,_,some p,_,B,rfl,J5.os,J5.bare,u1,u2,x1,u3,ZZ.stay (h:=s4.heap) ⟨_,a3,rfl⟩ dk ⟨ob,c0⟩,hE p b7⟩
end L2
namespace Dl
open PySem L2
variable [KK]
def fj (a:fU)(c:yE):yW:=λb=>(c (visG b)).bind a
def gB (c a:Nat):fU
 |[.int i]=>if -1<=i then some (c+16*a+64*(i+1).toNat)else none
 |_=>none
def Jm (d:Nat->Addr)(C:Addr)(m:Nat)(g:zy->List (Str × V))(a:fU):Prop:=∀ b j,a b≈j->d j=C/\b.length=m/\∀ F c,aq F b c->jc j≈(g c)
def Xh {cl:Nat->Addr} {c:Nat} (b:∀ j,cl j=cl (j%16)) (m:c<16):Jm cl (cl c) 1 (BK "at") (gB c 1):=by
 intro k j e
 unfold gB at e
 split at e <;> try cases e
 rename_i i
 split at e <;> cases e
 rename_i n
 refine⟨by rw[b (c+16*1+64*(i+1).toNat)];congr 1;omega,rfl,λF l a=>?_⟩
 obtain⟨v,r,rfl,d,h⟩:=a.cons_inv
 cases d.int_inv
 cases h.nil_inv
 have f:(c+16*1+64*(i+1).toNat)/16%4=1:=by omega
 have g:(((c+16*1+64*(i+1).toNat)/64:Nat):Int)-1=i:=by omega
 unfold jc
 rw[f]
 show some [(_,V.int _)]=_
 rw[g]
 rfl
def vV {w:World} {N:zG} {d:Str} {f:Addr} {k:Nat} {g:zy->List (Str × V)} (hc:Ju K h C x L ns) (F:xt P w K h c aM k L G I (fD K m ns g)) (hb:xx K G I []) (v:Jm cl C m g o) (hr:xc (k+1) (vd (aR P w) P w K h c N d b f i A outer s H E).A) (M:Gl (vd (aR P w) P w K h c N d b f i A outer s H E) x) (W:AD (vd (aR P w) P w K h c N d b f i A outer s H E) (e::n) B) (hm:m<=1000:=by decide) (O:(x == ("__debug__":Str))=false:=by decide) (u:starEach (e::n) (vd (aR P w) P w K h c N d b f i A outer s H E).env=(false,eval e (vd (aR P w) P w K h c N d b f i A outer s H E).env)::starEach n (vd (aR P w) P w K h c N d b f i A outer s H E).env:=by rfl) (r:(backTo l (starEach n (vd (aR P w) P w K h c N d b f i A outer s H E).env)).any (·.1)=false:=by rfl) :
 XS E cl (vd (aR P w) P w K h c N d b f i A outer s H E) (.Raise (some (.Call (.Name x S) (e::n) [] l)) none y) (fj o B):=by
 obtain⟨t,Z,ra⟩:=W
 refine⟨_,zgm hc F hb hr M Z O u r,λFb Hb F H ρ σ D' j p e w=>?_⟩
 obtain⟨J,e1,X⟩:=u4.mp e
 obtain⟨Q,U,Y⟩:=v J j X
 refine ra σ _ _ H J _ p.gh p.visG e1 λF' H' T gr a=>⟨by rw[a.length];exact U,hm,λR q=>?_⟩
 have z:=w F' H' (p.out gr)
 unfold EJ at z
 rw[Y F' T a,Q]at z
 exact z R q
def W6 (b:vA)(e:yW)(g:zD):zk->SE->Option Nat
 |[],_=>none
 |d::ds,ρ=>match b d ρ with
  |none=>none
  |some c=>match e c with
   |some j=>some j
   |none=>match g c with
    |.nx a=>W6 b e g ds a
    |.ct a=>W6 b e g ds a
    |_=>none
def nj (f:yE)(b:vA)(c:yW)(g:zD):yW:=λa=>match f (visF a) with
 |some d=>W6 b c g d a
 |none=>none
def Uy {X:Cx}{N:Expr}{f:yE}{g:zD}(hp:PassesOwn (model X.prog X.w) X.A X.env X.xe)(hc:X.calm=true)(S:ID X N q f)(hg:BD X N b)(hx:dO E cl X a G)(hb:bM X a g)(hs:∀ x,foldedSetIterable q X.env x=pure x:=by intro _;rfl):XS E cl X (.For N q a [] P) (nj f b G g):=by
 obtain⟨wi,pi,ri⟩:=S
 obtain⟨a0,W,rg⟩:=hg
 obtain⟨t1,p1,r1⟩:=hx
 obtain⟨V,p2,r2⟩:=hb
 have M:bF X a (λD l H=>t1 D l H\/V D l H):=λu s l H D I h=>h.elim (p1 u s l H D I) (p2 u s l H D I)
 refine⟨_,ut hp hc pi W M hs,λFb Hb F H p l D' j A k w=>?_⟩
 unfold nj at k
 cases h:f (visF p) with
 |none=>rw[h]at k;cases k
 |some c =>
  rw[h]at k
  refine ri l _ _ H c _ A.gr.fh A.visF h λF1 H1 J g1 L=>?_
  have r:=A.grow g1
  refine⟨λi m l H=>m=c.length-i/\i<=c.length/\∃ F p,zS F1 F/\Rl Fb Hb F H p l/\W6 b G g (c.drop i) p≈j,⟨c.length,by simp,cX _,F1,p,zS.refl _,r,k⟩,?_⟩
  rintro i m l H ⟨rfl,S,F,p,R,A,k⟩
  obtain⟨Q,go⟩:=L i F H R A.gr.fh
  by_cases z:i<c.length
  .have hd:c.drop i=c[i]::c.drop (i+1):=i5 z
   rw[hd]at k
   unfold W6 at k
   obtain⟨q1,Y⟩:=go c[i] (by simp[z])
   refine .inr ⟨q1,λl H=>∃ F p,zS F1 F/\Rl Fb Hb F H p l/\W6 b G g (c.drop (i+1)) p≈j,λa1 H' w=>⟨c.length-(i+1),by omega,rfl,z,w⟩,λx H' U=>?_⟩
   obtain⟨F3,T,Z⟩:=Y x H' U
   cases v:b c[i] p with
   |none=>rw[v]at k;cases k
   |some n =>
    rw[v]at k
    dsimp only at k
    refine rg Fb Hb F3 H' p n l _ x _ (A.grow T) Z v λK B=>?_
    have s3:=R.trans T.ff
    cases y:G n with
    |some j' =>
     rw[y]at k
     cases k
     exact .inl (r1 Fb Hb F3 H' n K _ j B y w)
    |none =>
     rw[y]at k
     dsimp only at k
     refine .inr (r2 F1 (bU F1 Hb) F3 H' n K _ (B.dn r.gr.ff s3) ?_)
     cases o:g n with
     |nx t=>rw[o]at k;exact λF4 H4 O C=>⟨F4,t,C.gr.ff,C.up r.gr,k⟩
     |ct t=>rw[o]at k;exact λF4 H4 O C=>⟨F4,t,C.gr.ff,C.up r.gr,k⟩
     |bk t=>rw[o]at k;cases k
     |rt d=>rw[o]at k;cases k
     |no=>rw[o]at k;cases k
  .have e:i=c.length:=by omega
   subst e
   rw[mF]at k
   cases k
end Dl
namespace L2
open PySem PySem.Spec PyProof.Rows
def lM (s:Stmt)(k:Nat):Stmt:=match s with
 |.ClassDef _ _ _ a _ _ _ _ _ _ _=>a.getD k s
 |_=>s
def jT (K:zx)(C:Addr)(ns:zG):Bool:=ns.all λn=>W.findIn K (.ref C) n == some none
def wx {K:zx}{C:Addr}{ns:zG}(h:jT K C ns=true):∀ n,n∈ns->W.findIn K (.ref C) n≈none:=λn a=>dz.mp (o5.mp h n a)
end L2
namespace Dl
open PySem L2
def gn (a:Zx)(h:Nat->Option D):Nat->Option D:=λj=>if j%16∈a then h j else none
def Mp {d:D}(e:gn a h j≈d):j%16∈a:=by
 unfold gn at e
 split at e
 .assumption
 .cases e
def Lj [KK](r:RU b i u h):RU b i u (gn l h):=λj d f H a c D' e g k=>by
 unfold gn at e
 split at e
 .exact r j d f H a c D' e g k
 .cases e
end Dl
namespace Dl
open PySem L2
variable [KK]
section
variable {E:XK}{cl:Nat->Addr}{X:Cx}{a b:Expr}{pos:Pos}
def R3 {f:zU}(h:XE E cl X a c)(k:ED X b f)(d:Xx b):XE E cl X (.Subscript a b pos) c:=by
 obtain⟨t,p,r⟩:=h
 obtain⟨u,g,_⟩:=k
 exact⟨_,tD Kc p g d,λi l F H j Q s m e w=>r i l F H j _ s m e w⟩
end
end Dl
namespace Dl
open PySem L2
variable [KK]
section
variable {X:Cx}
def qy:R2:=λx y H Q=>∃ F b a,zS F H/\At F (.tup b) x/\At F (.tup a) y/\aL 20 (.tup b)=true/\aL 20 (.tup a)=true/\Q (.bl (!aO 20 (.tup b) (.tup a))) H
def Ue {k:Nat}(P:xc k X.A):aP X (compareOp .NotEq) qy:=by
 intro A s Y H x y v u Q I g l h
 obtain⟨F,z,t,i,O,R,G,J,q⟩:=h
 have L:X.A.units+30<cLine:=by have:=P.un;omega
 obtain⟨p,S,rfl,N,o⟩:=O.tup_inv
 obtain⟨C,V,rfl,B,bl⟩:=R.tup_inv
 cases g
 cases l
 obtain⟨d,r,K,U⟩:=I.tuple (aJ.of (i _ _ N))
 obtain⟨a,w,f,E⟩:=I.tuple (aJ.of (i _ _ B))
 have c:d.toArray.size=z.length:=by rw[t9,<- r.length,o.length]
 have b:a.toArray.size=t.length:=by rw[t9,<- w.length,bl.length]
 refine SeqAt.RcNeAt.tuples (e:=λj=>aO 19 (z.getD j .non) (t.getD j .non)) (show s.heap.IsTuple p d.toArray from K) (show s.heap.IsTuple C a.toArray from f) ∅ (λj n m=>?_) _ _ _ _ ⟨.bl _,H,I,rfl,?_⟩
 .obtain⟨T,D,g⟩:=o.nth r (j:=j) (by simpa using n)
  obtain⟨W,M,l⟩:=bl.nth w (j:=j) (by simpa using m)
  exact Vt I i 19 (xN G (by rw[<-c];exact n)) (xN J (by rw[<-b];exact m)) D M (by simpa using g) (by simpa using l) (i8 (show X.A.units+20<=X.A.units+30 from pZ ⋯ _) L)
 .rw[c,b,<- Ab]
  exact q
end
def kO:xL
 |.tup ds,.tup es=>if (aL 20 (.tup ds)&&aL 20 (.tup es)) then some (.bl (!aO 20 (.tup ds) (.tup es)))else none
 |_,_=>none
def zmZ:bh qy kO:=by
 intro F H x y d e z Q s f c a q
 unfold kO at a
 split at a
 .split at a <;> cases a
  rename_i b
  rw[j7]at b
  exact⟨F,_,_,s,f,c,b.1,b.2,q F H _ (.refl s) .bl⟩
 .cases a
end Dl
namespace OwnDk
open PySem
section
variable {prog:zM}{w:World}{A:zN}{E:yI}{s:zn}
def zcM (hh:A.handled=none)(I a:Addr)(hne:a≠I){ob:Obj}{es:Array DictEntry}{ep:Nat}(hd:ob.data=.dict es ep) :
 Walks prog w A I [I,a] [I] es.size (λi v=>∃ e,es[i]?≈e/\v=e.key) (λi h=>h.IsKeyIter I a i es.size ep/\h.get? a≈ob) where
 sub:=λb hb=>by simp at hb;simp[hb]
 frame:=λ_ _ _ x hk=>⟨x.1.at λo e=>hk I (by simp) o e,hk a (by simp) _ x.2⟩
 item:=λi s Q E hi x hQ=>by
  have hx:es[i]?≈(es[i]'hi):=Bo _
  refine L2.raw_next x.1 x.2 hd hx λh' he' hs'=>?_
  exact hQ _ h' s.toks ⟨_,hx,rfl⟩ ⟨he',(hs'.2 a hne).trans x.2⟩ λb o hb eo=>hs'.extBut b o (λh=>hb (by simp[h])) eo
 done:=λs Q E x hQ=>L2.raw_end hh x.1 x.2 hd (t7 _) λh' he'=>hQ h' s.toks λb o hb eo=>he' b o (λh=>hb (by simp[h])) eo
 self:=λ_ _ _ _ x hQ=>wpAny_pyIter_keyiter x.1 hQ
def X0 {x:Obj}{d:Array DictEntry}{Q:zz->Shared->Prop}(Y:A.handled=none)(Z:(a == sysModules)=false)(hS:s.heap.get? a≈x)(L:x.ExactDict)(M:x.data=.dict d u)(X:d.size<=sizeLine)(hQ:∀ m,(∀ b o,s.heap.get? b≈o->m.heap.get? b≈o)->m.gens=s.gens->m.drawn=s.drawn->m.os=s.os->Q (d.toList.map (·.key)) m):wpAny (model prog w) A (collect (.ref a)) Q E s:=by
 have v:a<s.heap.objs.size:=q7 hS
 have q:s.heap.objs.size≠a:=gZ v
 unfold collect
 refine u5 (wpAny_runValue (codeAny_builtin F.entry_proto_collect ?_))
 rw[Around.under_plainId F.plain_proto_collect _]
 show wpAny _ A.in1 (newList []>>=λl=>again (.builtin "list.__iadd__" ⟨[l,.ref a],[]⟩)) _ _ s
 refine u5 (i6 ?_)
 refine t5 ⟨plainId_quiet F.plain_list_iadd _,codeAny_builtin F.entry_list_iadd ?_⟩
 rw[Around.under_plainId F.plain_list_iadd _]
 have j:(s.heap.push { cls:=.type "list",data:=.seq ([]:zz).toArray }).get? a≈x:=u6 _ hS
 have C:(s.heap.push { cls:=.type "list",data:=.seq ([]:zz).toArray }).get? s.heap.objs.size≈{ cls:=.type "list",data:=.seq ([]:zz).toArray }:=j5 _ rfl
 generalize B:s.heap.push { cls:=.type "list",data:=.seq ([]:zz).toArray }=h1 at j C ⊢
 have U:∀ b o,s.heap.get? b≈o->h1.get? b≈o:=λb o e=>by rw[<-B];exact u6 _ e
 have t:h1.objs.size=s.heap.objs.size+1:=by rw[<-B];exact p9 ..
 show wpAny _ A.in1 (Builtin.List.listExtendWith (.ref s.heap.objs.size) (.ref a) (.ref s.heap.objs.size)) _ _ _
 unfold Builtin.List.listExtendWith
 refine u5 (lR (T:="dict") ⟨_,j,L.1⟩ ?_)
 have R:Builtin.List.listSameRef (.ref s.heap.objs.size) (.ref a)=false:=by simp[Builtin.List.listSameRef,q]
 have P:(Value.type "dict" == Value.type "list")=false:=by decide
 have g3:(Value.type "dict" == Value.type "tuple")=false:=by decide
 simp only[R,P,g3,Bool.or_false,my,fB]
 refine u5 (L2.raw_iter Z j L M ?_)
 have D:(h1.push { cls:=.type "dict_keyiterator",data:=.fields #[.ref a,.int 0 0,.int d.size 0,.int u 0] }).IsKeyIter h1.objs.size a 0 d.size u:=⟨_,j5 _ rfl,rfl,rfl⟩
 have n:(h1.push { cls:=.type "dict_keyiterator",data:=.fields #[.ref a,.int 0 0,.int d.size 0,.int u 0] }).get? a≈x:=u6 _ j
 have p:=u6 { cls:=.type "dict_keyiterator",data:=.fields #[.ref a,.int 0 0,.int d.size 0,.int u 0] } C
 generalize G:h1.push { cls:=.type "dict_keyiterator",data:=.fields #[.ref a,.int 0 0,.int d.size 0,.int u 0] }=h2 at D n p ⊢
 have V:∀ b o,h1.get? b≈o->h2.get? b≈o:=λb o e=>by rw[<-G];exact u6 _ e
 refine u5 (o9 (PySem.W.kdl_hint_dict ⟨_,n,L.1⟩ ?_))
 show wpAny _ A.in1 (if true then _ else _) _ _ _
 rw[q4 rfl]
 refine u5 (iH (u5 ?_))
 show wpAny _ A.in1 (updateSeq s.heap.objs.size (·.push .none)>>=λ_=>updateSeq s.heap.objs.size (·.pop)) _ _ _
 refine u5 (wpAny_updateSeq p rfl ?_)
 have y:=h9 (Obj.mapSeq (·.push Value.none)) p rfl
 refine wpAny_updateSeq (hz:=by seq_fits) y rfl ?_
 have J:=h9 (Obj.mapSeq (·.pop)) y rfl
 have r:∀ b o,b≠s.heap.objs.size->h2.get? b≈o->((h2.update s.heap.objs.size (Obj.mapSeq (·.push Value.none))).update s.heap.objs.size (Obj.mapSeq (·.pop))).get? b≈o :=
  λb o O e=>(i7 _ _ (bw O)).trans ((i7 _ _ (bw O)).trans e)
 have k:h1.objs.size≠s.heap.objs.size:=by rw[t];exact Nat.succ_ne_self _
 have K:a≠h1.objs.size:=by rw[t];exact j9 (jM v)
 have W:=zcM (prog:=prog) (w:=w) (A:=A.in1) Y h1.objs.size a K M
 refine t5 ⟨plainId_quiet F.plain_extend_loop _,codeAny_extend_loopS W.toS X _ (λf=>?_) _ d.size 0 _ #[] _ rfl (cX _) ⟨D.at λo e=>r _ _ k e,r _ _ (bw q) n⟩ J (ItemsOf.nil _) λm g c' h I c=>?_⟩
 .rcases q5.mp f with e|e
  .exact k e.symm
  .exact q (j6.mp e)
 .show wpAny _ A (load s.heap.objs.size>>=_) _ _ m
  refine u5 (wpAny_load I ?_)
  refine t5 ?_
  have e1:g.toList=d.toList.map (·.key):=by
   apply List.ext_getElem?
   intro i
   by_cases H:i<d.size
   .have N:g[i]?≈(g[i]'(by rw[c.1];exact H)):=Bo _
    obtain⟨e,S,q3⟩:=c.2 i _ N
    rw[k8,Hg,Hg,N,S,q3]
    rfl
   .rw[List.getElem?_eq_none (by rw[i9,c.1];exact jJ H),List.getElem?_eq_none (by rw[u8,i9];exact jJ H)]
  rw[e1]
  refine hQ m (λb o e=>h.heap b o (λf=>?_) (r b o (j9 (q7 e)) (V b o (U b o e)))) h.gens h.drawn h.os
  rcases q5.mp f with z|z
  .exact j9 (q7 e) z
  .have:=q7 e
   rw[j6.mp z,t]at this
   exact absurd (Nat.lt_of_succ_lt this) (dY _)
def own_sorted_dict {r:Obj}{l:Array DictEntry}{Q:yI}(V:A.handled=none)(W:(a == sysModules)=false)(hS:s.heap.get? a≈r)(hc:r.ExactDict)(H:r.data=.dict l P)(g:l.size<64)(F:∀ v∈l.toList.map (·.key),∃ t,OwnSortT.TT s.heap v t) (h:∀ (f z:Heap) (u:Nat) (d:wb) (c:Nat),d.toList.Perm (l.toList.map (·.key))->OwnSortT.Rise s.heap d.toList->(∀ b o,s.heap.get? b≈o->f.get? b≈o)->(∀ b o,f.get? b≈o->z.get? b≈o) ->
 z.get? f.objs.size≈{ cls:=.type "list",dict:=none,data:=.seq d c,slots:=#[] }->Q (.ref f.objs.size) { s with heap:=z,toks:=u }) :
 wpAny (model prog w) A (call (.builtin "sorted") [.ref a]) Q E s:=by
 refine Calls.call_function_entry PyProof.Rows.kind_sorted PyProof.Rows.plain_sorted PyProof.Rows.entry_sorted (PyProof.Rows.args_sorted1 _) ?_
 unfold Builtin.«sorted»
 refine u5 (m:=checkCount "sorted" 1 1 _) (t5 (u5 (X0 V W hS hc H (r6 (p6 g) (by rw[fC];decide)) λS k M K Z=>?_)))
 obtain⟨f,L,T,U,B⟩:=S
 have e1:L=s.gens:=M
 have O:T=s.drawn:=K
 have J:B=s.os:=Z
 subst e1 O J
 have g:(l.toList.map (·.key)).length<64:=by rw[u8,i9];exact g
 generalize l.toList.map (·.key)=vs at *
 refine u5 (wpAny_newList ?_)
 have j:(f.push (PyProof.Rows.seqObj "list" vs.toArray 0)).get? f.objs.size≈(PyProof.Rows.seqObj "list" vs.toArray 0):=j5 _ rfl
 have D:∀ b o,s.heap.get? b≈o->(f.push (PyProof.Rows.seqObj "list" vs.toArray 0)).get? b≈o:=λb o e=>u6 _ (k b o e)
 refine u5 (o9 (l9 PyProof.Rows.slot_list_sort ⟨_,j,rfl⟩ PyProof.Rows.entry_list_sort (OwnSortT.ownT_list_sort j (λv q=>let ⟨t,x⟩:=F v q;⟨t,x.keep D⟩) g λd C I=>⟨_,rfl,?_⟩) (PyProof.Rows.args_list_sort _)))
 have n:OwnSortT.Rise s.heap d.toList:=by
  obtain⟨Y,q1,N,X⟩:=I
  refine⟨Y,q1,λi v t q x=>?_,X⟩
  obtain⟨t0,p⟩:=F v (C.mem_iff.mp (o0 q))
  rw[(N i v t q x).uniq (p.keep D)]
  exact p
 have hn:∀ b o,b≠f.objs.size->(f.push (PyProof.Rows.seqObj "list" vs.toArray 0)).get? b≈o->(PyProof.Rows.sortedHeap (f.push (PyProof.Rows.seqObj "list" vs.toArray 0)) f.objs.size vs d).get? b≈o:=λb o G e=>by
  unfold PyProof.Rows.sortedHeap
  exact(i7 _ _ (bw G)).trans (u6 _ (u6 _ ((i7 _ _ (bw G)).trans e)))
 have y:∃ c,(PyProof.Rows.sortedHeap (f.push (PyProof.Rows.seqObj "list" vs.toArray 0)) f.objs.size vs d).get? f.objs.size≈{ cls:=.type "list",dict:=none,data:=.seq d c,slots:=#[] }:=by
  unfold PyProof.Rows.sortedHeap
  have u1:=h9 (Obj.mapSeq λ_=>(#[]:wb)) j rfl
  have R:=u6 (PyProof.Rows.seqObj "list" #[] 0) (u6 (PyProof.Rows.seqObj "tuple" vs.toArray 0) u1)
  exact⟨_,h9 (Obj.mapSeq λ_=>d) R rfl⟩
 obtain⟨c,y⟩:=y
 exact t5 ⟨_,rfl,h f _ _ d c C n k (λb o e=>hn b o (j9 (q7 e)) (u6 _ e)) y⟩
end
end OwnDk
namespace Dl
open PySem L2
def De:List aD->Option zB
 |[]=>some []
 |.inl i::r=>(De r).map (i::·)
 |_=>none
def jz:List (List aD)->Option Z2
 |[]=>some []
 |k::ks=>match De k with
  |some (i::t)=>(jz ks).map ((i::t)::·)
  |_=>none
def zk8:∀ {k:List aD} {t:zB},De k≈t->k=t.map Sum.inl:=by
 intro k
 induction k with
 |nil=>intro t h;cases h;rfl
 |cons a k b =>
  intro t h
  cases a with
  |inl i =>
   obtain⟨r,e,rfl⟩:=t4.mp h
   rw[b e]
   rfl
  |inr x=>cases h
def zjt:∀ {a:List (List aD)} {b:Z2},jz a≈b->a=b.map (λt=>t.map Sum.inl)/\∀ t∈b,t≠[]:=by
 intro a
 induction a with
 |nil=>intro b h;cases h;exact⟨rfl,λt h=>by cases h⟩
 |cons k a g =>
  intro b h
  unfold jz at h
  split at h
  .rename_i i t e
   obtain⟨r,f,rfl⟩:=t4.mp h
   obtain⟨j,d⟩:=g f
   refine⟨by rw[j,zk8 e];rfl,λu c=>?_⟩
   rcases q5.mp c with rfl|c
   .exact Bh _ _
   .exact d u c
  .cases h
def jU (t:zB):Z2->Z2
 |[]=>[t]
 |u::us=>if HT.lexLt u t then u::jU t us else t::u::us
def XD:Z2->Z2
 |[]=>[]
 |t::ts=>jU t (XD ts)
def Qo (t:zB):∀ a:Z2,(jU t a).Perm (t::a):=by
 intro a
 induction a with
 |nil=>exact Aq _
 |cons u a b =>
  unfold jU
  split
  .exact(b.cons u).trans (List.Perm.swap _ _ _)
  .exact Aq _
def WN:∀ a:Z2,(XD a).Perm a:=by
 intro a
 induction a with
 |nil=>exact Aq _
 |cons t a b=>exact(Qo t _).trans (b.cons t)
def zhX (t:zB):∀ f:Z2,f.Pairwise (λa b=>HT.lexLt b a=false)->(jU t f).Pairwise λa b=>HT.lexLt b a=false:=by
 intro f
 induction f with
 |nil=>intro _;exact Hm _ _
 |cons u f g =>
  intro h
  rw[jE]at h
  unfold jU
  by_cases c:HT.lexLt u t=true
  .rw[q4 c]
   refine jE.mpr ⟨λv d=>?_,g h.2⟩
   rcases q5.mp ((Qo t f).mem_iff.mp d)with rfl|d
   .cases e:HT.lexLt v u with
    |false=>rfl
    |true =>
     have:=OwnSortT.lex_trans _ _ _ c e
     rw[OwnSortT.lex_irr]at this
     cases this
   .exact h.1 v d
  .rw[j4 c]
   have c:HT.lexLt u t=false:=by cases e:HT.lexLt u t with
    |false=>rfl
    |true=>exact absurd e c
   refine jE.mpr ⟨λv d=>?_,jE.mpr h⟩
   rcases q5.mp d with rfl|d
   .exact c
   .cases e:HT.lexLt v t with
    |false=>rfl
    |true =>
     rcases OwnSortT.lex_neg v u t e with z|z
     .rw[h.1 v d]at z;cases z
     .rw[c]at z;cases z
def zc0:∀ c:Z2,(XD c).Pairwise λa b=>HT.lexLt b a=false:=by
 intro c
 induction c with
 |nil=>exact List.Pairwise.nil
 |cons t c d=>exact zhX t _ d
def W3 {d:Z2}(p:d.Perm c)(h:d.Pairwise λa b=>HT.lexLt b a=false):d=XD c :=
 Hd (le:=λa b=>HT.lexLt b a=false) (λa b _ _ f e=>OwnSortT.lex_total _ _ e f) h (zc0 c) (p.trans (WN c).symm)
def Cq (t:zB):D:=.tup (t.map .int)
def uC:fQ
 |[.dct _ true ks _]=>if ks.length<64 then (jz ks).map λa=>(XD a).map Cq else none
 |_=>none
variable [KK]
section
variable {X:Cx}{e:Expr}{pos:Pos}
def Gr.seeL {H:Hp}:∀ {F:Hp} (d:List (Addr × zy)),zS F H->(∀ b∈d,H b.1≈(.tup b.2))->∃ F',Gr F H F' H/\∀ b∈d,F' b.1≈(.tup b.2):=by
 intro F d
 induction d generalizing F with
 |nil=>intro s _;exact⟨F,.refl s,λb h=>by cases h⟩
 |cons b d j =>
  intro s h
  obtain⟨F1,f,g⟩:=Gr.see s (h b o7)
  obtain⟨F2,e,i⟩:=j f.fh λc a=>h c (r0 _ a)
  refine⟨F2,f.trans e,λc a=>?_⟩
  rcases q5.mp a with rfl|a
  .exact e.ff _ _ g
  .exact i c a
def zb9 (R:X.calm=true):v5 X (.builtin "sorted") (λC H Q=>∃ F a z ks ys x,C=[.ref a]/\zS F H/\gD F a z true ks ys/\ks.length<64/\jz ks≈x/\∀ l zs F',H l=none->Gr F H F' H->aq F' ((XD x).map Cq) zs->Q (.ref l) (aA H l (.lst zs))):=by
 intro a0 s σ H C us Q I r h
 obtain⟨F,a,z,ks,ys,x,rfl,sm,P,b0,hk,q⟩:=h
 obtain⟨u,rfl,ru⟩:=Z9 r
 cases ru
 obtain⟨rfl,a2⟩:=zjt hk
 rw[u8]at b0
 obtain⟨u,hu,hz⟩:=P.mono sm
 unfold cR at hu
 rw[q4 rfl]at hu
 obtain⟨E,rfl,W,-⟩:=hu
 have ok:yM X.prog X.w H s.heap a (.dT E):=by
  cases z with
  |true=>rw[q4 rfl]at hz;obtain⟨ob,e⟩:=hz;exact(show yM X.prog X.w H s.heap a (.frz ob (.dT E))from I.hok a _ e).2
  |false=>rw[j4 u7]at hz;exact I.hok a _ hz
 obtain⟨_,a9,C,pr,o,es,ep,e1,ex,dt,he,nd⟩:=ok
 have hp:=Al pr
 have b5:E.length=x.length:=by have:=bN List.length W;rw[u8,u8]at this;exact this
 have D:es.toList.map (·.key)=C.map λq=>Value.ref q.2.1:=by rw[he,iV];rfl
 have a8:es.size<64:=by rw[<-i9,he,u8];omega
 have b4:∀ {l:gO} {m:List (List aD × Addr × Value)},Paired (λp q=>p.1=q.1/\H q.2.1≈(.tup (p.1.map kV))/\y0 p.2 q.2.2) l m->∀ (j:Nat) (k:j<l.length) (G:j<m.length),l[j].1=m[j].1/\H m[j].2.1≈(.tup (l[j].1.map kV)):=λ{l m} r=>by
  induction r with
  |nil=>intro j k;simp at k
  |cons h t O =>
   intro j k G
   cases j with
   |zero=>exact⟨h.1,h.2.1⟩
   |succ j=>exact O j (by simpa using k) (by simpa using G)
 have Z:∀ (j:Nat) (k:j<x.length) (G:j<C.length),H C[j].2.1≈(.tup (x[j].map V.int)):=λj k G=>by
  have h3:j<E.length:=by omega
  obtain⟨-,r2⟩:=b4 pr j h3 G
  have T:E[j].1=x[j].map Sum.inl:=by
   have:=bN (λl=>l[j]?) W
   simp only[k8]at this
   rw[o6 h3,o6 k]at this
   exact g0 this
  rw[r2,T,iV]
  rfl
 have L:∀ {v:Value},v∈(C.map λq=>Value.ref q.2.1)->∃ b t,v=.ref b/\t∈x/\H b≈(.tup (t.map V.int))/\OwnSortT.TT s.heap v t:=λ{v} hv=>by
  obtain⟨j,hj,rfl⟩:=iK hv
  rw[u8]at hj
  have S:j<x.length:=by omega
  have J:=Z j S hj
  rw[Bg]
  obtain⟨us,ru,⟨o,ho,N,n,P⟩,_⟩:=I.tuple (aJ.of J)
  exact⟨C[j].2.1,x[j],rfl,jK S,J,C[j].2.1,o,n,us,rfl,ho,N,P,v8 ru,a2 _ (jK S)⟩
 refine OwnDk.own_sorted_dict (I.ok.hd R) a9 e1 ex dt a8 (λv hv=>by rw[D]at hv;obtain⟨b,t,-,-,-,M⟩:=L hv;exact⟨t,M⟩) λk h' tk U c pm ri k1 k2 hL=>?_
 rw[D]at pm
 obtain⟨us,l1,l2,l3⟩:=ri
 have Y:∀ (y:zz) (f:Z2),y.length=f.length->(∀ w∈y,w∈C.map λq=>Value.ref q.2.1)->(∀ (i:Nat) v t,y[i]?≈v->f[i]?≈t->OwnSortT.TT s.heap v t)->∃ A:List (Addr × zB),A.map (·.2)=f/\ym (A.map λb=>V.ref b.1) y/\∀ b∈A,H b.1≈(.tup (b.2.map V.int)):=by
  intro y
  induction y with
  |nil =>
   intro f K _ _
   cases f with
   |nil=>exact⟨[],rfl,.nil,λb h=>by cases h⟩
   |cons _ _=>simp at K
  |cons w y O =>
   intro f K hm M
   cases f with
   |nil=>simp at K
   |cons t f =>
    obtain⟨A,z0,z1,z2⟩:=O f (by simpa using K) (λw' a5=>hm w' (r0 _ a5)) (λi v t k G=>M (i+1) v t (by simpa using k) (by simpa using G))
    obtain⟨a,t',rfl,_,ha,a3⟩:=L (hm w o7)
    have et:t'=t:=a3.uniq (M 0 _ t rfl rfl)
    subst et
    exact⟨(a,t')::A,by rw[o4,z0],.cons rfl z1,λb J=>by
     rcases q5.mp J with rfl|J
     .exact ha
     .exact z2 b J⟩
 obtain⟨A,z0,z1,z2⟩:=Y U.toList us l1 (λw hw=>pm.mem_iff.mp hw) l2
 have B:us.Perm x:=by
  have kv:∀ (y:zz) (f:Z2),y.length=f.length->(∀ (i:Nat) v t,y[i]?≈v->f[i]?≈t->OwnSortT.TT s.heap v t)->f=y.map λv=>(OwnSortT.keyTT s.heap v).getD []:=by
   intro y
   induction y with
   |nil=>intro f K _;cases f with
    |nil=>rfl
    |cons _ _=>simp at K
   |cons w y O =>
    intro f K M
    cases f with
    |nil=>simp at K
    |cons t f =>
     rw[o4,OwnSortT.keyTT_of (M 0 w t rfl rfl),<- O f (by simpa using K) λi v t k G=>M (i+1) v t (by simpa using k) (by simpa using G)]
     rfl
  rw[kv _ _ l1 l2,kv (C.map λq=>Value.ref q.2.1) x (by rw[u8];omega) λi v t k G=>?_]
  .exact pm.map _
  .obtain⟨hi,e2⟩:=j3.mp k
   obtain⟨a1,T⟩:=j3.mp G
   rw[u8]at hi
   have J:=Z i a1 hi
   rw[T]at J
   obtain⟨a4,a7,⟨o,ho,N,n,P⟩,_⟩:=I.tuple (aJ.of J)
   exact⟨C[i].2.1,o,n,a4,by rw[<-e2,Bg],ho,N,P,v8 a7,a2 t (by rw[<-T];exact jK a1)⟩
 have T:=W3 B l3
 subst T
 obtain⟨F',g,hF⟩:=Gr.seeL (A.map λb=>(b.1,b.2.map V.int)) sm λb J=>by
  obtain⟨c,R,rfl⟩:=dX.mp J
  exact z2 c R
 have az:aq F' ((XD x).map Cq) (A.map λb=>V.ref b.1):=by
  rw[<-z0]
  clear z0 z1 pm l1 l2
  induction A with
  |nil=>exact .nil
  |cons b A O=>exact .cons (.tup (hF (b.1,b.2.map V.int) (dX.mpr ⟨b,o7,rfl⟩)) (.ints _)) (O (λc R=>z2 c (r0 _ R)) (λc R=>by
   obtain⟨d,P,rfl⟩:=dX.mp R
   exact hF _ (dX.mpr ⟨d,r0 _ P,rfl⟩)))
 have I2:aa X a0 σ H { s with heap:=k,toks:=tk }:=I.kept λb u e=>k1 b u e
 have a6:(A.map λb=>V.ref b.1).length<=sizeLine:=by
  have hh:A.length=(XD x).length:=by rw[<-z0,u8]
  rw[u8,hh,(WN x).length_eq,fC]
  omega
 exact⟨.ref k.objs.size,_,I2.laid (t':=tk) (λb o e=>k2 b o e) (t7 _) (show yM X.prog X.w _ h' _ (.lst (A.map λb=>V.ref b.1)) from⟨a6,U.toList,c,z1,by simpa using hL⟩),rfl,q _ _ F' (I2.hok.fresh (t7 _)) g az⟩
def ze4 {p:Pos} {f:yE} (M:X.calm=true) (h:Gl X "sorted") (C:X.mg "sorted"=none) (n:AD X [e] f)
 (N:starEach [e] X.env=(false,eval e X.env)::starEach [] X.env:=by rfl) (d:(backTo pos (starEach [] X.env)).any (·.1)=false:=by rfl):FL X (.Call (.Name "sorted" p) [e] [] pos) (bJ uC f):=by
 obtain⟨t,v,B⟩:=n
 refine⟨_,yy (zb9 M) h C Qx v ⋯ ⋯ N d,λK R F H z Q s y e q=>?_⟩
 obtain⟨J,L,u⟩:=u4.mp e
 refine B K R F H J _ s y L λF1 H1 T i I=>?_
 have a:=u
 unfold uC at a
 split at a
 .rename_i m o S
  split at a <;> try cases a
  rename_i O
  obtain⟨G,j,rfl⟩:=t4.mp a
  obtain⟨x,r,rfl,k,P⟩:=I.cons_inv
  cases P.nil_inv
  obtain⟨p,w,rfl,E,bl⟩:=k.dct_inv
  refine⟨F1,p,m,o,w,G,rfl,i.fh,E,∅,j,λl zs F' c g A=>?_⟩
  have b:=i.trans g
  exact q _ _ _ _ (b.trans (Gr.hide b.fh c _)) (gH b c) (b.fh.free c) zl A
 .cases a
end
end Dl
namespace Dl
open PySem L2
variable [KK]
def qu (k:Bool):D->Option (zk × D)
 |.tup [x,y]=>match k,x,y with
  |false,.lst es,y=>some (es,y)
  |true,x,.lst es=>some (es,x)
  |_,_,_=>none
 |_=>none
def Bv (k:Bool)(p:Addr)(v:V):zy:=if k then [v,.ref p]else [.ref p,v]
def Hv (k:Bool)(a:zk)(y:D):D:=if k then .tup [y,.lst a]else .tup [.lst a,y]
omit [KK] in
def zpK {k:Bool}{d:D}(h:qu k d≈(c,y)):d=Hv k c y:=by
 unfold qu at h
 split at h
 .rename_i a b
  cases k with
  |false=>cases a <;> cases h;rfl
  |true=>cases b <;> cases h;rfl
 .cases h
def eZ (k:Bool)(F H:Hp)(Q:VK)(d:D):Prop:=match qu k d with
 |some (es,y)=>∀ F' H' a p b v,Gr F H F' H'->H p=none->H a=none->F' p=none->F' a=none->H' p≈(.lst b)->H' a≈(.tup (Bv k p v))->aq F' es b->At F' y v->Q (.ref a) H'
 |none=>∀ F' H' v,Gr F H F' H'->At F' d v->Q v H'
def eZ.up {k:Bool}{d:D}(c:Gr Fb Hb F1 H1)(h:eZ k Fb Hb Q d):eZ k F1 (bU F1 Hb) Q d:=by
 have b:∀ q,bU F1 Hb q=none->Hb q=none:=λq h=>by
  cases e:F1 q with
  |none=>rw[Y7 e]at h;exact h
  |some o=>rw[P0 e]at h;cases h
 unfold eZ at h ⊢
 cases e:qu k d with
 |some p =>
  obtain⟨m,y⟩:=p
  rw[e]at h
  exact λF' H' a p f v g l i=>h F' H' a p f v (c.up g) (b p l) (b a i)
 |none =>
  rw[e]at h
  exact λF' H' v g j=>h F' H' v (c.up g) j
def eZ.of {k:Bool}{Q:VK}{d:D}(h:∀ F' H' v,Gr F H F' H'->At F' d v->Q v H'):eZ k F H Q d:=by
 unfold eZ
 cases e:qu k d with
 |none=>exact h
 |some q =>
  obtain⟨E,y⟩:=q
  rintro F' H' a p c v g w B n l s r C t
  have m:a≠p:=sU r s (by intro z;cases z)
  have x:=g.show w n s
  have A:=x.show B (by rw[zj m];exact l) r
  have o:zS F' (aA F' p (.lst c)):=λb u e=>by rw[zj (zf e n)];exact e
  have j:zS (aA F' p (.lst c)) (aA (aA F' p (.lst c)) a (.tup (Bv k p v))):=λb u e=>by rw[zj (zf e (by rw[zj m];exact l))];exact e
  have i:At (aA (aA F' p (.lst c)) a (.tup (Bv k p v))) (.lst E) (.ref p):=At.lst (j _ _ zl) (C.mono (o.trans j))
  have f:At (aA (aA F' p (.lst c)) a (.tup (Bv k p v))) y v:=t.mono (o.trans j)
  refine h _ _ _ A ?_
  rw[zpK e]
  cases k with
  |false=>exact At.tup zl (.cons i (.cons f .nil))
  |true=>exact At.tup zl (.cons f (.cons i .nil))
def Cr (k:Bool)(Fb Hb:Hp)(E:VN):bu->Prop
 |.rt d=>eZ k Fb Hb E.rt d
 |c=>mK Fb Hb E c
def Rn (k:Bool)(t:TS)(g:zD):Prop:=∀ (Fb Hb F H:Hp) (b:SE) (a:St) (E:VN),Rl Fb Hb F H b a->Cr k Fb Hb E (g b)->t E a H
def jQ (k:Bool)(X:Cx)(a:Stmt)(g:zD):Prop:=∃ t,PS X a t/\Rn k t g
def iy (k:Bool)(X:Cx)(a:vu)(g:zD):Prop:=∃ t,bF X a t/\Rn k t g
section
variable {k:Bool}{X:Cx}{st:Stmt}{sts:vu}{a b c e tg:Expr}{pos pos':Pos}
def Ga:iy k X [] zA:=⟨_,WX,λ_ _ F H b a E r h=>h F H a r⟩
def vl {g:zD}(l:jQ k X st g)(m:iy k X sts h):iy k X (st::sts) (zI g h):=by
 obtain⟨t,p,r⟩:=l
 obtain⟨u,j,o⟩:=m
 refine⟨_,yV p j,λFb Hb F H f n E i q=>?_⟩
 refine r Fb Hb F H f n { E with nx:=u E } i ?_
 unfold zI at q
 cases e:g f with
 |nx a =>
  rw[e]at q
  exact λF' H' c b=>o Fb Hb F' H' a c E b q
 |rt d=>rw[e]at q;exact q
 |bk d=>rw[e]at q;exact q
 |ct d=>rw[e]at q;exact q
 |no=>rw[e]at q;exact q
def ZP {g:zD}(a:jQ k X st g):iy k X [st] g:=let ⟨_,p,r⟩:=a;⟨_,x4 p,r⟩
def tX {g:zD}(h:SD X st g)(f:∀ a d,g a≠.rt d):jQ k X st g:=by
 obtain⟨t,p,r⟩:=h
 refine⟨t,p,λFb Hb F H a b E c q=>r Fb Hb F H a b E c ?_⟩
 cases e:g a with
 |rt d=>exact absurd e (f a d)
 |nx _=>rw[e]at q;exact q
 |bk _=>rw[e]at q;exact q
 |ct _=>rw[e]at q;exact q
 |no=>rw[e]at q;exact q
def DP {t:vz}{g:zD}(s:TD X c t)(l:iy k X i g)(v:iy k X j h):jQ k X (.If c i j pos) (aB t g h):=by
 obtain⟨x,u,n⟩:=s
 obtain⟨w,m,o⟩:=l
 obtain⟨y,r,p⟩:=v
 refine⟨_,lG u m r,λFb Hb F H f e E b q=>?_⟩
 unfold aB at q
 cases h:t (visG f) with
 |none=>rw[h]at q;exact q.elim
 |some d =>
  rw[h]at q
  refine n e _ _ H d _ b.gh b.visG h λF' H' g=>?_
  have a:=b.grow (b.back g).1
  cases d with
  |true=>rw[q4 rfl];exact o Fb Hb _ H' f e E a q
  |false=>rw[j4 u7];exact p Fb Hb _ H' f e E a q
def zmC {p:vu}{f:yE}{b:vA}{g:zD}(hp:PassesOwn (model X.prog X.w) X.A X.env X.xe)(hc:X.calm=true)(I:ID X tg j f)(M:BD X tg b)(hb:iy k X p g)(V:∀ x,foldedSetIterable j X.env x=pure x:=by intro _;rfl):jQ k X (.For tg j p [] pos) (Wh f b g):=by
 obtain⟨wi,pi,P⟩:=I
 obtain⟨Y,Q,S⟩:=M
 obtain⟨tb,pb,W⟩:=hb
 refine⟨_,ut hp hc pi Q pb V,λFb Hb F H n r E s q=>?_⟩
 unfold Wh at q
 cases h:f (visF n) with
 |none=>rw[h]at q;exact q.elim
 |some a =>
  rw[h]at q
  refine P r _ _ H a _ s.gr.fh s.visF h λF1 H1 J R C=>?_
  have c:=s.grow R
  refine⟨λi m r H=>m=a.length-i/\i<=a.length/\∃ F n,zS F1 F/\Rl Fb Hb F H n r/\Cr k Fb Hb E (dG b g (a.drop i) n),⟨a.length,by simp,cX _,F1,n,zS.refl _,c,q⟩,?_⟩
  rintro i m r H ⟨rfl,I,F,n,L,s,q⟩
  obtain⟨A,go⟩:=C i F H L s.gr.fh
  by_cases t:i<a.length
  .have N:a.drop i=a[i]::a.drop (i+1):=i5 t
   rw[N]at q
   unfold dG at q
   obtain⟨q1,T⟩:=go a[i] (by simp[t])
   refine .inr ⟨q1,λr H=>∃ F n,zS F1 F/\Rl Fb Hb F H n r/\Cr k Fb Hb E (dG b g (a.drop (i+1)) n),λa0 H' w=>⟨a.length-(i+1),by omega,rfl,t,w⟩,λx H' O=>?_⟩
   obtain⟨F3,K,U⟩:=T x H' O
   cases v:b a[i] n with
   |none=>rw[v]at q;exact q.elim
   |some u =>
    rw[v]at q
    dsimp only at q
    refine S Fb Hb F3 H' n u r _ x _ (s.grow K) U v λG B=>?_
    have Z:=L.trans K.ff
    refine W F1 (bU F1 Hb) F3 H' u G _ (B.dn c.gr.ff Z) ?_
    cases l:g u with
    |nx o=>rw[l]at q;exact λF4 H4 z y=>⟨F4,o,y.gr.ff,y.up c.gr,q⟩
    |ct o=>rw[l]at q;exact λF4 H4 z y=>⟨F4,o,y.gr.ff,y.up c.gr,q⟩
    |bk o=>rw[l]at q;exact λF4 H4 z y=>q F4 H4 z (y.up c.gr)
    |rt d=>rw[l]at q;exact eZ.up c.gr q
    |no=>rw[l]at q;exact q.elim
  .have e:i=a.length:=by omega
   subst e
   rw[mF]at q
   exact .inl ⟨A rfl,q F H r s⟩
def jw (i:Nat)(f:zU):zD:=λa=>match a[i]?,f (visF a) with
 |some (.o ds),some y=>.rt (.tup [.lst ds,y])
 |_,_=>.no
def Oo {a:zy}(h:a.length<=2):a.length<=sizeLine:=p6 (wa (r6 h ⋯))
def FQ {f:zU}{x1}(ho:PE X a (Zh i))(he:ED X e f)(hs:starEach [a,e] X.env=(false,eval a X.env)::starEach [e] X.env:=by rfl)(hs2:starEach [e] X.env=(false,eval e X.env)::starEach [] X.env:=by rfl):jQ false X (.Return (some (.Tuple [a,e] x1 pos')) pos) (jw i f):=by
 obtain⟨t,p,r⟩:=he
 refine⟨_,Ys (lJ (zo ho (zo p z3 hs2) hs)),λFb Hb F H A K E j q=>?_⟩
 unfold jw at q
 cases l:A[i]? with
 |none=>rw[l]at q;exact q.elim
 |some M =>
  rw[l]at q
  cases M with
  |no=>exact q.elim
  |v _=>exact q.elim
  |m _ _ _=>exact q.elim
  |k _ _ _=>exact q.elim
  |o C =>
   cases w:f (visF A) with
   |none=>rw[w]at q;exact q.elim
   |some y =>
    rw[w]at q
    obtain⟨B,N,x,L,Q,P,O⟩:=j.owns i C l
    refine⟨_,x,?_⟩
    refine r K _ _ H y _ j.gr.fh j.visF w λF' H' v g J=>⟨Oo (t7 _),λz b=>?_⟩
    have c:=j.grow g
    obtain⟨G,u,d,_,n,h,s⟩:=c.owns i C l
    rw[x]at d
    cases d
    have I:B≠z:=zf h b
    exact q F' _ z B u v (c.gr.trans (Gr.hide g.fh b _)) L (c.notbase b) n (g.fh.free b) (by rw[zj I];exact h) zl s J
def Dj (b:yE)(f:zU):zD:=λa=>match b (visF a),f (visF a) with
 |some es,some y=>.rt (.tup [.lst es,y])
 |_,_=>.no
def zjb {f:zU}{x1}(hl:FL X a j)(he:ED X e f)(hs:starEach [a,e] X.env=(false,eval a X.env)::starEach [e] X.env:=by rfl)(hs2:starEach [e] X.env=(false,eval e X.env)::starEach [] X.env:=by rfl):jQ false X (.Return (some (.Tuple [a,e] x1 pos')) pos) (Dj j f):=by
 obtain⟨t,p,r⟩:=he
 obtain⟨u,A,G⟩:=hl
 refine⟨_,Ys (lJ (zo A (zo p z3 hs2) hs)),λFb Hb F H s o E c q=>?_⟩
 unfold Dj at q
 cases i:j (visF s) with
 |none=>rw[i]at q;exact q.elim
 |some B =>
  rw[i]at q
  cases k:f (visF s) with
  |none=>rw[k]at q;exact q.elim
  |some y =>
   rw[k]at q
   refine G o _ _ H B _ c.gr.fh c.visF i λF' H' m w g h0 K L J=>?_
   refine r o _ F' H' y _ g.fh (c.visF.mono g.ff) k λF2 H2 v h I=>⟨Oo (t7 _),λl b=>?_⟩
   obtain⟨C,n⟩:=h.kl (λ_ z=>by cases z) K L
   have x:m≠l:=zf n b
   have d:=(c.grow g).grow h
   exact q F2 _ l m w v (d.gr.trans (Gr.hide h.fh b _)) (c.notbase h0) (d.notbase b) C (h.fh.free b) (by rw[zj x];exact n) zl (J.mono h.ff) I
end
def CN (k:Bool)(m:Nat)(p:wI):Sp:=λb H Q _=>∃ a d F,a.length=m/\zS F H/\aq F a b/\p a≈d/\eZ k F H Q d
def T7 {k:Bool}{w:World}{f:Addr}{N ps:zG}{g:zD}(Fu:bQ K x b l f y)(S:yz N ps (zm l))(I:∀ (c:Value) (A:zN) (outer:List Env) (s:zn) (H:Hp) (E:XK),xc n (A.deeper (PyProof.Rows.envOfC b (zm l) s.heap.objs.size f c))->iy k (vd aM P w K B i N b (zm l) f c A outer s H E).nox (ya l) g)(o:∀ m u,g m≠.nx u) :
 xt P w K B i aM (n+1) f y ps (CN k ps.length (aH N.length g)):=by
 refine Fu.ok S (λC H Q E h=>?_) λc A outer s H C Q E D h=>?_
 .obtain⟨v,d,F,z,_,a,_⟩:=h
  rw[a.length];exact z
 .obtain⟨v,d,F,z,G,a,e,q⟩:=h
  obtain⟨t,p,r⟩:=I c A outer s H E D
  refine⟨t,p,r F H F H _ _ _ (We G a) ?_⟩
  unfold aH at e
  cases j:g (v.map .v++List.replicate (N.length-v.length) .no) with
  |rt J=>rw[j]at e;cases e;exact q
  |nx m=>exact absurd j (o _ _)
  |bk m=>rw[j]at e;cases e
  |ct m=>rw[j]at e;cases e
  |no=>rw[j]at e;cases e
def zoT {k:Bool}{w:World}{f:Addr}{p:wI}(F:xt P w K e a aM n f b c (CN k m p)):xt P w K e a aM n f b c (bW m p) :=
 F.imp λq H Q E ⟨l,d,F',h,j,g,o,i⟩=>⟨l,d,F',h,j,g,o,eZ.of i⟩
end Dl
namespace Dl
open PySem L2
variable [KK]
section
variable {X:Cx}{st1 st2 st3 st4:Stmt}{i j:Nat}
omit [KK] in
def zob {i:Nat}{f:yE}(a:SE)(d:D):Wl i f a≠.rt d:=by
 unfold Wl
 cases f (visF a) <;> (intro h;cases h)
omit [KK] in
def zmj {i:Nat}{f:zU}(a:SE)(d:D):bV m i f a≠.rt d:=by
 unfold bV
 split <;> (intro h;cases h)
def IK (g:zD):Prop:=∀ b a,g b≠.nx a
omit [KK] in
def uG {g:zD}(k:IK h):IK (zI g h):=λc b e=>by
 unfold zI at e
 cases a:g c with
 |nx r=>rw[a]at e;exact k _ _ e
 |_=>rw[a]at e;cases e
omit [KK] in
def zlb {i:Nat}{f:zU}:IK (jw i f):=λb a e=>by
 unfold jw at e
 split at e <;> cases e
end
end Dl
namespace L2
open PySem PySem.Spec PyProof.Rows
section
variable {X:Cx}
def JX:V->zy->Hp->VK->Prop:=λx b H Q=>∃ l a y,x=.ref l/\b=[]/\H l≈(.lst (a++[y]))/\Q y (aA H l (.lst a))
def zgk (r:ym (b++[y]) a):∃ d u,a=d++[u]/\ym b d/\y0 y u:=by
 have f:=r.take b.length
 have c:=r.drop b.length
 rw[List.take_left]at f
 rw[List.drop_left]at c
 obtain⟨u,e,g⟩:=c.one
 refine⟨a.take b.length,u,?_,f,g⟩
 have:=List.take_append_drop b.length a
 rw[e]at this
 exact this.symm
def zmo:mQ X "list.pop" JX:=by
 intro c s w H x t v p Q I k g h
 obtain⟨l,b,y,rfl,rfl,f,q⟩:=h
 cases k
 cases g
 obtain⟨z,m,n,r,A,e⟩:=I.lstM f
 obtain⟨a,u,rfl,d,o⟩:=zgk r
 have i:b.length+1<=sizeLine:=by rw[k7]at z;exact z
 have j:a.length=b.length:=d.length.symm
 refine dw F.slot_list_pop ⟨_,e,rfl⟩ F.entry_list_pop (F.args_list_pop_1 _) (PySem.MeetsSeq.list_pop_last l (a++[u]).toArray n u (by simp) (by rw[t9,k7,j];exact i)) ⟨e,?_⟩
 refine⟨y,_,I.lset (its':=a) f e (by simp[List.eraseIdx_append_of_length_le]) d ∅,o,q⟩
end
end L2
namespace Dl
open PySem L2
section
variable [KK]{X:Cx}{a:Expr}{pos:Pos}
def aq.unsnoc {a:zk}{d:D}(h:aq F (a++[d]) b):∃ g y,b=g++[y]/\aq F a g/\At F d y:=by
 have f:=h.take a.length
 have c:=h.drop a.length
 rw[List.take_left]at f
 rw[List.drop_left]at c
 obtain⟨y,r,e,j,i⟩:=c.cons_inv
 cases i.nil_inv
 refine⟨b.take a.length,y,?_,f,j⟩
 have:=List.take_append_drop a.length b
 rw[e]at this
 exact this.symm
end
def b3:iD
 |.tup [x,y,z]=>some [some x,some y,some z]
 |_=>none
end Dl
namespace Dl
open PySem L2
variable [KK]
def aj {X:Cx} (i:Nat) (d:X.N[i]?≈x:=by rfl) (e:eY X.env.scope x:=by first | exact Or.inl rfl | exact Or.inr (Or.inl rfl) | exact Or.inr (Or.inr rfl)) (c:(x == ("__debug__":Str))=false:=by decide) (a:(x == ("__classdict__":Str))=false:=by decide):ED X (.Name x b) (zc i):=zp0 i (pv i d e c a)
def zF {X:Cx} {k:Nat} {f:Addr} {t:Stmt} {p:wI} (F:xt X.prog X.w X.K X.mg X.base aM j f l i (bW m p)) (r:xc k X.A) (n:Gl X x) (d:jh X.K X.mg x t i f l) (q:AD X (e::a) h) (o:j<=k:=by decide) (g:(x == ("__debug__":Str))=false:=by decide) (s:starEach (e::a) X.env=(false,eval e X.env)::starEach a X.env:=by rfl) (c:(backTo b (starEach a X.env)).any (·.1)=false:=by rfl) :
 ED X (.Call (.Name x u) (e::a) [] b) (zq m p h):=zmp (F.mono o) r n d.at_ d.kp d.bd q g s c
end Dl
namespace L2
open PySem PySem.Spec PyProof.Rows
def zfX:∀ {b:zG} {a:zz},ym (b.map V.str) a->∃ l:List (Str × Tok),a=strValues l/\l.map (·.1)=b:=by
 intro b
 induction b with
 |nil=>intro a h;cases h;exact⟨[],rfl,rfl⟩
 |cons x b c =>
  intro a h
  cases h with
  |cons r t =>
   obtain⟨u,rfl⟩:=r
   obtain⟨l,rfl,e⟩:=c t
   exact⟨(x,u)::l,rfl,by rw[o4,e]⟩
def zh3 (l:List (Str × Tok)):ym ((l.map (·.1)).map V.str) (strValues l):=by
 induction l with
 |nil=>exact .nil
 |cons p l a=>exact .cons ⟨p.2,rfl⟩ a
section
variable {X:Cx}
def JP (K:zx):V->zy->Hp->VK->Prop:=λx c H Q=>∃ a p b,x=.str a/\c=[.ref p]/\aK K H p (b.map V.str)/\JoinOk a b=true/\Q (.str (Txt.join a b)) H
def Xe:mQ X "str.join" (JP X.K):=by
 intro b s z H x y v m Q I d c h
 obtain⟨j,p,o,rfl,rfl,e,a,q⟩:=h
 obtain⟨t,rfl⟩:=d
 obtain⟨u,rfl,i⟩:=c.one
 cases i
 obtain⟨g,r,pl,w⟩:=I.list e
 obtain⟨l,rfl,f⟩:=zfX r
 exact SC.join (D:=p) pl.isList f a λn k=>⟨.str _,H,I.tok _,⟨_,rfl⟩,q⟩
def ziI {w:World} {s:zn} {a b:Str} {g:Tok} {Q:yI} (i:(b.length == 0)=false) (j:a.length+2<=sizeLine) (q:∀ (l:List (Str × Tok)) (k:Nat),l.map (·.1)=Txt.split a b->Q (.ref s.heap.objs.size) { s with heap:=s.heap.push { cls:=.type "list",data:=.seq (strValues l).toArray },toks:=k }) :
 wpAny (model e w) A (call (.builtin "str.split") [.str a c,.str b g]) Q E s:=by
 have h:(Builtin.Str.partsBetween a (Builtin.Str.occurrences a b 0 a.length (a.length+1)) b.length).length<=sizeLine:=by
  have z:=StrLaws.occ_length_le a b 0 a.length (a.length+1)
  rw[length_partsBetween]
  omega
 cases d:(decide (a.length<b.length)||decide (Builtin.Str.strKind a<Builtin.Str.strKind b)) with
 |true=>exact dw F.slot_str_split (lN s a c) GK (Gp _ _) (meets_str_split_cannot_occur a b c g d) (q [(a,c)] s.toks (by unfold Txt.split;rw[q4 d];rfl))
 |false =>
  cases f:(Builtin.Str.occurrences a b 0 a.length (a.length+1)).isEmpty with
  |true=>exact dw F.slot_str_split (lN s a c) GK (Gp _ _) (meets_str_split_not_found a b c g d i f) (q [(a,c)] s.toks (by unfold Txt.split;rw[j4 (by rw[d];decide),q4 f];rfl))
  |false =>
   refine dw F.slot_str_split (lN s a c) GK (Gp _ _) (meets_str_split_sep a b c g d i f ∅ h) ?_
   have z:=q (numbered s.toks (Builtin.Str.partsBetween a (Builtin.Str.occurrences a b 0 a.length (a.length+1)) b.length))
   rw[<-strsFrom_eq]at z
   exact z _ (by rw[numbered_texts];unfold Txt.split;rw[j4 (by rw[d];decide),j4 (by rw[f];decide)])
def Lz:V->zy->Hp->VK->Prop:=λx c H Q=>∃ a b,x=.str a/\c=[.str b]/\(b.length == 0)=false/\a.length+2<=sizeLine/\(Txt.split a b).length<=sizeLine/\∀ l,H l=none->Q (.ref l) (aA H l (.lst ((Txt.split a b).map V.str)))
def Pz:mQ X "str.split" Lz:=by
 intro c s p H x o v m Q I f d h
 obtain⟨a,b,rfl,rfl,j,g,i,q⟩:=h
 obtain⟨t,rfl⟩:=f
 obtain⟨u,rfl,n,rfl⟩:=d.one
 refine ziI j g λl k e=>?_
 refine⟨.ref _,_,I.lnew (ys:=(Txt.split a b).map V.str) (its:=strValues l) (by rw[<-e];exact zh3 l) (by rw[u8];exact i),rfl,q _ I.fresh⟩
def zcb:v5 X (.type "int") (λb H Q=>∃ a n,b=[.str a]/\a.length<=640/\intText? a≈n/\Q (.int n) H):=by
 intro c s g H b f Q I r h
 obtain⟨a,n,rfl,d,e,q⟩:=h
 obtain⟨u,rfl,t,rfl⟩:=Z9 r
 exact call_int_1 (PySem.W.KIN.gives_text d e).meets (show(Made.int n).post _ s from⟨rfl,.int n,H,I.tok _,⟨_,rfl⟩,q⟩)
def Jc (a:Str):It:=⟨λi _=>i<a.cps.size,λi H x H'=>H'=H/\∃ c,a.cps[i]?≈c/\x=.str ⟨#[c]⟩,λi _=>a.cps.size<=i⟩
def zjZ {P:zM} {w:World} {K:zx} {tg:Expr} (a:Str) (t:Tok) (it:Addr):iB P w K tg (Jc a) [it] it (λi h=>h.IsStrIter it "str_ascii_iterator" a t i) where
 mem:=j6.mpr rfl
 obj:=λi h st b hb=>by
  obtain rfl:=j6.mp hb
  obtain⟨o,e,_,d⟩:=st
  exact⟨o,e,λv z=>by rw[d]at z;cases z⟩
 keep:=λi h h' st k=>by
  obtain⟨o,e,r⟩:=st
  exact⟨o,k it (j6.mpr rfl) o e,r⟩
 item:=by
  intro X hP hw hK hc i pins s σ H E I hf st hg
  subst hP hw hK
  have hg:i<a.cps.size:=hg
  obtain⟨f0,f1,f2,f3,f4,f5⟩:=hf it (j6.mpr rfl)
  refine wpAny_pyNext_ascii_item st (c:=a.cps[i]) (Bo hg) λh' st' sb=>?_
  have I1:aa X pins σ H { s with heap:=h',toks:=s.toks+1 }:=I.turned (t':=s.toks+1) (λb o hb e=>(sb.2 b hb).trans e) f0 f1 f3 f4 f5
  obtain⟨o,e,c,d⟩:=id st'
  exact⟨_,rfl,sZ (s:={ s with heap:=h',toks:=s.toks+1 }) e c d ⋯ ⟨.str ⟨#[a.cps[i]]⟩,H,I1,⟨_,rfl⟩,⟨rfl,_,Bo hg,rfl⟩,st',λb hb=>(hf b hb).1⟩⟩
 done:=by
  intro X hP hw hK hc i pins s σ H E I hf st hg
  subst hP hw hK
  have hg:a.cps.size<=i:=hg
  obtain⟨f0,f1,f2,f3,f4,f5⟩:=hf it (j6.mpr rfl)
  exact wpAny_pyNext_ascii_end (I.ok.hd hc) st (Array.getElem?_eq_none hg) λh' eb=>⟨rfl,I.turned (t':=s.toks) (λb o hb e=>eb b o hb e) f0 f1 f3 f4 f5⟩
 self:=λ_ _ _ _ _ st h=>wpAny_pyIter_striter_ascii st h
def Ii (t:TE):TI:=λb H R=>t b H λx H1=>∃ a,x=.str a/\a.cps.all (· < 128)=true/\R (Jc a) H1
def zoX {f:Expr}{t:TE}(h:PE X e t):PI X f e (Ii t):=by
 intro c s g H R I q
 refine aC (h c s g H _ I q) λv d hh9=>?_
 obtain⟨x,H1,I1,j,k⟩:=hh9
 obtain⟨a,rfl,i,q⟩:=k
 obtain⟨u,rfl⟩:=j
 refine wpAny_pyIter_ascii i ?_
 refine⟨_,[d.heap.objs.size],_,Jc a,H1,rfl,I1.kept (t':=d.toks) (λb o e=>u6 _ e),zjZ a u _,⟨_,j5 _ rfl,rfl,rfl⟩,λb l=>?_,q⟩
 rw[j6.mp l]
 exact I1.fpOk (t7 _) (I1.hok.fresh (t7 _))
end
end L2
namespace Dl
open PySem L2 PySem.Spec PyProof.Rows
variable [KK]
section
variable {X:Cx}{tg a b e:Expr}{pos:Pos}
def XR:zk->Option zG
 |[]=>some []
 |.str x::ds=>(XR ds).map (x::·)
 |_=>none
omit [KK] in
def Xv (a:zG):XR (a.map .str)≈a:=by
 induction a with
 |nil=>rfl
 |cons x a b=>show(XR (a.map .str)).map (x::·)=_;rw[b];rfl
def aq.strs:∀ {a:zk} {c:zG} {b:zy},XR a≈c->aq F a b->b=c.map V.str:=by
 intro a
 induction a with
 |nil=>intro c b h f;cases h;exact f.nil_inv
 |cons d a g =>
  intro c b h f
  cases d with
  |str x =>
   obtain⟨l,e,rfl⟩:=t4.mp h
   obtain⟨y,r,rfl,j,i⟩:=f.cons_inv
   rw[g e i,j.str_inv]
   rfl
  |_=>cases h
def aq.ofStrs (a:zG):aq F (a.map D.str) (a.map V.str):=by
 induction a with
 |nil=>exact .nil
 |cons x a b=>exact .cons .str b
def ZR (c d:D):Option D:=match c,d with
 |.str s,.lst ds=>(XR ds).bind λa=>if JoinOk s a then some (.str (Txt.join s a))else none
 |_,_=>none
def Xs {p:Pos}{f:zU}{g:yE}(C:ED X a f)(R:AD X [e] g)
 (N:∀ {i:TE} {t:TA},PE X a i->PA X [e] t->PE X (.Call (.Attribute a "join" p) [e] [] pos) (ig X.K "str" (JP X.K) i t)):ED X (.Call (.Attribute a "join" p) [e] [] pos) (YC ZR f g):=by
 obtain⟨i,I,J⟩:=C
 obtain⟨t,A,w⟩:=R
 refine⟨_,N I A,λr u F H z Q s n h0 q=>?_⟩
 obtain⟨c,P,o⟩:=u4.mp h0
 obtain⟨Y,E,h⟩:=u4.mp o
 clear h0 o
 split at h
 .rename_i d
  unfold ZR at h
  split at h
  .rename_i j W
   obtain⟨L,x,h⟩:=u4.mp h
   split at h <;> cases h
   rename_i k
   refine J r u F H _ _ s n P λF1 H1 v b O=>?_
   cases O.str_inv
   refine⟨rfl,?_⟩
   refine w r u F1 H1 _ _ b.fh (n.mono b.ff) E λF2 H2 V m B=>?_
   obtain⟨y,T,rfl,K,S⟩:=B.cons_inv
   cases S.nil_inv
   obtain⟨l,U,rfl,M,G⟩:=K.lst_inv
   have:=G.strs x
   subst this
   exact⟨j,l,L,rfl,rfl,aK.of (m.fh _ _ M),k,q F2 H2 _ (b.trans m) .str⟩
  .cases h
 .cases h
def uw (c d:D):Option zk:=match c,d with
 |.str x,.str y=>if (y.length == 0)=false/\x.length<=100000/\(Txt.split x y).length<=100000 then some ((Txt.split x y).map .str)else none
 |_,_=>none
def CZ (m:D->D->Option zk)(f:zU)(g:yE):yE:=λa=>(f a).bind λc=>(g a).bind λb=>match b with
 |[d]=>m c d
 |_=>none
def O4 {p:Pos}{f:zU}{g:yE}(E:ED X a f)(O:AD X [e] g)
 (L:∀ {m:TE} {t:TA},PE X a m->PA X [e] t->PE X (.Call (.Attribute a "split" p) [e] [] pos) (ig X.K "str" Lz m t)):FL X (.Call (.Attribute a "split" p) [e] [] pos) (CZ uw f g):=by
 obtain⟨m,J,K⟩:=E
 obtain⟨t,B,A⟩:=O
 refine⟨_,L J B,λw n F H z Q s o h0 q=>?_⟩
 obtain⟨c,N,r⟩:=u4.mp h0
 obtain⟨V,I,h⟩:=u4.mp r
 clear h0 r
 split at h
 .rename_i d
  unfold uw at h
  split at h
  .rename_i x y
   split at h <;> cases h
   rename_i G
   refine K w n F H _ _ s o N λF1 H1 v k M=>?_
   cases M.str_inv
   refine⟨rfl,?_⟩
   refine A w n F1 H1 _ _ k.fh (o.mono k.ff) I λF2 H2 T i C=>?_
   obtain⟨u,S,rfl,P,R⟩:=C.cons_inv
   cases R.nil_inv
   cases P.str_inv
   have U:100002<=sizeLine:=by rw[fC];decide
   have b:=k.trans i
   exact⟨x,y,rfl,rfl,G.1,by omega,by omega,λl j=>q _ _ _ _ (b.trans (Gr.hide i.fh j _)) (gH b j) (i.fh.free j) zl (aq.ofStrs _)⟩
  .cases h
 .cases h
def VC:wI
 |[.int i]=>if 0<=i/\i<1000000 then some (.str (Str.ofString (toString i)))else none
 |_=>none
def Zr:eG (λa H Q=>∃ i,a=[.int i]/\i.natAbs.log2<1920/\Q (.str (toString i)) H) VC:=by
 intro F H k j z Q s f h q
 unfold VC at h
 split at h
 .rename_i i
  split at h <;> cases h
  rename_i l
  obtain⟨x,r,rfl,d,g⟩:=f.cons_inv
  cases g.nil_inv
  refine⟨i,by rw[d.int_inv],?_,q F H _ (.refl s) .str⟩
  by_cases c:i.natAbs=0
  .rw[c];decide
  .have e:(2:Nat)^20=1048576:=by decide
   have b:i.natAbs<2^20:=by rw[e];omega
   exact(Nat.log2_lt c).mpr (j0 b (Nat.pow_le_pow_right ⋯ ⋯))
 .cases h
def Dk:wI
 |[.str x]=>if x.length<=640 then (intText? x).map .int else none
 |_=>none
def zje:eG (λb H Q=>∃ a n,b=[.str a]/\a.length<=640/\intText? a≈n/\Q (.int n) H) Dk:=by
 intro F H j i z Q s e h q
 unfold Dk at h
 split at h
 .rename_i x
  split at h
  .rename_i d
   obtain⟨n,f,rfl⟩:=t4.mp h
   obtain⟨y,r,rfl,c,g⟩:=e.cons_inv
   cases g.nil_inv
   exact⟨x,n,by rw[c.str_inv],d,f,q F H _ (.refl s) .int⟩
  .cases h
 .cases h
def sS:wI
 |[.str x]=>if x.length<=100000 then some (.int (x.length:Int))else none
 |_=>none
def O1:eG (λa H Q=>∃ z,a=[.str z]/\z.length<=sizeLine/\Q (.int z.length) H) sS:=by
 intro F H i f z Q s c h q
 unfold sS at h
 split at h
 .rename_i x
  split at h <;> cases h
  rename_i g
  obtain⟨y,r,rfl,b,d⟩:=c.cons_inv
  cases d.nil_inv
  have e:100002<=sizeLine:=by rw[fC];decide
  exact⟨x,by rw[b.str_inv],by omega,q F H _ (.refl s) .int⟩
 .cases h
def rO:xL
 |.str x,.int i=>if x.length<=100000 then (L2.atI x.cps.toList i).map λc=>.str ⟨#[c]⟩else none
 |_,_=>none
def zny:bh Ce rO:=by
 intro F H x y d e z Q s f b a q
 unfold rO at a
 split at a
 .rename_i w i
  split at a
  .rename_i j
   obtain⟨c,g,rfl⟩:=t4.mp a
   have h:100002<=sizeLine:=by rw[fC];decide
   exact⟨w,i,c,f.str_inv,b.int_inv,by omega,g,q F H _ (.refl s) .str⟩
  .cases a
 .cases a
def Tr {f:zU}(d:ED X a f)(c:ED X b h)(e:Xx b):ED X (.Subscript a b pos) (ze rO f h) :=
 let ⟨_,pa,ra⟩:=d
 let ⟨_,pb,rb⟩:=c
 ⟨_,tD Kf pa pb e,nY zny ra rb⟩
def Cj:xL
 |.str x,.str y=>some (.bl (!(Builtin.Str.occurrences y x 0 y.length 1).isEmpty))
 |_,_=>none
def znN:bh (λx y H Q=>∃ i j,x=.str i/\y=.str j/\Q (.bl (!(Builtin.Str.occurrences j i 0 j.length 1).isEmpty)) H) Cj:=by
 intro F H x y d e z Q s c b a q
 unfold Cj at a
 split at a <;> cases a
 exact⟨_,_,c.str_inv,b.str_inv,q F H _ (.refl s) .bl⟩
def Jh:D->Option zk
 |.str x=>if x.cps.all (· < 128) then some (x.cps.toList.map λc=>.str ⟨#[c]⟩)else none
 |_=>none
def Rh (f:zU):yE:=λa=>(f a).bind Jh
def Sv {f:zU}(n:ED X a f):ID X tg a (Rh f):=by
 obtain⟨t,p,r⟩:=n
 refine⟨_,zoX p,λE w F H I R s z e q=>?_⟩
 obtain⟨d,G,g⟩:=u4.mp e
 refine r E w F H d _ s z G λF1 H1 v o C=>?_
 unfold Jh at g
 split at g
 .rename_i x
  split at g <;> cases g
  rename_i A
  refine⟨x,C.str_inv,A,q F1 H1 _ o λi F2 H2 J B=>⟨λm=>?_,λd k=>?_⟩⟩
  .show x.cps.size<=i
   rw[u8,i9]at m
   omega
  .rw[k8]at k
   obtain⟨c,j,rfl⟩:=t4.mp k
   have h:i<x.cps.size:=by have:=(j3.mp j).1;rwa[i9]at this
   refine⟨h,λy H3 l=>?_⟩
   obtain⟨rfl,u,b,rfl⟩:=l
   have:u=c:=by
    rw[Hg]at j
    rw[j]at b
    exact(g0 b).symm
   subst this
   exact⟨F2,.refl B,.str⟩
 .cases g
end
end Dl
namespace Mz
open PySem Dl
abbrev aZ:=Int × Int
abbrev yg:=List aZ
def cF (s t:aZ):Prop:=s.1<t.1\/(s.1=t.1/\s.2<t.2)
instance (s t:aZ):Decidable (cF s t):=by unfold cF;infer_instance
def ziM (h:cF a b)(k:cF b c):cF a c:=by
 unfold cF at *
 omega
def zg (t:aZ):D:=.tup [.int t.1,.int t.2]
def zgp {t:aZ}(h:zg s=zg t):s=t:=by
 unfold zg at h
 injection h with h
 injection h with h1 h2
 injection h2 with h2 _
 injection h1 with h1
 injection h2 with h2
 exact gQ h1 h2
def zJ (a:Int)(b:yg):D:=.tup [.int a,.tup (b.map zg)]
structure wA (many:Int) (ties:yg):Prop where
 lo:1<=many
 hi:many<=8
 rng:∀ t∈ties,0<=t.1/\t.1<t.2/\t.2<many
 srt:ties.Pairwise cF
def qH (s t:aZ):Bool:=if s.1=t.1 then (if s.2=t.2 then true else decide (s.2<=t.2))else decide (s.1<=t.1)
def QM {t:aZ}:qH s t=false↔cF t s:=by
 unfold qH cF
 by_cases h:s.1=t.1
 .rw[q4 h]
  by_cases k:s.2=t.2
  .rw[q4 k];simp;omega
  .rw[j4 k,p4];omega
 .rw[j4 h,p4];omega
def Zc:D->Option aZ
 |.tup [.int a,.int b]=>some (a,b)
 |_=>none
def YU (t:aZ):Zc (zg t)≈t:=rfl
def W7 {d:D}{t:aZ}(h:Zc d≈t):d=zg t:=by
 unfold Zc at h
 split at h
 .cases h;rfl
 .cases h
def bB (m a:Int):Bool:=decide (0<=a)&&decide (a<=m-1)
def wQ (m:Int)(d:D):Bool:=match Zc d with
 |some t=>bB m t.1&&bB m t.2&&!decide (t.1=t.2)
 |none=>false
def oW (p:Option aZ)(t:aZ):Bool:=match p with
 |some q=>!qH t q
 |none=>true
def yR (m:Int):Option aZ->zk->Bool
 |_,[]=>true
 |p,d::r=>match Zc d with
  |some t=>wQ m d&&!decide (t.2<t.1)&&oW p t&&yR m (some t) r
  |none=>false
def Y6 (m:Int):D->Bool
 |.tup a=>yR m none a
 |_=>false
def Yv:D->Bool
 |.tup [.int m,t]=>decide (1<=m)&&decide (m<=8)&&Y6 m t
 |_=>false
def XC (m:Int):∀ (f:zk) (p:Option aZ),yR m p f=true↔∃ l:yg,f=l.map zg/\(∀ t∈l,0<=t.1/\t.1<t.2/\t.2<m)/\(∀ q,p≈q->∀ t∈l,cF q t)/\l.Pairwise cF:=by
 intro f
 induction f with
 |nil =>
  intro p
  refine⟨λ_=>⟨[],rfl,by simp,by simp,.nil⟩,λ_=>rfl⟩
 |cons d r x =>
  intro p
  unfold yR
  cases e:Zc d with
  |none =>
   refine Iff.intro (λh=>nomatch h) (λz=>?_)
   obtain⟨l,h,_⟩:=z
   cases l with
   |nil=>cases h
   |cons t s =>
    rw[o4]at h
    injection h with g _
    rw[g,YU]at e
    cases e
  |some t =>
   have y:=W7 e
   subst y
   simp only[wQ,YU,j7,pO,p4,bB,j8]
   rw[x (some t)]
   constructor
   .rintro⟨⟨⟨⟨⟨g,o⟩,A⟩,B⟩,w⟩,l,rfl,j,i,c⟩
    refine⟨t::l,rfl,?_,?_,jE.mpr ⟨i t rfl,c⟩⟩
    .intro u a
     rcases q5.mp a with rfl|a
     .omega
     .exact j u a
    .rintro q rfl u a
     have b:cF q t:=QM.mp (by simpa [oW]using w)
     rcases q5.mp a with rfl|a
     .exact b
     .exact ziM b (i t rfl u a)
   .rintro⟨l,h,j,i,c⟩
    cases l with
    |nil=>cases h
    |cons u s =>
     rw[o4]at h
     injection h with g o
     have a:=zgp g
     subst a
     have C:=j t (by simp)
     refine⟨⟨⟨⟨⟨by omega,by omega⟩,by omega⟩,by omega⟩,?_⟩,s,o,λv k=>j v (by simp[k]),λq n v k=>?_,(jE.mp c).2⟩
     .cases p with
      |none=>rfl
      |some q =>
       have:=QM.mpr (i q rfl t (by simp))
       simp[oW,this]
     .cases n
      exact(jE.mp c).1 v k
def Yb (d:D):Yv d=true↔∃ m a,d=zJ m a/\wA m a:=by
 constructor
 .intro h
  unfold Yv at h
  split at h
  .rename_i m t
   simp only[j7,j8]at h
   obtain⟨⟨i,c⟩,b⟩:=h
   unfold Y6 at b
   split at b
   .rename_i g
    obtain⟨l,rfl,f,_,e⟩:=(XC m g none).mp b
    exact⟨m,l,rfl,i,c,f,e⟩
   .cases b
  .cases h
 .rintro⟨m,a,rfl,w⟩
  unfold zJ Yv Y6
  simp only[j7,j8]
  exact⟨⟨w.lo,w.hi⟩,(XC m _ none).mpr ⟨a,rfl,w.rng,by simp,w.srt⟩⟩
def zmX {d:D}(h:∀ m a,d=zJ m a->¬ wA m a):Yv d=false:=by
 cases e:Yv d with
 |false=>rfl
 |true =>
  obtain⟨m,a,rfl,w⟩:=(Yb d).mp e
  exact absurd w (h m a rfl)
end Mz
namespace Mz
open Dl
def CJ (c k:Int):Int :=
 let a:=(c%2147483647+977*k+1)*48271%2147483647
 let b:=a*a%2147483629
 (b+40692*(k+3))*69621%2147483647/8
def adj (c:yg)(a b:Int):Prop:=(a,b)∈c\/(b,a)∈c
inductive sG (ts:yg) (p:Int):Nat->Int->Prop
 |zero:sG ts p 0 p
 |step {k:Nat} {a b:Int}:sG ts p k a->adj ts a b->sG ts p (k+1) b
def zr0 {P:Nat->Prop}:∀ k,P k->∃ j,P j/\∀ i,P i->j<=i:=by
 intro k
 induction k using Nat.strongRecOn with
 |_ k d =>
  intro h
  by_cases c:∃ i,i<k/\P i
  .obtain⟨i,a,b⟩:=c
   exact d i a b
  .exact⟨k,h,λi a=>jJ λz=>c ⟨i,z,a⟩⟩
def Within (a:yg)(p:Int)(k:Nat)(v:Int):Prop:=∃ j,j<=k/\sG a p j v
def LK {n:Nat}{i:Int}(h0:0<=i)(a:i<n):L2.ixN n i≈i.toNat:=by
 unfold L2.ixN
 rw[q4 h0,q4 a]
def Uc {b:Type}{a:List b}{i:Int}{x:b}(h0:0<=i)(h:a[i.toNat]?≈x):L2.atI a i≈x:=by
 have:=(j3.mp h).1
 unfold L2.atI
 rw[LK h0 ∅]
 exact h
def Ul {i:Nat}{f:zU}{a:SE}{b:zk}{d:D}{k:Int}(n:aY m e a≈d)(g:f (visG a)≈(.int k))(l:a[i]?≈(.o b))(h:0<=k)(o:k<b.length) :
 Wz m i f e a=.nx (a.set i (.o (b.set k.toNat d))):=by
 unfold Wz
 rw[n,g,l]
 show(match ((L2.ixN b.length k).map λj=>a.set i (Sl.o (b.set j d)))with|some c=>bu.nx c|none=>bu.no)=_
 rw[LK h o]
 rfl
def Ob:∀ {ns:zB} {k:Nat} {x:Int} (h:k<ns.length),(ns.set k x).sum=ns.sum-ns[k]+x
 |[],_,_,h=>by simp at h
 |n::ns,0,x,_=>by simp;omega
 |n::ns,k+1,x,h=>by
  have:=Ob (ns:=ns) (k:=k) (x:=x) (by simpa using h)
  simp only[List.set_cons_succ,List.sum_cons,List.getElem_cons_succ,this]
  omega
def Xc (a:yg):(X4 a).Perm a:=Gx _ _
def zbX {d:yg}(h:d.Nodup):(X4 d).Pairwise cF:=by
 have g:(X4 d).Pairwise λa b=>jW a b=true:=Hn (λa b c g f=>by rw[vL]at *;omega) (λa b=>by rw[Gm,vL,vL];omega) _
 have f:(X4 d).Nodup:=(Xc d).nodup_iff.mpr h
 refine(g.and f).imp λ{a b} hh=>?_
 obtain⟨x,y⟩:=hh
 rw[vL]at x
 unfold cF
 rcases x with x|x
 .exact .inl x
 .refine .inr ⟨x.1,?_⟩
  have:a.2≠b.2:=λe=>y (gQ x.1 e)
  omega
def Jf {i:Nat}{e f:zU}{a:SE}{n:YH}(c:zk)(d:D)(k:Int)(h:aY m f a≈d)(o:e (visG a)≈(.int k))(g:a[i]?≈(.o c))(p:0<=k)(j:k<c.length)(q:n (a.set i (.o (c.set k.toNat d)))) :
 (Wz m i e f a).w n b l r:=dH (Ul h o g p j) q
def zkg {d:Type}(a:List d)(b c:yG):(VI a b c).length<=a.length:=by
 unfold VI
 rw[gW,pK]
 omega
def w8 {a b:zk}(h:a.length+b.length<=1000):yY (.lst a) (.lst b)≈(.lst (a++b)):=by
 show(if bI (a.length+b.length) then _ else none)=_
 rw[q4 (Z1 h)]
def K3:∀ {ns:zB},(∀ x∈ns,0<=x)->0<=ns.sum
 |[],_=>by simp
 |n::ns,h=>by
  have:=K3 (ns:=ns) λx a=>h x (r0 _ a)
  have:=h n o7
  rw[List.sum_cons]
  omega
def W4 {f:zU}{a:SE}{d:D}(h:aY m f a≈d)(b:a.set i (.v d)=ρ':=by rfl):xa m i f a=.nx ρ':=by
 unfold xa
 rw[h,<- b]
def y8 {f:zU}{d:D}(h:f (visG a)≈d):Yd f a=.nx a:=by
 unfold Yd
 rw[h]
def zY {f:zU}{d:D}(h:f (visG a)≈d):z9 f a=.rt d:=by
 unfold z9
 rw[h]
def znZ {f:yE}{a:SE}(h:f (visF a)≈b)(c:a.set i (.o b)=ρ':=by rfl):Wl i f a=.nx ρ':=by
 unfold Wl
 rw[h,<- c]
def wS:bG (.int a) (.int b)≈(.bl (!decide (a=b))):=rfl
def Wo {a m x:Int}(h:0<m)(b:a%m=x):0<=x/\x<m:=by
 subst b
 exact⟨Int.emod_nonneg _ ∅,Int.emod_lt_of_pos _ h⟩
def yP:xX (.int a) (.int b)≈(.bl (decide (a=b))):=rfl
def wT:xX (.bl a) (.bl b)≈(.bl (decide (a=b))):=rfl
def yp:xX (.str a) (.str b)≈(.bl (decide (a=b))):=rfl
def xJ:yY (.int a) (.int b)≈(.int (a+b)):=rfl
def O9 {a b:zk}(h:a.length+b.length<=1000):yY (.tup a) (.tup b)≈(.tup (a++b)):=by
 show(if bI (a.length+b.length) then some (D.tup (a++b))else none)=_
 rw[q4 (Z1 h)]
def ziV {b:Type}(a:List b)(k:Nat):VI a none (some (k:Int))=a.take k:=by
 unfold VI
 rw[HT.sIx_none,Gh,Nat.sub_zero,HT.sIx_nat]
 by_cases h:k<=a.length
 .rw[pR h]
 .rw[G7 ∅,Bt (t7 _),Bt ∅]
def zgG {b:Type}(a:List b)(k:Nat):VI a (some (k:Int)) none=a.drop k:=by
 unfold VI
 rw[HT.sIx_none,HT.sIx_nat]
 by_cases h:k<=a.length
 .rw[pR h,Bt (by rw[pK];omega)]
 .rw[G7 ∅,Nat.sub_self,List.take_zero,List.drop_of_length_le ∅]
section
variable {ρ:Ev}{f g h:zU}{a:yE}{t u:vz}{d e x y z:D}{ds es:zk}{b c:Bool}
def zE:zh ρ≈[]:=rfl
def zd (c:f ρ≈d)(b:a ρ≈ds):za f a ρ≈(d::ds):=by unfold za;rw[c,b];rfl
def zu {n:Nat}{p:wI}(c:a ρ≈ds)(b:p ds≈d)(e:ds.length=n:=by rfl):zq n p a ρ≈d:=by
 unfold zq
 rw[c,k6,q4 e,b]
def zij {n:Nat}{p:wI}{c b:SE}(g:a (visF c)≈ds)(e:p ds≈d)(h:ds.length=n:=by rfl)(f:c.set i (.v d)=b:=by rfl):xa false i (zq n p a) c=.nx b:=W4 (show zq n p a (visF c)≈d from zu g e h) f
def xY {f:zU}{a:SE}(h:f (visF a)≈d)(b:a.set i (.v d)=σ':=by rfl):xa false i f a=.nx σ':=W4 (show f (visF a)≈d from h) b
def zr {k:xL}(b:f ρ≈x)(a:g ρ≈y)(c:k x y≈z):ze k f g ρ≈z:=by unfold ze;rw[b,a];exact c
def VE {k:D->Option D}(b:f ρ≈x)(a:k x≈z):aF k f ρ≈z:=by unfold aF;rw[b];exact a
def xE (b:a ρ≈ds):yc a ρ≈(.lst ds):=by unfold yc;rw[b];rfl
def Zu {k:wI}(c:a ρ≈ds)(b:k ds≈d):aG k a ρ≈d:=by unfold aG;rw[c];exact b
def Dy {k:fQ}(c:a ρ≈ds)(b:k ds≈es):bJ k a ρ≈es:=by unfold bJ;rw[c];exact b
def wN (b:a ρ≈ds)(c:ds.length<=1000):zK a ρ≈ds:=by unfold zK;rw[b,k6,q4 (Z1 c)]
def x6 (b:a ρ≈ds)(c:ds.length<=1000):xb a ρ≈(.tup ds):=by unfold xb;rw[b,k6,q4 (Z1 c)]
def lH (b:f ρ≈d)(a:vy d≈ds):bz f ρ≈ds:=by unfold bz;rw[b];exact a
def ye (a:f ρ≈(.bl b)):ao f ρ≈b:=by unfold ao;rw[a];rfl
def wh (a:t ρ≈b):yq t ρ≈(!b):=by unfold yq;rw[a];rfl
def Lx (d:t ρ≈b)(a:u ρ≈c):vT t u ρ≈(b&&c):=by unfold vT;rw[d,a];cases b <;> rfl
def lF (d:t ρ≈b)(a:u ρ≈c):YK t u ρ≈(b||c):=by unfold YK;rw[d,a];cases b <;> rfl
def zo8 (b:t ρ≈false)(a:u ρ≈c):YK t u ρ≈c:=by unfold YK;rw[b];exact a
end
end Mz
namespace PySem
open Sem (wp)
def Runs.toks {p:Pos}{t:Sem Fin}{d:List Frame}{s c:zn}(h:Runs M Γ p t d s e c):s.toks<=c.toks:=by
 induction h with
 |done=>exact t7 _
 |raise=>exact t7 _
 |yield=>exact t7 _
 |fresh _ f=>exact r6 (gU _) f
 |call _ _ a b=>exact r6 a b
 |resumeFresh _ _ _ _ a b=>exact r6 a b
 |resumeSuspended _ _ _ _ a b=>exact r6 a b
 |segRet _ _ a b=>exact r6 a b
 |segGen _ _ a b=>exact r6 a b
 |segSuspGen _ _ _ _ a b=>exact r6 a b
 |_=>assumption
def Wakes.toks {p:Pos}{g:Nat}{s b:zn}(h:Wakes M Γ p g r s res b):s.toks<=b.toks:=by
 unfold Wakes at h
 split at h
 .exact h.elim
 .split at h
  .obtain⟨e,c,a,_,_,rfl⟩:=h
   exact a.toks
  .rw[h.2];exact t7 _
  .rw[h.2];exact t7 _
 .obtain⟨e,c,a,_,_,rfl⟩:=h
  exact a.toks
 .rw[h.2];exact t7 _
 .rw[h.2];exact t7 _
def znt {v:Type}{n:Nat}{Q:v->Pos->Shared->Prop}{E:Value->Pos->Shared->Prop}:∀ (t:Sem v) (p:Pos) (s:zn),n<=s.toks->wp M Γ t Q E p s->wp M Γ t (λa l i=>n<=i.toks/\Q a l i) (λe l i=>n<=i.toks/\E e l i) p s:=by
 intro t
 induction t with
 |pure a=>exact λp s b h=>⟨b,h⟩
 |raise e=>exact λp s b h=>⟨b,h⟩
 |rule _ k d=>exact λp s b h=>d () p s b h
 | «at» l k d=>exact λp s b h=>d () l s b h
 |load a _ k d=>exact λp s b ⟨o,u,h⟩=>⟨o,u,d o p s b h⟩
 |update a _ f k d=>exact λp s b ⟨u,h⟩=>⟨u,d () p _ b h⟩
 |loadIfAlive a k d=>exact λp s b h=>d _ p s b h
 |point _ k d=>exact λp s b h=>d () p s b h
 |alloc o k d=>exact λp s b h=>d _ p _ b h
 |fresh k d=>exact λp s b h=>d _ p _ (Nat.le_succ_of_le b) h
 |ask k d=>exact λp s b h=>d _ p s b h
 |choose x m k d=>exact λp s b ⟨h0,h⟩=>⟨h0,d _ p _ b h⟩
 |os q _ k d=>exact λp s b h=>d _ p _ b h
 |call c y _ _ k d=>exact λp s b ⟨r,i,j,h⟩=>⟨r,i,j,d r p i (r6 b (Runs.toks j)) h⟩
 |handled own k d=>exact λp s b h=>d _ p s b h
 |genState g k d=>exact λp s b ⟨w,h0,h⟩=>⟨w,h0,d _ p s b h⟩
 |newGen c k d=>exact λp s b h=>d _ p _ b h
 |resume g r _ k d=>exact λp s b ⟨res,i,j,h⟩=>⟨res,i,j,d _ p i (r6 b (Wakes.toks j)) h⟩
 |_=>first|exact λp s b h=>h.elim|exact λp s b h=>by simp only[wp]at h ⊢;simp_all
def zkM {c:Type}{t:Sem c}{Q:c->Shared->Prop}{E:yI}{s:zn}(h:wpAny M A t (λv a=>s.toks<=a.toks->Q v a) (λe a=>s.toks<=a.toks->E e a) s):wpAny M A t Q E s:=fun Γ p b =>
 Sem.wp_mono M Γ t (λ_ _ _ z=>z.2 z.1) (λ_ _ _ z=>z.2 z.1) p s (znt t p s (t7 _) (h Γ p b))
def FN {d:Type}{t:Sem d}{Q:d->Shared->Prop}{E:yI}{s:zn}(c:0<s.toks)(h:wpAny M A t (λv a=>0<a.toks->Q v a) (λe a=>0<a.toks->E e a) s):wpAny M A t Q E s :=
 zkM (p0 h (λ_ _ z b=>z (j0 c b)) λ_ _ z b=>z (j0 c b))
end PySem
namespace PySem
section
variable {M:Model}{A:zN}{E:yI}{r s:zn}{m cm:wm}{env:Env}
def U4 {Q:Unit->Shared->Prop}(x:InCallC r env.locals m env.cells cm s)(h:env.scope.kind=.function)(l:env.kindOf n≈.local)(q:∀ t,InCallC r env.locals (λy=>if y=n then some v else m y) env.cells cm t->0<t.toks->Q () t):wpAny M A (storeName env n v) Q E s:=by
 have f:(env.scope.kind == .class||(env.scope.kind == .module&&env.locals != env.globals))=false:=by rw[h];rfl
 refine wpAny_storeName_local l x.toInCall.ns (λg j d=>?_) f
 refine q _ ?_ (Nat.succ_pos _)
 have p:∀ b o,r.heap.get? b≈o->b≠env.locals:=λb o e=>j9 (j0 (q7 e) x.toInCall.fresh)
 have i:∀ k c,env.cells.lookup k≈c->c≠env.locals:=λk c a=>gZ (x.above k c (mem_of_lookup a))
 obtain⟨u,w,rfl⟩:=x.toInCall.same
 exact { toInCall:={ same:=⟨g,_,rfl⟩,ns:=j,keep:=λb o e=>d.extBut b o (p b o e) (x.toInCall.keep b o e),fresh:=x.toInCall.fresh },cell:=λk c a=>(x.cell k c a).sameBut d (i k c a),apart:=x.apart,above:=x.above }
end
section
variable {M:Model}{A:zN}{E:yI}{s:zn}
def zgE {sc:Scope}{g k:Addr}{d:yN}{f:Value}{Q:Env->Shared->Prop}(r:sc.kind=.function)(p:sc.names.lookup x≈.local)(F:∀ y∈j,sc.names.lookup y.1≈.local\/(sc.names.lookup y.1≈.cell/\((cellsFrom (s.heap.objs.size+1) sc.names []).lookup y.1).isSome=true))(q:∀ e,e=newEnv sc s.heap.objs.size g (cellsFrom (s.heap.objs.size+1) sc.names []) i d f none k->∀ t,InCallC s e.locals (bindL e.kindOf ((x,v)::j) λ_=>none) e.cells (bindC e.kindOf ((x,v)::j) λ_=>none) t->0<t.toks->Q e t) :
 wpAny M A (newFunctionEnv sc g [] ((x,v)::j) i d f none k) Q E s:=by
 simp only[newFunctionEnv,Option.isSome_none,my,fB]
 refine u5 (wpAny_alloc (u5 (wpAny_layCells _ (λa b c=>by cases z:b == NameKind.cell <;> simp[z]) _ _ _ _ ?_)))
 have l:=cellsFrom_ok sc.names (s.heap.push { cls:=.type "frame",data:=.dict #[] }) (s.heap.objs.size+1) [] ⟨λ_ _ z=>(nomatch z),.nil⟩ (Nat.le_of_eq (p9 ..).symm)
 rw[p9]at l
 rw[show({ s with heap:=s.heap.push { cls:=.type "frame",data:=.dict #[] } }:zn).heap.objs.size=s.heap.objs.size+1 from p9 ..]
 rw[pW]
 have u:InCallC s s.heap.objs.size (λ_=>none) (cellsFrom (s.heap.objs.size+1) sc.names []) (λ_=>none) { s with heap:=pushCells (s.heap.push { cls:=.type "frame",data:=.dict #[] }) sc.names } :=
  { toInCall:={ same:=⟨_,_,rfl⟩,ns:=(Heap.Ns.new s.heap (.type "frame")).keeps (pushCells_keeps _ _),keep:=λb o e=>pushCells_keeps _ _ b o (u6 _ e),fresh:=t7 _ },cell:=λn c z=>(l.empty n c (mem_of_lookup z)).1,apart:=l.apart,above:=λn c z=>(l.empty n c z).2 }
 refine u5 (u5 (u5 (U4 (env:=newEnv sc s.heap.objs.size g (cellsFrom (s.heap.objs.size+1) sc.names []) i d f none k) u r p λt C D=>t5 ?_)))
 refine FN D ?_
 refine wpAny_bindParams (s₀:=s) (env:=newEnv sc s.heap.objs.size g (cellsFrom (s.heap.objs.size+1) sc.names []) i d f none k) _ (λ_ _ _=>rfl) r j _ _ _ _ C F λB w m=>t5 (q _ rfl B ?_ m)
 unfold bindL bindC
 have h:=(show(newEnv sc s.heap.objs.size g (cellsFrom (s.heap.objs.size+1) sc.names []) i d f none k).kindOf x≈.local from p)
 rw[q4 h,q4 h]
 exact w
end
end PySem
namespace L2
open PySem PySem.Spec PyProof.Rows
structure gj (P:zM) (w:World) (K:zx) (mg:wm) (base:Heap) (CX:cQ) (k:Nat) (f:Addr) (fd:wL) (ps:zG) (sp:Sp):Prop where
 len:∀ vs H Q E,sp vs H Q E->vs.length=ps.length
 run:∀ (A:zN) (outer:List Env) (s:zn) (H:Hp) (args:Args) (us:zz) (vs:zy) (Q:VK) (E:XK),xc k A->gw P w K mg base A outer s H->BindsTo s fd args (ps.zip us)->ym vs us->sp vs H Q E ->
  codeAny (model P w) A (.call (.ref f) args) (λr s'=>CR CX outer P w H s Q E r s'/\0<s'.toks) s
def znA {w:World}{K:zx}{g:Heap}{k:Nat}{f:Addr}{a:Scope}{kV d:Value}{N:zG}{D:zG}{X:Sp}(lk:K.lookup f≈⟨oc,od,.func (PySem.W.fnOf m c h i a dV kV F pm an d ct),a0⟩)(a1:PySem.W.codeIn K d c=true)(S:yz N (L::D) a)(h0:a.names.lookup L≈.local)(G:∀ j H Q E,X j H Q E->j.length=(L::D).length) (B:∀ (A:zN) (outer:List Env) (s:zn) (H:Hp) (j:zy) (Q:VK) (E:XK),xc k (A.deeper (envOfC c a s.heap.objs.size f d))->X j H Q E ->
 ∃ t,bF (vd CX P w K T g N c a f d A outer s H E) i t/\t { nx:=λ_ H'=>Q .non H',rt:=Q } (start N j) H) :
 gj P w K T g CX (k+1) f (PySem.W.fnOf m c h i a dV kV F pm an d ct) (L::D) X:=by
 refine⟨G,λA outer s H args W j Q E hr M hb r O=>?_⟩
 have hl:=G _ _ _ _ O
 have KX:K.In s.heap:=M.mod.kin.keeps λb o e=>(M.bs b o e).1
 have bI:s.heap.NoLimit:=M.mod.nolimit.keeps λb o e=>(M.bs b o e).1
 have p:∀ y∈(L::D).zip W,a.names.lookup y.1≈.local\/(a.names.lookup y.1≈.cell/\((cellsFrom (s.heap.objs.size+1) a.names []).lookup y.1).isSome=true):=λ⟨n,v⟩ U=>by
  rcases S.par n (pU U).1 with q|q
  .exact .inl q
  .exact .inr ⟨q,Bs _ _ _ (.inl q)⟩
 have hu:W.length=D.length+1:=by rw[<-r.length];exact hl
 cases W with
 |nil=>cases hu
 |cons u0 ur =>
  refine Hf hr.depth (KX _ _ lk) rfl S.co S.gen rfl (GZ KX a1) (hb _ _ _ _ ?_)
  refine zgE S.kind h0 (λy U=>p y (.tail _ U)) λenv he s1 x ht=>?_
  subst he
  refine⟨bI.keeps x.toInCall.keep,codeAny_func ?_⟩
  obtain⟨t,Y,hq⟩:=B A outer s H j Q E (hr.deeper _) O
  have I:aa (vd CX P w K T g N c a f d A outer s H E) [] (start N j) H s1:=WE S hr.hd M hl r x
  refine FN ht (p0 (Y [] s1 (start N j) H _ I hq) (λfl Z C R=>?_) λe Z C R=>?_)
  .have fin:∀ {l:St} {H':Hp} {v:V} {u:Value},aa (vd CX P w K T g N c a f d A outer s H E) [] l H' Z->y0 v u->Q v H'->CE outer P w H s Q u Z :=
    λ{l H' v u} J rv q=>⟨v,H',J.os,J.bare,J.base,J.hok,rv,q⟩
   cases fl with
   |ret u =>
    obtain⟨v,l,H',J,rv,q⟩:=C
    exact⟨fin J rv q,R⟩
   |next =>
    obtain⟨l,H',J,q⟩:=C
    exact⟨fin (v:=V.non) (u:=Value.none) J rfl q,R⟩
   |brk =>
    obtain⟨_,_,_,q⟩:=C
    exact False.elim q
   |cont =>
    obtain⟨_,_,_,q⟩:=C
    exact False.elim q
  .exact FN R (p0 C (λ_ _ z k=>⟨z,k⟩) λ_ _ z k=>⟨z,k⟩)
section
variable {X:Cx}{CX:cQ}{k:Nat}{f:Addr}{fd:wL}{ps:zG}{sp:Sp}{E:XK}{x y z:Str}{p pos p1 p2 q1 q2:Pos}{j1 j2:Nat}{e:Expr}{es:yO}{t:TA}
def zj3 {g:zy}(F:gj X.prog X.w X.K X.mg X.base CX k f fd ps sp)(o:xc k X.A)(p:xx X.K fd ps [])(l:wJ CX X E)(I:aa X a i H s)(r:ym g c)(h:sp g H Q E):wpAny (model X.prog X.w) X.A (call (.ref f) c) (λu d=>EP X a i Q u d/\0<d.toks) X.xe s:=by
 have m:c.length=ps.length:=by rw[<-r.length];exact F.len _ _ _ _ h
 have bU:=p s c I.kIn (by rw[r9];exact m)
 rw[r9]at bU
 refine gR (jB (F.run X.A X.stack s H ⟨c,[]⟩ c g Q E o I.env0 bU r h) λr d b=>?_)
 obtain⟨b,j⟩:=b
 cases r with
 |error e=>exact l a i H s e d I b
 |ok n =>
  cases n with
  |ret u=>exact⟨I.after b,j⟩
  |next=>exact False.elim b
  |brk=>exact False.elim b
  |cont=>exact False.elim b
def Jy (sp:Sp)(E:XK)(t:TA)(y z:Str):TE:=λb H Q=>t b H λa H1=>sp a H1 (λv H2=>∃ x,v=.str x/\x.length<=1048576/\Q (.str (Txt.replace x y z)) H2) E
theorem zmg (F:gj X.prog X.w X.K X.mg X.base CX k f fd ps sp)(M:xc k X.A)(m:Gl X x)(G:X.mg x≈(.ref f))(B:PySem.W.keepIn X.K (.ref f)=true)(O:xx X.K fd ps [])(J:wJ CX X E)(A:PA X (e::es) t)
 (i:(y == z)=false) (u:z.length<=14) (l:(x == ("__debug__":Str))=false:=by decide) (N:starEach (e::es) X.env=(false,eval e X.env)::starEach es X.env:=by rfl) (j:(backTo p1 (starEach es X.env)).any (·.1)=false:=by rfl)
 (b:attributeBase (.Call (.Name x p) (e::es) [] p1) "replace" X.env (eval (.Call (.Name x p) (e::es) [] p1) X.env)=eval (.Call (.Name x p) (e::es) [] p1) X.env:=by rfl)
 (d:((backTo pos (starEach [.Constant (.str y) j1 q1,.Constant (.str z) j2 q2] X.env)).all (λx=>!x.1)&&(backToKw pos (keywordEach [] X.env)).all (λx=>x.1.isSome)
  && decide (([.Constant (.str y) j1 q1,.Constant (.str z) j2 q2]:yO).length+([]:List Keyword).length+(if ([]:List Keyword).isEmpty then 0 else 1) < 30))=true:=by rfl)
 (c:(p2.endLine == pos.line)=true:=by rfl) :
 PE X (.Call (.Attribute (.Call (.Name x p) (e::es) [] p1) "replace" p2) [.Constant (.str y) j1 q1,.Constant (.str z) j2 q2] [] pos) (Jy sp E t y z):=by
 intro g s L H Q I h
 refine Hh b d c rfl ?_
 refine mq (vS I m G ?_ l)
 refine Bd (h₀:=X.base) I.ok.mod.kin B (aC (A p1 g s L H _ I h) λS W ⟨R,H1,I1,r,q⟩=>⟨I1.kIn,?_⟩) N j
 refine aC (zj3 F M O J I1 r q) λv U K=>?_
 obtain⟨⟨V,H2,I2,D,a,rfl,w,C⟩,n⟩:=K
 obtain⟨P,rfl⟩:=D
 refine⟨"str","str.replace",p7,PySem.F.slot_str_replace,PySem.F.type_str_replace,lN _ _ _,(λ_ z=>by cases z),?_⟩
 refine Bu rfl (Ht ?_)
 refine Gs (wpAny_Constant_str (k:=j1) (pos:=q1) (Gs (wpAny_Constant_str (k:=j2) (pos:=q2) (Calls.spliced_nil ?_))))
 refine SC.replaceW (gZ n) (Nat.succ_ne_zero _) (j9 (pI _)) i w u λo T=>?_
 exact⟨.str _,H2,I2.tok _,⟨_,rfl⟩,C⟩
end
end L2
namespace Dl
open PySem L2
section
variable [KK]{X:Cx}{x y z:Str}{k m:Nat}{f:Addr}{fd:wL}{ps:zG}{p:wI}{e:Expr}{es:yO}{fa:yE}
def Do (m:Nat)(p:wI)(f:yE)(y z:Str):zU:=λb=>(zq m p f b).bind λd=>match d with
 |.str a=>if a.length<=100000 then some (.str (Txt.replace a y z))else none
 |_=>none
def zoh {w:Pos} (F:gj X.prog X.w X.K X.mg X.base aM k f fd ps (bW m p)) (V:xc k X.A) (T:Gl X x) (S:X.mg x≈(.ref f)) (U:PySem.W.keepIn X.K (.ref f)=true) (W:xx X.K fd ps []) (i:AD X (e::es) fa) (N:∀ {t:TA},PA X (e::es) t->PE X (.Call (.Attribute (.Call (.Name x u) (e::es) [] A) "replace" w) [.Constant (.str y) C o,.Constant (.str z) l j] [] b) (Jy (bW m p) (λ_ _ _=>False) t y z)) :
 ED X (.Call (.Attribute (.Call (.Name x u) (e::es) [] A) "replace" w) [.Constant (.str y) C o,.Constant (.str z) l j] [] b) (Do m p fa y z):=by
 obtain⟨t,D,r⟩:=i
 refine⟨_,N D,λG J F0 H d Q s E e q=>?_⟩
 obtain⟨P,K,c⟩:=u4.mp e
 obtain⟨n,I,h⟩:=u4.mp K
 split at h <;> try cases h
 rename_i L
 cases P with
 |str a =>
  dsimp only at c
  split at c <;> cases c
  rename_i i
  refine r G J F0 H n _ s E I λF1 H1 R B O=>?_
  refine⟨n,_,F1,L,B.fh,O,h,λF' H' v g M=>⟨a,M.str_inv,by omega,q F' H' _ (B.trans g) .str⟩⟩
 |_=>cases c
def zml {w:World}{x:Str}{f:Addr}{fd:wL}{N:zG}{k:Nat}{g:zD}(Fu:bQ K x b j f fd)(S:yz N (x0::pr) (zm j))(h0:(zm j).names.lookup x0≈.local)(M:∀ (c:Value) (A:zN) (outer:List Env) (s:zn) (H:Hp) (E:XK),xc k (A.deeper (PyProof.Rows.envOfC b (zm j) s.heap.objs.size f c))->bM (vd aM P w K u i N b (zm j) f c A outer s H E).nox (ya j) g) :
 gj P w K u i aM (k+1) f fd (x0::pr) (bW (x0::pr).length (aH N.length g)):=by
 obtain⟨O,U,kV,D,T,W,c,ct,G,rfl,B,m⟩:=Fu.ex
 refine znA B m S h0 (λC H Q E h=>?_) λA outer s H C Q E J h=>?_
 .obtain⟨n,d,F,o,_,a,_⟩:=h
  rw[a.length];exact o
 .obtain⟨n,d,F,o,L,a,e,q⟩:=h
  obtain⟨t,p,r⟩:=(M c A outer s H E J).nox
  refine⟨t,p,r F H F H _ _ _ (We L a) ?_⟩
  unfold aH at e
  cases l:g (n.map .v++List.replicate (N.length-n.length) .no) with
  |rt R=>rw[l]at e;cases e;exact λF' H' v g I=>q F' H' v g I
  |nx y=>rw[l]at e;cases e;exact λF' H' V z=>q F' H' _ z.gr .non
  |bk y=>rw[l]at e;cases e
  |ct y=>rw[l]at e;cases e
  |no=>rw[l]at e;cases e
end
end Dl
namespace L2
open PySem PySem.Spec PyProof.Rows
def gj.mono {P:zM}{w:World}{K:zx}{d:wm}{a:Heap}{CX:cQ}{j k:Nat}{f:Addr}{c:wL}{ps:zG}{b:Sp}(F:gj P w K d a CX j f c ps b)(h:j<=k) :
 gj P w K d a CX k f c ps b:=⟨F.len,λA outer s H args g e Q E i=>F.run A outer s H args g e Q E (i.mono h)⟩
def Ov {k:Str}:∀ {D:List (Str × KTD.Dat)},(∀ d,KTD.datumAt k D≈d->KTD.Opened h₀ P d)->(KTD.datumAt k D=none->a)->KTD.Each h₀ k P a D
 |[],_,g=>g rfl
 | (x,d)::D,h,g=>by
  show if decide (k=x) then KTD.Opened h₀ P d else KTD.Each h₀ k P a D
  by_cases e:k=x
  .rw[q4 (t8 e)]
   exact h d (by show(if decide (k=x) then some d else _)=_;rw[q4 (t8 e)])
  .have b:¬ (decide (k=x)=true):=by rw[t6 e];exact u7
   have c:KTD.datumAt k ((x,d)::D)=KTD.datumAt k D:=by
    show(if decide (k=x) then some d else KTD.datumAt k D)=_
    rw[j4 b]
   rw[j4 b]
   rw[c]at h g
   exact Ov h g
section
variable {X:Cx}{a:Addr}{D:List (Str × KTD.Dat)}{nm:Str}{e1 e2:Expr}{p p2 pos:Pos}{t:TA}
def J0 (D:List (Str × KTD.Dat))(t:TA):TE:=λa H Q=>t a H λb H1=>∃ z y,b=[.str z,y]/\(∀ d,KTD.datumAt z D≈d->∃ i,d=.flat (.int i)/\Q (.int i) H1)/\(KTD.datumAt z D=none->Q y H1)
theorem uM (T:∀ h:Heap,X.K.In h->KTD.TextTab h a D) (l:Gl X nm) (B:X.mg nm≈(.ref a)) (n:PA X [e1,e2] t) (j:(nm == ("__debug__":Str))=false:=by decide)
 (c:attributeBase (.Name nm p) "get" X.env (eval (.Name nm p) X.env)=eval (.Name nm p) X.env:=by rfl)
 (f:((backTo pos (starEach [e1,e2] X.env)).all (λx=>!x.1)&&(backToKw pos (keywordEach [] X.env)).all (λx=>x.1.isSome)
  && decide (([e1,e2]:yO).length+([]:List Keyword).length+(if ([]:List Keyword).isEmpty then 0 else 1) < 30))=true:=by rfl)
 (e:(p2.endLine == pos.line)=true:=by rfl) (w:starEach [e1,e2] X.env=(false,eval e1 X.env)::starEach [e2] X.env:=by rfl) (b:(backTo pos (starEach [e2] X.env)).any (·.1)=false:=by rfl) :
 PE X (.Call (.Attribute (.Name nm p) "get" p2) [e1,e2] [] pos) (J0 D t):=by
 intro g s C H Q I h
 refine Hh c f e rfl (vS I l B ?_ j)
 have T0:KTD.Here X.base s.heap a D:=⟨T _ I.mod.kin,I.bk⟩
 refine⟨"dict","dict.get",PySem.F.plainAttrs_dict,PySem.F.slot_dict_get,PySem.F.type_dict_get,T0.typeIs,T0.noDict,?_⟩
 have k:=n pos g s C H _ I h
 rw[w]at k ⊢
 refine Bu (by show(false||(backTo pos (starEach [e2] X.env)).any (·.1))=false;rw[b] <;> rfl) (Ht ?_)
 refine aC k λK L hh9=>?_
 obtain⟨J,H2,I2,r,z,y,m,F,o⟩:=hh9
 subst m
 obtain⟨u,v,rfl,⟨G,rfl⟩,A⟩:=r.two
 refine KTD.get2_text (h₀:=X.base) ⟨T _ I.mod.kin,I2.bk⟩ (Ov (λd j=>?_) λE=>⟨y,H2,I2.tok _,A,o E⟩)
 obtain⟨i,rfl,q⟩:=F d j
 exact KTD.opened_int λt=>⟨.int i,H2,I2.tok _,⟨_,rfl⟩,q⟩
end
end L2
namespace Dl
open PySem L2 PySem.Spec PyProof.Rows
variable [KK]{X:Cx}{a:Addr}{nm:Str}{b e1 e2:Expr}{p p2 p3 pos:Pos}{f:zU}
abbrev gC:=List (Str × Int)
def Zo (t:gC):List (Str × KTD.Dat):=t.map λq=>(q.1,.flat (.int q.2))
def wz:gC->Str->yG
 |[],_=>none
 |q::t,x=>if x=q.1 then some q.2 else wz t x
omit [KK] in
def Y2 (x:Str):∀ t:gC,KTD.datumAt x (Zo t)=(wz t x).map λn=>KTD.Dat.flat (.int n)
 |[]=>rfl
 |q::t=>by
  show(if decide (x=q.1) then some (KTD.Dat.flat (.int q.2))else KTD.datumAt x (Zo t))=(if x=q.1 then some q.2 else wz t x).map _
  by_cases h:x=q.1
  .rw[q4 (t8 h),q4 h];rfl
  .rw[j4 (by rw[t6 h];exact u7),j4 h,Y2 x t]
def oR (t:gC):D->Option D
 |.str x=>some (.bl (wz t x).isSome)
 |_=>none
def Vd {t:gC} (T:∀ h:Heap,X.K.In h->KTD.TextTab h a (Zo t)) (c:Gl X nm) (j:X.mg nm≈(.ref a)) (u:ED X b f) (o:behindInMarks .In (.Name nm p)=false:=by with_unfolding_all rfl) (g:(nm == ("__debug__":Str))=false:=by decide) :
 TD X (.Compare b [.In] [.Name nm p] pos) (ao (aF (oR t) f)):=by
 obtain⟨y,k,i⟩:=u
 refine⟨_,Vg (Pn T) k (y6 (v:=.ref a) c j rfl g) o,sy λm r F H z Q s w e q=>?_⟩
 obtain⟨d,e1,e2⟩:=u4.mp e
 refine i m r F H d _ s w e1 λF1 H1 v n l=>?_
 cases d with
 |str x =>
  cases e2
  cases l.str_inv
  refine⟨x,rfl,rfl,?_⟩
  rw[<-KTD.isSome_datumAt,Y2,Bb]
  exact q F1 H1 _ n .bl
 |_=>cases e2
def Xw (t:gC):wI
 |[.str x,d]=>match wz t x with
  |some i=>some (.int i)
  |none=>some d
 |_=>none
def mW (g:wI)(f:yE):zU:=λa=>(f a).bind g
def YZ {t:gC}{f:yE}(T:∀ h:Heap,X.K.In h->KTD.TextTab h a (Zo t))(n:AD X [e1,e2] f)
 (A:∀ {u:TA},PA X [e1,e2] u->PE X (.Call (.Attribute (.Name nm p) "get" p2) [e1,e2] [] pos) (J0 (Zo t) u)):ED X (.Call (.Attribute (.Name nm p) "get" p2) [e1,e2] [] pos) (mW (Xw t) f):=by
 obtain⟨u,r,w⟩:=n
 refine⟨_,A r,λC E F H z Q s v e q=>?_⟩
 obtain⟨B,y,b⟩:=u4.mp e
 refine w C E F H B _ s v y λF1 H1 G k c=>?_
 unfold Xw at b
 split at b
 .rename_i x d
  obtain⟨L,I,rfl,b1,c⟩:=c.cons_inv
  obtain⟨m,J,rfl,b2,c⟩:=c.cons_inv
  cases c.nil_inv
  cases b1.str_inv
  refine⟨x,m,rfl,λK j=>?_,λl=>?_⟩
  .rw[Y2]at j
   obtain⟨i,o,rfl⟩:=t4.mp j
   rw[o]at b
   cases b
   exact⟨i,rfl,q F1 H1 _ k .int⟩
  .rw[Y2]at l
   have g:wz t x=none:=Option.map_eq_none_iff.mp l
   rw[g]at b
   cases b
   exact q F1 H1 _ k b2
 .cases b
end Dl
namespace Dl
open PySem L2 PySem.Spec PyProof.Rows
section
variable [KK]{X:Cx}{a o e:Expr}{es:yO}{p apos pos:Pos}{f:zU}{fa:yE}{m:Str}
structure iu (K:zx) (C:Addr):Prop where
 cl:cP K C
 nW:wX K C "web"
 nH:wX K C "heap"
 nP:wX K C "past"
def ju:D->Option D
 |.obj w _ _=>some w
 |_=>none
def jn:D->Option D
 |.obj _ h _=>some h
 |_=>none
def CG:D->Option D
 |.obj _ _ a=>some (.lst a)
 |_=>none
def oZ (c:iu X.K KK.dk) (h:ED X a f) (u:attributeBase a "web" X.env (eval a X.env)=eval a X.env:=by rfl):ED X (.Attribute a "web" pos) (aF ju f):=by
 obtain⟨t,p,r⟩:=h
 refine⟨_,oV p u,λn x F H z Q s k e q=>?_⟩
 obtain⟨d,o,g⟩:=u4.mp e
 refine r n x F H d _ s k o λF1 H1 v b m=>?_
 cases d with
 |obj w h E =>
  cases g
  obtain⟨p,i,I,j,B,A,rfl,l,G,y,D,C⟩:=m.obj_inv
  exact⟨p,_,i,_,j,rfl,b.fh _ _ l,c.cl,c.nW,rfl,q F1 H1 _ b y⟩
 |_=>cases g
def Wy (c:iu X.K KK.dk) (h:ED X a f) (x:attributeBase a "heap" X.env (eval a X.env)=eval a X.env:=by rfl):ED X (.Attribute a "heap" pos) (aF jn f):=by
 obtain⟨t,p,r⟩:=h
 refine⟨_,oV p x,λo y F H z Q s k e q=>?_⟩
 obtain⟨d,u,g⟩:=u4.mp e
 refine r o y F H d _ s k u λF1 H1 v b n=>?_
 cases d with
 |obj w h D =>
  cases g
  obtain⟨p,j,G,B,i,A,rfl,m,E,I,l,C⟩:=n.obj_inv
  exact⟨p,_,j,_,i,rfl,b.fh _ _ m,c.cl,c.nH,rfl,q F1 H1 _ b l⟩
 |_=>cases g
def Ot (c:iu X.K KK.dk) (h:ED X a f) (y:attributeBase a "past" X.env (eval a X.env)=eval a X.env:=by rfl):ED X (.Attribute a "past" pos) (aF CG f):=by
 obtain⟨t,p,r⟩:=h
 refine⟨_,oV p y,λo A F H z Q s k e q=>?_⟩
 obtain⟨d,u,g⟩:=u4.mp e
 refine r o A F H d _ s k u λF1 H1 v b m=>?_
 cases d with
 |obj w h G =>
  cases g
  obtain⟨p,i,x,D,C,B,rfl,l,n,I,E,j⟩:=m.obj_inv
  exact⟨p,_,i,_,.ref x,rfl,b.fh _ _ l,c.cl,c.nP,rfl,q F1 H1 _ b (At.lst n j)⟩
 |_=>cases g
def kJ (n:Nat)(p:wI)(c:zU)(fa:yE):zU:=λa=>(c a).bind λd=>match d with
 |.obj w h e=>(fa a).bind λb=>if b.length+1=n then p (.obj w h e::b)else none
 |_=>none
def kE (n:Nat)(r:fU)(c:zU)(fa:yE):cg:=λa=>(c a).bind λd=>match d with
 |.obj w h e=>(fa a).bind λb=>if b.length+1=n then r (.obj w h e::b)else none
 |_=>none
variable {k n:Nat}{g:Addr}{fd:wL}{ps:zG}{q:wI}{r:fU}
theorem Ly {pl:Sem Bool}(c:cP X.K KK.dk)(V:eO X.K KK.dk m g)(F:xt X.prog X.w X.K X.mg X.base aM k g fd ps (bW n q))(hr:xc k X.A)(hb:xx X.K fd ps [])(K:ED X o f)(N:AD X (e::es) fa)
 (Z:∀ x u q,(X7 x u q).lookup m=none:=by intros;rfl)
 (b:starEach (e::es) X.env=(false,eval e X.env)::starEach es X.env:=by rfl) (j:(backTo pos (starEach es X.env)).any (·.1)=false:=by rfl)
 (R:eval (.Call (.Attribute o m apos) (e::es) [] pos) X.env=(do
  let ov<-eval o X.env
  standAt apos.atName
  let (f,first)<-holding [ov] (getMethod ov m pl)
  callWith pos f first (backTo pos (starEach (e::es) X.env)) (backToKw pos (keywordEach [] X.env))):=by rfl) :
 ED X (.Call (.Attribute o m apos) (e::es) [] pos) (kJ n q f fa):=by
 obtain⟨to,O,I⟩:=K
 obtain⟨t,P,U⟩:=N
 refine⟨_,uJ (pl:=pl) O c V F hr hb .nil gK P b j R,λD E F0 H d Q s z e h=>?_⟩
 obtain⟨B,Y,y⟩:=u4.mp e
 refine I D E F0 H B _ s z Y λF1 H1 v a A=>?_
 cases B with
 |obj w S r =>
  obtain⟨C,G,l⟩:=u4.mp y
  split at l <;> try cases l
  rename_i M
  obtain⟨p,J,q',x,u,xs,rfl,W,hq,aw,ah,al⟩:=A.obj_inv
  refine⟨p,J,_,rfl,a.fh _ _ W,Z _ _ _,?_⟩
  refine U D E F1 H1 C _ a.fh (z.mono a.ff) G λF2 H2 vs i L=>?_
  exact⟨.obj w S r::C,d,F2,M,i.fh,by rw[r9];exact .cons (A.mono i.ff) L,l,λF' H' v g T=>h F' H' v ((a.trans i).trans g) T⟩
 |_=>cases y
def Tp {pl:Sem Bool}(c:cP X.K KK.dk)(V:eO X.K KK.dk m g)(F:xt X.prog X.w X.K X.mg X.base (aR X.prog X.w) k g fd ps (iY x n r))(W:wJ (aR X.prog X.w) X E)(hr:xc k X.A)(hb:xx X.K fd ps [])(M:ED X o f)(O:AD X (e::es) fa)(hn:∀ y u q,(X7 y u q).lookup m=none:=by intros;rfl)(b:starEach (e::es) X.env=(false,eval e X.env)::starEach es X.env:=by rfl)(h:(backTo pos (starEach es X.env)).any (·.1)=false:=by rfl) (S:eval (.Call (.Attribute o m apos) (e::es) [] pos) X.env=(do
 let ov<-eval o X.env
 standAt apos.atName
 let (f,first)<-holding [ov] (getMethod ov m pl)
 callWith pos f first (backTo pos (starEach (e::es) X.env)) (backToKw pos (keywordEach [] X.env))):=by rfl) :
 XE E x X (.Call (.Attribute o m apos) (e::es) [] pos) (kE n r f fa):=by
 obtain⟨to,P,K⟩:=M
 obtain⟨t,R,U⟩:=O
 refine⟨_,uJ (pl:=pl) P c V F hr hb .nil W R b h S,λG I F0 H j Q s A e w=>?_⟩
 obtain⟨C,Z,z⟩:=u4.mp e
 refine K G I F0 H C _ s A Z λF1 H1 v a B=>?_
 cases C with
 |obj w' T l =>
  obtain⟨D,J,i⟩:=u4.mp z
  split at i <;> try cases i
  rename_i N
  obtain⟨p,L,q',y,u,xs,rfl,Y,hq,aw,ah,al⟩:=B.obj_inv
  refine⟨p,L,_,rfl,a.fh _ _ Y,hn _ _ _,?_⟩
  refine U G I F1 H1 D _ a.fh (A.mono a.ff) J λF2 H2 vs d a2=>?_
  exact⟨.obj w' T l::D,j,F2,N,d.fh,by rw[r9];exact .cons (B.mono d.ff) a2,i,w.grow (a.trans d)⟩
 |_=>cases z
end
open Classical in
noncomputable def aX (x q:Addr)(H:Hp):Hp:=λb=>if b=x\/b=q then none else H b
section
variable {x q:Addr}{F H F' H':Hp}
def VQ (c:b≠x)(a:b≠q):aX x q H b=H b:=by
 unfold aX
 rw[j4 (λz=>z.elim c a)]
def vC (h:aX x q H b≈o):b≠x/\b≠q/\H b≈o:=by
 unfold aX at h
 split at h
 .cases h
 .rename_i a
  exact⟨λz=>a (.inl z),λz=>a (.inr z),h⟩
def Sw:aX x q H x=none:=by
 unfold aX
 rw[q4 (.inl rfl)]
def RX:aX x q H q=none:=by
 unfold aX
 rw[q4 (.inr rfl)]
def Z6:aX x q (aA H x o)=aX x q H:=by
 funext b
 unfold aX
 split
 .rfl
 .rename_i a
  rw[zj λz=>a (.inl z)]
def QL:aX x q (aA H q o)=aX x q H:=by
 funext b
 unfold aX
 split
 .rfl
 .rename_i a
  rw[zj λz=>a (.inr z)]
def zS.offs (s:zS F H)(c:F x=none)(a:F q=none):zS F (aX x q H):=λb o e=>by
 rw[VQ (zf e c) (zf e a)]
 exact s b o e
def zS.on (s:zS F (aX x q H)):zS F H:=λb o e=>(vC (s b o e)).2.2
def Gr.offs (g:Gr F H F' H')(j:F' x=none)(a:F' q=none):Gr F (aX x q H) F' (aX x q H'):=by
 refine⟨g.ff,zS.offs g.fh j a,λb o c e=>?_⟩
 obtain⟨f,d,h⟩:=vC e
 obtain⟨i,k⟩:=g.kp b o c h
 exact⟨i,by rw[VQ f d];exact k⟩
end
structure V4 [KK] (F H:Hp) (x dx q:Addr) (w h:D) (ps:zk):Prop where
 ex:∃ vw vh xs,H x≈(.ins KK.dk dx (X7 vw vh q))/\H q≈(.lst xs)/\At F w vw/\At F h vh/\aq F ps xs
 fx:F x=none
 fq:F q=none
section
variable [KK]{Fb Hb F H F' H':Hp}{ρ:SE}{σ:L2.St}{x dx q:Addr}{w h w' h':D}{ps:zk}
def V4.grow (d:V4 F H x dx q w h ps)(g:Gr F H F' H'):V4 F' H' x dx q w h ps:=by
 obtain⟨l,f,e,j,c,k,m,i⟩:=d.ex
 have a:=g.kl (λ_ z=>by cases z) d.fx j
 have b:=g.kl (λ_ z=>by cases z) d.fq c
 exact⟨⟨l,f,e,a.2,b.2,k.mono g.ff,m.mono g.ff,i.mono g.ff⟩,a.1,b.1⟩
def V4.ne (d:V4 F H x dx q w h ps):x≠q:=by
 obtain⟨f,e,c,b,a,_⟩:=d.ex
 exact sU b a (λz=>by cases z)
def Rl.deed {i:Nat}{k:zk}(r:Rl Fb Hb F H ρ σ)(e:ρ[i]?≈(.k w h ⟨z,ps⟩))(ex:σ[i]?≈(some (.ref x)))(d:V4 F H x dx q w h ps)(g:Gr F (aX x q H) F' (aX x q H'))(S:V4 F' H' x dx q w' h' k) :
 Rl Fb Hb F' H' (ρ.set i (.k w' h' ⟨z,k⟩)) σ:=by
 obtain⟨vw,vh,xs,hx,hq,a1,a2,a3⟩:=d.ex
 obtain⟨C,B,U,E,T,b1,b2,b3⟩:=S.ex
 obtain⟨p,a5,q2,a6,a4,a0,Y,f2,X,f4,f5,f6,W,f8,f9⟩:=r.dk i w h _ e
 rw[ex]at Y
 cases Y
 rw[hx]at f2
 cases f2
 obtain⟨p3,o3,Z,e5,e6,e7,_⟩:=r.ows i _ e rfl
 rw[ex]at Z
 cases Z
 have hi:i<ρ.length:=(j3.mp e).1
 have m:∀ {j:Nat} {s:Sl},i=j->(ρ.set i (.k w' h' ⟨z,k⟩))[j]?≈s->s=.k w' h' ⟨z,k⟩:=λ{j s} c h=>by
  subst c
  rw[r8 hi]at h
  cases h
  rfl
 have f:∀ {j:Nat} {s:Sl},(ρ.set i (.k w' h' ⟨z,k⟩))[j]?≈s->s.isO=true->∃ s',ρ[j]?≈s'/\s'.isO=true:=λ{j s} h n=>by
  by_cases c:i=j
  .subst c;exact⟨_,e,rfl⟩
  .rw[u9 c]at h;exact⟨s,h,n⟩
 have Q:∀ {j:Nat} {s:Sl} {a:Addr},i≠j->ρ[j]?≈s->s.isO=true->σ[j]?≈(some (.ref a))->a≠x/\a≠q:=λ{j s a} hne M n G=>by
  refine⟨λz=>?_,λz=>?_⟩
  .subst z;exact hne (r.dis i j a _ s e M rfl n ex G)
  .subst z;exact W j s M n G
 refine⟨⟨r.gr.ff.trans g.ff,zS.on g.fh,λb o e1 R=>?_⟩,λj d h=>?_,λj s h n=>?_,λj l a s t M G o1 o2 h3 h4=>?_,by simp[r.len],λj w2 G a7 h=>?_⟩
 .obtain⟨I,k2⟩:=r.gr.kp b o e1 R
  rcases I with I|⟨I,k3⟩
  .have P:b≠x:=zf R e5
   have N:b≠q:=zf R X
   obtain⟨A,J⟩:=g.kp b o I (by rw[VQ P N];exact k2)
   exact⟨A,(vC J).2.2⟩
  .have y:=g.ff _ _ k3
   exact⟨.inr ⟨I,y⟩,zS.on g.fh _ _ y⟩
 .by_cases c:i=j
  .cases m c h
  .rw[u9 c]at h
   obtain⟨v,A,J⟩:=r.vals j d h
   exact⟨v,A,J.mono g.ff⟩
 .by_cases c:i=j
  .cases m c h
   subst c
   exact⟨x,_,ex,e5,S.fx,E,dx,C,B,q,rfl,b1,b2⟩
  .rw[u9 c]at h
   obtain⟨a,o,A,J,y3,y4,V⟩:=r.ows j s h n
   obtain⟨P,N⟩:=Q c h n A
   obtain⟨u1,u2⟩:=g.kl V.ntup y3 (by rw[VQ P N];exact y4)
   exact⟨a,o,A,J,u1,(vC u2).2.2,V.mono g.ff⟩
 .obtain⟨K,L,u⟩:=f M o1
  obtain⟨s2,g2,O⟩:=f G o2
  exact r.dis j l a K s2 L g2 u O h3 h4
 .have c:i=j:=by
   obtain⟨K,L,_⟩:=f h rfl
   by_cases c:i=j
   .exact c
   .rw[u9 c]at h
    exact(f8 j _ h rfl).symm
  cases m c h
  subst c
  refine⟨x,dx,q,C,B,U,ex,E,X,S.fq,T,b3,λj s h n=>?_,λj s h hk=>?_,f9⟩
  .obtain⟨K,L,u⟩:=f h n
   exact W j K L u
  .by_cases c:i=j
   .exact c.symm
   .rw[u9 c]at h
    exact f8 j s h hk
def Rl.desk {i:Nat}(r:Rl Fb Hb F H ρ σ)(e:ρ[i]?≈(.k w h ⟨z,ps⟩)):∃ x dx q,σ[i]?≈(some (.ref x))/\V4 F H x dx q w h ps/\∀ a,z≈a->a=(x,dx,q):=by
 obtain⟨p,dx,q,n,k,g,d,c,K,t,m,j,D,E,u⟩:=r.dk i w h _ e
 obtain⟨G,C,f,I,v,b,s,l,y,J,A,o,B⟩:=r.ows i _ e rfl
 rw[d]at f
 cases f
 rw[c]at b
 cases b
 cases A
 exact⟨p,dx,q,d,⟨⟨n,k,g,c,m,o,B,j⟩,v,t⟩,u⟩
def Ey {N:zG}{c:zk}(s:zS F H)(d:V4 F H x dx q w h ps)(a:aq F c l):Rl F (aX x q H) F H (.k w h ⟨some (x,dx,q),ps⟩::(c.map .v++List.replicate (N.length-(c.length+1)) .no)) (L2.start N (.ref x::l)):=by
 have v:=a.length
 obtain⟨r,n,C,A,R,Q,T,K⟩:=d.ex
 have O:(L2.start N (.ref x::l))[0]?≈(some (.ref x)):=rfl
 have b:∀ (i:Nat) (t:Sl),(c.map Sl.v++List.replicate (N.length-(c.length+1)) Sl.no)[i]?≈t->t.isO=true->False:=λi t h f=>by
  by_cases g:i<c.length
  .rw[g6 (by simpa using g),k8]at h
   cases e:c[i]? with
   |none=>rw[e]at h;cases h
   |some d=>rw[e]at h;cases h;cases f
  .rw[g9 (by simpa using g),lY]at h
   split at h <;> cases h
   cases f
 refine⟨⟨zS.refl _,s,λp o S I=>⟨.inl S,(vC I).2.2⟩⟩,λi L h=>?_,λi t h f=>?_,λi j p t u B m E M X W=>?_,?_,λi Y m U h=>?_⟩
 .cases i with
  |zero=>cases h
  |succ i =>
   rw[l5]at h
   by_cases g:i<c.length
   .rw[g6 (by simpa using g),k8]at h
    cases e:c[i]? with
    |none=>rw[e]at h;cases h
    |some L =>
     rw[e]at h
     cases h
     obtain⟨y,G,P⟩:=a.get e
     refine⟨y,?_,P⟩
     unfold L2.start
     rw[o4,List.cons_append,l5,g6 (by simpa [v]using g),k8,G]
     rfl
   .rw[g9 (by simpa using g),lY]at h
    split at h <;> cases h
 .cases i with
  |zero=>cases h;exact⟨x,_,rfl,Sw,d.fx,A,dx,r,n,q,rfl,Q,T⟩
  |succ i=>rw[l5]at h;exact(b i t h f).elim
 .cases i with
  |zero=>cases j with
   |zero=>rfl
   |succ j=>rw[l5]at m;exact(b j u m M).elim
  |succ i=>rw[l5]at B;exact(b i t B E).elim
 .unfold L2.start
  simp[v]
 .cases i with
  |zero =>
   cases h
   refine⟨x,dx,q,r,n,C,rfl,A,RX,d.fq,R,K,λj s h f=>?_,λj s h J=>?_,λ_ z=>by cases z;rfl⟩
   .cases j with
    |zero=>intro z;cases z;exact d.ne rfl
    |succ j=>rw[l5]at h;exact(b j s h f).elim
   .cases j with
    |zero=>rfl
    |succ j =>
     rw[l5]at h
     refine(b j s h ?_).elim
     cases s with
     |k _ _ _=>rfl
     |_=>cases J
  |succ i=>rw[l5]at h;exact(b i _ h rfl).elim
end
section
variable [KK]{X:Cx}{a b o e:Expr}{es:yO}{p apos pos pos' pos2:Pos}{f:zU}{fa:yE}{m:Str}
def oE (i:Nat)(f:zU):zD:=λa=>match aY true f a,a[i]? with
 |some d,some (.k w h ⟨z,ps⟩)=>if decide (ps.length<sizeLine) then .nx (a.set i (.k w h ⟨z,ps++[d]⟩))else .no
 |_,_=>.no
def zod (c:iu X.K KK.dk) (G:PE X a (Zh i)) (R:ED X e f) (N:∀ {y:TE} {t:TA},PE X (.Attribute a "past" apos) y->PA X [e] t->PE X (.Call (.Attribute (.Attribute a "past" apos) "append" p) [e] [] pos') (ig X.K "list" Ek y t)) (S:attributeBase a "past" X.env (eval a X.env)=eval a X.env:=by rfl) (s:swapsWith (.Call (.Attribute (.Attribute a "past" apos) "append" p) [e] [] pos') none pos.line X.env=pure false:=by rfl) (K:starEach [e] X.env=(false,eval e X.env)::starEach [] X.env:=by rfl) :
 SD X (.Expr (.Call (.Attribute (.Attribute a "past" apos) "append" p) [e] [] pos') pos) (oE i f):=by
 obtain⟨t,D,B⟩:=R
 refine⟨_,Xd (N (oV G S) (zo D z3 K)) s,λFb Hb F H W P E l k=>?_⟩
 unfold oE at k
 split at k
 .rename_i d w h z Z Q A
  split at k
  .rename_i J
   obtain⟨x,I,q,ex,u,_⟩:=l.desk A
   obtain⟨U,T,C,M,O,a1,V,Y⟩:=u.ex
   refine⟨_,ex,x,_,I,_,.ref q,rfl,M,c.cl,c.nP,rfl,.inl ⟨rfl,C,aK.of O⟩,?_⟩
   refine B.at l Q λF' H' v g L=>?_
   have b:=u.grow g
   obtain⟨n,m,j,o,r,b1,b2,b3⟩:=b.ex
   refine⟨q,j,v,rfl,rfl,r,by rw[b3.length];exact k9 J,?_⟩
   refine k F' _ P ((l.grow g).deed A ex b (H':=aA H' q (.lst (j++[v]))) ?_ ⟨⟨n,m,_,?_,zl,b1,b2,b3.snoc L⟩,b.fx,b.fq⟩)
   .rw[QL]
    exact .refl (zS.offs g.fh b.fx b.fq)
   .rw[zj b.ne]
    exact o
  .exact k.elim
 .exact k.elim
def mH (i:Nat)(f:zU):zD:=λa=>match aY true f a,a[i]? with
 |some d,some (.k _ h ps)=>.nx (a.set i (.k d h ps))
 |_,_=>.no
def mJ (i:Nat)(f:zU):zD:=λa=>match aY true f a,a[i]? with
 |some d,some (.k w _ ps)=>.nx (a.set i (.k w d ps))
 |_,_=>.no
def JW (c:iu X.K KK.dk) (u:PE X a (Zh i)) (K:ED X e f) (B:swapsWith e (some (.Attribute a "web" pos')) pos.line X.env=pure false:=by rfl):SD X (.Assign [.Attribute a "web" pos'] e pos) (mH i f):=by
 obtain⟨t,s,p⟩:=K
 refine⟨_,pA u s B,λFb Hb F H O I E j k=>?_⟩
 unfold mH at k
 split at k
 .rename_i d w h l J o
  obtain⟨z,M⟩:=l
  refine p.at j J λF' H' v g C=>?_
  obtain⟨x,n,q,ex,b,_⟩:=(j.grow g).desk o
  obtain⟨L,m,r,D,G,N,y,A⟩:=b.ex
  refine⟨_,ex,x,_,n,_,rfl,D,c.cl,c.nW,by show 3<1000;decide,?_⟩
  refine k F' _ I ((j.grow g).deed o ex b (H':=aA H' x (.ins KK.dk n (X7 v m q))) ?_ ⟨⟨v,m,r,zl,?_,C,y,A⟩,b.fx,b.fq⟩)
  .rw[Z6]
   exact .refl (zS.offs g.fh b.fx b.fq)
  .rw[zj (bw b.ne)]
   exact G
 .exact k.elim
def JQ (c:iu X.K KK.dk) (u:PE X a (Zh i)) (K:ED X e f) (A:swapsWith e (some (.Attribute a "heap" pos')) pos.line X.env=pure false:=by rfl):SD X (.Assign [.Attribute a "heap" pos'] e pos) (mJ i f):=by
 obtain⟨t,s,p⟩:=K
 refine⟨_,pA u s A,λFb Hb F H O I E j k=>?_⟩
 unfold mJ at k
 split at k
 .rename_i d w h l J o
  obtain⟨z,N⟩:=l
  refine p.at j J λF' H' v g B=>?_
  obtain⟨x,m,q,ex,b,_⟩:=(j.grow g).desk o
  obtain⟨n,L,r,C,G,D,M,y⟩:=b.ex
  refine⟨_,ex,x,_,m,_,rfl,C,c.cl,c.nH,by show 3<1000;decide,?_⟩
  refine k F' _ I ((j.grow g).deed o ex b (H':=aA H' x (.ins KK.dk m (X7 n v q))) ?_ ⟨⟨n,v,r,zl,?_,D,B,y⟩,b.fx,b.fq⟩)
  .rw[Z6]
   exact .refl (zS.offs g.fh b.fx b.fq)
  .rw[zj (bw b.ne)]
   exact G
 .exact k.elim
def Dd (i j:Nat):zD:=λa=>match a[i]? with
 |some (.k w h ⟨z,ps⟩)=>(match ps.getLast? with
  |some d=>.nx ((a.set i (.k w h ⟨z,ps.dropLast⟩)).set j (.v d))
  |none=>.no)
 |_=>.no
def zmY {j:Nat} (c:iu X.K KK.dk) (J:X.N.Nodup) (B:X.N[j]?≈x) (K:bY X.env.scope x) (u:PE X a (Zh i)) (O:attributeBase a "past" X.env (eval a X.env)=eval a X.env:=by rfl) (M:∀ {l:TE},PE X (.Attribute a "past" apos) l->PE X (.Call (.Attribute (.Attribute a "past" apos) "pop" p) [] [] pos2) (qt X.K "list" JX l)) (G:swapsWith (.Call (.Attribute (.Attribute a "past" apos) "pop" p) [] [] pos2) (some (.Name x pos')) pos.line X.env=pure false:=by rfl) (L:X.fn x=true\/X.env.scope.names.lookup x≈.local:=by first | exact .inl rfl | exact .inr rfl | assumption):SD X (.Assign [.Name x pos'] (.Call (.Attribute (.Attribute a "past" apos) "pop" p) [] [] pos2) pos) (Dd i j):=by
 refine⟨_,Yq J B K (M (oV u O)) G L,λFb Hb F H S R E f k=>?_⟩
 unfold Dd at k
 split at k
 .rename_i w h z Q m
  split at k
  .rename_i d o
   obtain⟨es,rfl⟩:=Q5.mp o
   rw[Hs]at k
   obtain⟨r,t,q,ex,b,_⟩:=f.desk m
   obtain⟨v,s,P,e,n,N,A,D⟩:=b.ex
   obtain⟨g,y,rfl,C,I⟩:=D.unsnoc
   refine⟨_,ex,r,_,t,_,.ref q,rfl,e,c.cl,c.nP,rfl,.inl ⟨rfl,_,aK.of n⟩,q,g,y,rfl,rfl,n,?_⟩
   refine k F _ _ ((f.deed m ex b (H':=aA H q (.lst g)) ?_ ⟨⟨v,s,g,?_,zl,N,A,C⟩,b.fx,b.fq⟩).set I)
   .rw[QL]
    exact .refl (zS.offs f.gr.fh b.fx b.fq)
   .rw[zj b.ne]
    exact e
  .exact k.elim
 .exact k.elim
abbrev KF:=D->D->zk->zk->Option (D × D × zk)
abbrev KZ:=Option (Addr × Addr × Addr)->D->D->zk->zk->Option (D × D × eF)
def rW (n:Nat)(R:KZ)(j:D):Sp:=λi H Q _=>∃ x b q f F w h e c g d a,i=.ref x::f/\zS F H/\V4 F H x b q w h e/\aq F c f/\c.length+1=n/\R (some (x,b,q)) w h e c≈(g,d,⟨some (x,b,q),a⟩) /\
 ∀ F' H' v,Gr F (aX x q H) F' (aX x q H')->V4 F' H' x b q g d a->At F' j v->Q v H'
def jO (n:Nat)(R:KF)(j:D):Sp:=λi H Q _=>∃ x c q f F w h e b g d a,i=.ref x::f/\zS F H/\V4 F H x c q w h e/\aq F b f/\b.length+1=n/\R w h e b≈(g,d,a) /\
 ∀ F' H' v,Gr F (aX x q H) F' (aX x q H')->V4 F' H' x c q g d a->At F' j v->Q v H'
def CT {P:zM}{w:World}{K:zx}{i:wm}{b:Heap}{f:Addr}{g:wL}{ps:zG}{k n:Nat}{CX:cQ}{R:KZ}{R':KF}{j:D}(F:xt P w K i b CX k f g ps (rW n R j))(h:∀ z w h ps d e c a,R' w h ps d≈(e,c,a)->R z w h ps d≈(e,c,⟨z,a⟩)):xt P w K i b CX k f g ps (jO n R' j) :=
 F.imp λA H Q E ⟨x,l,q,s,F',w,c,ps,d,e,m,a,u,t,p,v,y,o,r⟩=>⟨x,l,q,s,F',w,c,ps,d,e,m,a,u,t,p,v,y,h _ _ _ _ _ _ _ _ o,r⟩
def jr (n:Nat)(g:zD):KZ:=λz w h b a=>match g (.k w h ⟨z,b⟩::(a.map .v++List.replicate (n-(a.length+1)) .no)) with
 |.nx c=>(match (c:SE)[0]? with
  |some (Sl.k w' h' p')=>some (w',h',p')
  |_=>none)
 |_=>none
def BW (X:Cx)(b:vu)(g:zD)(c:V):Prop:=∃ t,bF X b t/\∀ (Fb Hb F H:Hp) (f:SE) (e:L2.St) (E:VN),Rl Fb Hb F H f e->(match g f with
 |.nx a=>∀ F' H' d,Rl Fb Hb F' H' a d->E.rt c H'
 |_=>False)->t E e H
def zmf:BW X [.Return (some (.Constant (.str x) j pos')) pos] zA (.str x) :=
 ⟨_,x4 (Ys zQ),λFb Hb F H c a E b k=>k F H a b⟩
def Wn {a:vu}{g:zD}(o:SD X l g)(q:BW X a h c):BW X (l::a) (zI g h) c:=by
 obtain⟨t,p,r⟩:=o
 obtain⟨u,n,v⟩:=q
 refine⟨_,yV p n,λFb Hb F H j s E m k=>?_⟩
 refine r Fb Hb F H j s { E with nx:=u E } m ?_
 unfold zI at k
 cases e:g j with
 |nx b =>
  rw[e]at k
  exact λF' H' i f=>v Fb Hb F' H' b i E f k
 |rt d=>rw[e]at k;exact k.elim
 |bk d=>rw[e]at k;exact k.elim
 |ct d=>rw[e]at k;exact k.elim
 |no=>rw[e]at k;exact k.elim
section
variable {P:zM}{w:World}{K:zx}{mg:wm}{base:Heap}{x qual:Str}{st:Stmt}{f:Addr}{fd:wL}{N ps:zG}{k:Nat}{g:zD}
def KN {d:D}{a:zy}(h:rW n R d a H Q E):a.length=n:=by
 obtain⟨x,g,q,i,F,w,f,ps,m,l,k,b,rfl,j,p,c,e,o,r⟩:=h
 rw[r4,c.length]
 exact e
def Eb {Fb Hb:Hp}{g:L2.St}{x:Addr}{a:zk}(d:Rl F (aX x q H) F' H' c g)(e:c[0]?≈(.k j h ⟨some (x,i,q),a⟩)):Gr F (aX x q H) F' (aX x q H')/\V4 F' H' x i q j h a:=by
 obtain⟨u,p,v,ex,f,n⟩:=d.desk e
 cases n _ rfl
 refine⟨⟨d.gr.ff,zS.offs d.gr.fh f.fx f.fq,λb o r k=>?_⟩,f⟩
 obtain⟨s,t⟩:=d.gr.kp b o r k
 obtain⟨m,l,_⟩:=vC k
 exact⟨s,by rw[VQ m l];exact t⟩
def N6 (Fu:bQ K x qual st f fd)(S:yz N ps (zm st))
 (I:∀ (a:Value) (A:zN) (outer:List Env) (s:zn) (H:Hp) (E:XK),xc k (A.deeper (PyProof.Rows.envOfC qual (zm st) s.heap.objs.size f a))->bM (vd aM P w K mg base N qual (zm st) f a A outer s H E).nox (ya st) g) :
 xt P w K mg base aM (k+1) f fd ps (rW ps.length (jr N.length g) .non):=by
 refine Fu.ok S (λo H Q E h=>KN h) λa A outer s H o Q E D h=>?_
 obtain⟨x,l,q,R,F,w,z,ps,i,U,M,B,rfl,G,m,v,L,e,C⟩:=h
 obtain⟨t,p,r⟩:=I a A outer s H E D
 refine⟨t,p,r F (aX x q H) F H _ _ _ (Ey G m v) ?_⟩
 unfold jr at e
 cases b:g (.k w z ⟨some (x,l,q),ps⟩::(i.map .v++List.replicate (N.length-(i.length+1)) .no)) with
 |nx c =>
  rw[b]at e
  dsimp only at e
  split at e
  .rename_i T O V y
   cases e
   intro F' H' J j
   obtain⟨u,n⟩:=Eb (Fb:=F) (Hb:=H) j y
   exact C F' H' _ u n .non
  .cases e
 |rt d=>rw[b]at e;cases e
 |bk c=>rw[b]at e;cases e
 |ct c=>rw[b]at e;cases e
 |no=>rw[b]at e;cases e
def zm4 (Fu:bQ K x qual st f fd)(S:yz N ps (zm st))(J:∀ (a:Value) (A:zN) (outer:List Env) (s:zn) (H:Hp) (E:XK),xc k (A.deeper (PyProof.Rows.envOfC qual (zm st) s.heap.objs.size f a))->BW (vd aM P w K mg base N qual (zm st) f a A outer s H E).nox (ya st) g (.str y)) :
 xt P w K mg base aM (k+1) f fd ps (rW ps.length (jr N.length g) (.str y)):=by
 refine Fu.ok S (λo H Q E h=>KN h) λa A outer s H o Q E G h=>?_
 obtain⟨x,l,q,U,F,w,B,ps,i,V,O,C,rfl,I,m,v,M,e,D⟩:=h
 obtain⟨t,p,r⟩:=J a A outer s H E G
 refine⟨t,p,r F (aX x q H) F H _ _ _ (Ey I m v) ?_⟩
 unfold jr at e
 cases b:g (.k w B ⟨some (x,l,q),ps⟩::(i.map .v++List.replicate (N.length-(i.length+1)) .no)) with
 |nx c =>
  rw[b]at e
  dsimp only at e
  split at e
  .rename_i T R W z
   cases e
   intro F' H' L j
   obtain⟨u,n⟩:=Eb (Fb:=F) (Hb:=H) j z
   exact D F' H' _ u n .str
  .cases e
 |rt d=>rw[b]at e;cases e
 |bk c=>rw[b]at e;cases e
 |ct c=>rw[b]at e;cases e
 |no=>rw[b]at e;cases e
end
def KE (X:Cx)(e:Expr)(f:SE->Option (D × SE)):Prop:=∃ t,PE X e t/\∀ (Fb Hb F H:Hp) (c:SE) (b:L2.St) (Q:VK) (d:D) (a:SE),Rl Fb Hb F H c b->f c≈(d,a)->(∀ F' H' v,zS F F'->Rl Fb Hb F' H' a b->At F' d v->Q v H')->t b H Q
def fY (i n:Nat)(R:KF)(b:D)(fa:yE):SE->Option (D × SE):=λa=>match a[i]? with
 |some (.k w h ⟨z,ps⟩)=>(fa (visG a)).bind λds=>if dI ds=true/\ds.length+1=n then (R w h ps ds).map λr=>(b,a.set i (.k r.1 r.2.1 ⟨z,r.2.2⟩))else none
 |_=>none
def Km {t:TA}(I:C=KK.dk)(hn:∀ s o q,(X7 s o q).lookup m=none)(U:RA t fa)(Fb Hb F H:Hp)(y:SE)(f:L2.St)(Q:VK)(d:D)(b:SE)(a:Rl Fb Hb F H y f)(h:fY i n R A fa y≈(d,b))(k:∀ F' H' v,zS F F'->Rl Fb Hb F' H' b f->At F' d v->Q v H'):Dc C m (jO n R A) [] E (Zh i) t f H Q:=by
 subst I
 unfold fY at h
 split at h
 .rename_i w S z V u
  obtain⟨B,J,j⟩:=u4.mp h
  split at j <;> try cases j
  rename_i G
  obtain⟨⟨X,L,l⟩,Z,O⟩:=t4.mp j
  cases O
  obtain⟨x,p,q,ex,r,_⟩:=a.desk u
  obtain⟨s,o,xs,W,hq,_⟩:=r.ex
  refine⟨_,ex,x,p,_,rfl,W,hn _ _ _,?_⟩
  refine U f _ _ H B _ a.gh a.visG J λF1 H1 K N Y=>?_
  obtain⟨e,M⟩:=a.back N
  have c:=r.grow e
  refine⟨x,p,q,K,_,w,S,V,B,X,L,l,by rw[r9],e.fh,c,Y.flat M G.1,G.2,Z,λF' H' v g P T=>?_⟩
  exact k F' H' v (e.ff.trans g.ff) ((a.grow e).deed u ex c g P) T
 .cases h
section
variable {k n i:Nat}{g:Addr}{fd:wL}{ps:zG}{R:KF}{d0:D}
theorem Ka {pl:Sem Bool}(c:cP X.K KK.dk)(j:eO X.K KK.dk m g)(F:xt X.prog X.w X.K X.mg X.base aM k g fd ps (jO n R d0))(u:xc k X.A)(v:xx X.K fd ps [])(l:PE X o (Zh i))(r:AD X (e::es) fa)
 (s:∀ p d q,(X7 p d q).lookup m=none:=by intros;rfl)
 (a:starEach (e::es) X.env=(false,eval e X.env)::starEach es X.env:=by rfl) (b:(backTo pos (starEach es X.env)).any (·.1)=false:=by rfl)
 (x:eval (.Call (.Attribute o m apos) (e::es) [] pos) X.env=(do
  let ov<-eval o X.env
  standAt apos.atName
  let (f,first)<-holding [ov] (getMethod ov m pl)
  callWith pos f first (backTo pos (starEach (e::es) X.env)) (backToKw pos (keywordEach [] X.env))):=by rfl) :
 KE X (.Call (.Attribute o m apos) (e::es) [] pos) (fY i n R d0 fa):=by
 obtain⟨t,w,h⟩:=r
 exact⟨_,uJ (E:=λ_ _ _=>False) (pl:=pl) l c j F u v .nil gK w a b x,Km rfl s h⟩
def zo9:RA eN (λ_=>some []):=λa c F H d Q s b e q=>by
 cases e
 exact q F H [] (.refl s) .nil
theorem zmU {pl:Sem Bool}(c:cP X.K KK.dk)(e:eO X.K KK.dk m g)(F:xt X.prog X.w X.K X.mg X.base aM k g fd ps (jO n R d0))(d:xc k X.A)(j:xx X.K fd ps [])(l:PE X o (Zh i))
 (b:∀ h a q,(X7 h a q).lookup m=none:=by intros;rfl)
 (p:eval (.Call (.Attribute o m apos) [] [] pos) X.env=(do
  let ov<-eval o X.env
  standAt apos.atName
  let (f,first)<-holding [ov] (getMethod ov m pl)
  callWith pos f first (backTo pos (starEach [] X.env)) (backToKw pos (keywordEach [] X.env))):=by rfl) :
 KE X (.Call (.Attribute o m apos) [] [] pos) (fY i n R d0 (λ_=>some [])) :=
 ⟨_,Qc (E:=λ_ _ _=>False) (pl:=pl) l c e F d j .nil gK p,Km rfl b zo9⟩
end
def mG (f:SE->Option (D × SE)):zD:=λa=>match f a with
 |some (_,ρ')=>.nx ρ'
 |none=>.no
def JM {f:SE->Option (D × SE)}(j:KE X e f)(g:swapsWith e none pos.line X.env=pure false:=by rfl):SD X (.Expr e pos) (mG f):=by
 obtain⟨t,p,r⟩:=j
 refine⟨_,Xd p g,λFb Hb F H l c E i k=>?_⟩
 unfold mG at k
 split at k
 .rename_i d a h
  exact r Fb Hb F H l c _ d a i h λF' H' v _ b _=>k F' H' c b
 .exact k.elim
def iZ (i:Nat)(f:SE->Option (D × SE)):zD:=λa=>match f a with
 |some (d,ρ')=>.nx (ρ'.set i (.v d))
 |none=>.no
def J2 {i:Nat}{f:SE->Option (D × SE)}(m:X.N.Nodup)(g:X.N[i]?≈x)(n:bY X.env.scope x)(s:KE X e f)(j:swapsWith e (some (.Name x pos')) pos.line X.env=pure false:=by rfl)(o:X.fn x=true\/X.env.scope.names.lookup x≈.local:=by first|exact .inl rfl|exact .inr rfl|assumption):SD X (.Assign [.Name x pos'] e pos) (iZ i f):=by
 obtain⟨t,p,r⟩:=s
 refine⟨_,Yq m g n p j o,λFb Hb F H u q E c k=>?_⟩
 unfold iZ at k
 split at k
 .rename_i d a h
  exact r Fb Hb F H u q _ d a c h λF' H' v _ b l=>k F' H' _ (b.set l)
 .exact k.elim
end
section
variable [KK]{X:Cx}{e1 e2 e3:Expr}{a1 a2 a3:Expr}{p1 p2 p3 pos pos1 pos2 pos3 pos':Pos}
def w0:D:=.tup [.int 1,.tup []]
def h0:D:=.tup [.int 0]
def fD:Sp:=λb H Q _=>∃ x a F,b=[.ref x]/\zS F H/\F x=none/\H x≈(.ins KK.dk a [])/\∀ F' H' q,H q=none->Gr F (aX x q H) F' (aX x q H')->V4 F' H' x a q w0 h0 []->Q .non H'
def SI (X:Cx) (a:vu):Prop:=∃ d c b,bF X a (mV (rM X.K (Zh 0) d "web") (mV (rM X.K (Zh 0) c "heap") (rM X.K (Zh 0) b "past")))/\RE d (λ_=>some w0)/\RE c (λ_=>some h0)/\RF b (λ_=>some [])
def Rx {f g:zU}{h:yE}(v:ED X e1 f)(l:ED X e2 g)(u:FL X e3 h)(b1:PE X a1 (Zh 0))(b2:PE X a2 (Zh 0))(b3:PE X a3 (Zh 0))(m:∀ a,f a≈w0)(j:∀ a,g a≈h0)(x:∀ a,h a≈[])
 (z:swapsWith e1 (some (.Attribute a1 "web" p1)) pos1.line X.env=pure false:=by rfl) (w:swapsWith e2 (some (.Attribute a2 "heap" p2)) pos2.line X.env=pure false:=by rfl) (r:swapsWith e3 (some (.Attribute a3 "past" p3)) pos3.line X.env=pure false:=by rfl) :
 SI X [.Assign [.Attribute a1 "web" p1] e1 pos1,.Assign [.Attribute a2 "heap" p2] e2 pos2,.Assign [.Attribute a3 "past" p3] e3 pos3]:=by
 obtain⟨A,y,o⟩:=v
 obtain⟨k,n,q⟩:=l
 obtain⟨p,t,i⟩:=u
 refine⟨A,k,p,yV (pA b1 y z) (yV (pA b2 n w) (x4 (pA b3 t r))),λc a F H d Q s b e=>?_,λc a F H d Q s b e=>?_,λc a F H d Q s b e=>?_⟩
 .exact o c a F H d Q s b ((m a).trans e)
 .exact q c a F H d Q s b ((j a).trans e)
 .exact i c a F H d Q s b ((x a).trans e)
def kx {F H F' H':Hp}(g:Gr F H F' H')(d:F x=none)(c:H x≈(.ins KK.dk b a)):F' x=none/\H' x≈(.ins KK.dk b a):=g.kl (λ_ z=>by cases z) d c
def U3 {P:zM} {w:World} {K:zx} {Y:wm} {j:Heap} {nm a:Str} {t:Stmt} {f:Addr} {X:wL} {k:Nat} (Fu:bQ K nm a t f X) (S:yz ["self"] ["self"] (zm t)) (c:iu K KK.dk)
 (hb:∀ (g:Value) (A:zN) (outer:List Env) (s:zn) (H:Hp) (E:XK),xc k (A.deeper (PyProof.Rows.envOfC a (zm t) s.heap.objs.size f g))->SI (vd aM P w K Y j ["self"] a (zm t) f g A outer s H E).nox (ya t)) :
 xt P w K Y j aM (k+1) f X ["self"] fD:=by
 refine Fu.ok S (λvs H Q E h=>?_) λg A outer s H vs Q E hr h=>?_
 .obtain⟨x,r,F,rfl,_⟩:=h
  rfl
 obtain⟨x,r,F,rfl,sm,fx,hx,kk⟩:=h
 obtain⟨t1,t2,t3,p,r1,r2,r3⟩:=hb g A outer s H E hr
 refine⟨_,p,?_⟩
 have L:∀ (G:Hp) (U:L2.St),cJ G [] U:=λG U i d e=>by simp at e
 refine r1 _ [] F H w0 _ sm (L _ _) rfl λF1 H1 I u b1=>?_
 obtain⟨l,J⟩:=kx u fx hx
 refine⟨_,rfl,x,_,r,[],rfl,J,c.cl,c.nW,by decide,?_⟩
 have s1:zS F1 (aA H1 x (.ins KK.dk r (bZ "web" I []))):=λb o e=>by
  rw[zj (zf e l)]
  exact u.fh b o e
 refine r2 _ [] F1 _ h0 _ s1 (L _ _) rfl λF2 H2 R n b2=>?_
 obtain⟨m,D⟩:=kx n l zl
 refine⟨_,rfl,x,_,r,_,rfl,D,c.cl,c.nH,by show 1<1000;decide,?_⟩
 have s2:zS F2 (aA H2 x (.ins KK.dk r (bZ "heap" R (bZ "web" I [])))):=λb o e=>by
  rw[zj (zf e m)]
  exact n.fh b o e
 refine r3 _ [] F2 _ [] _ s2 (L _ _) rfl λF3 H3 q Z C B W O al=>?_
 obtain⟨y,M⟩:=kx C m zl
 refine⟨_,rfl,x,_,r,_,rfl,M,c.cl,c.nP,by show 2<1000;decide,?_⟩
 have N:q≠x:=λz=>by
  rw[z,zl]at B
  cases B
 have T:H2 q=none:=by rw[zj N]at B;exact B
 have v:=gH n T
 have V:H1 q=none:=by rw[zj N]at v;exact v
 have q0:=gH u V
 have z2:F2 q=none:=n.fh.free T
 have z1:F1 q=none:=u.fh.free V
 have G1:=Gr.offs u l z1
 have G2:=Gr.offs n m z2
 have G3:=Gr.offs C y W
 rw[Z6]at G2 G3
 refine kk F3 _ q q0 ?_ ⟨⟨I,R,Z,zl,?_,b1.mono (n.ff.trans C.ff),b2.mono C.ff,al⟩,y,W⟩
 .rw[Z6]
  exact(G1.trans G2).trans G3
 .rw[zj N]
  exact O
def Dh (i:Nat):zD:=λa=>if (a.set i .no).all (λs=>!s.isK) then .nx (a.set i (.k w0 h0 ⟨none,[]⟩))else .no
def Rl.newK {H:Hp}{u:SE}{I:L2.St}{p:Addr}{w:D}(r:Rl Fb Hb F H u I)(nk:(u.set i .no).all (λs=>!s.isK)=true)(N:H x=none)(h2:H p=none)(K:H q=none)(a0:p≠x)(hq:q≠p)(g:Gr F (aX x q (aA (aA H p (.own x)) x (.ins KK.dk p []))) F' (aX x q H'))(d:V4 F' H' x p q w h []):Rl Fb Hb F' H' (u.set i (.k w h ⟨none,[]⟩)) (I.set i (some (.ref x))):=by
 obtain⟨W,P,xs,R,M,a1,a2,a3⟩:=d.ex
 have C:∀ {b:Addr} {o:HO},H b≈o->aX x q (aA (aA H p (.own x)) x (.ins KK.dk p [])) b≈o:=λ{b o} e=>by
  have U:=zf e N
  have n2:=zf e h2
  have n3:=zf e K
  rw[VQ U n3,zj U,zj n2]
  exact e
 have Q:∀ {j:Nat} {s:Sl},j≠i->u[j]?≈s->s.isK=false:=λ{j s} c e=>by
  have:=o5.mp nk s (o0 (i:=j) (by rw[u9 (bw c)];exact e))
  cases J:s.isK with
  |false=>rfl
  |true=>rw[J]at this;cases this
 have f:∀ {s:Sl},(u.set i (.k w h ⟨none,[]⟩))[i]?≈s->i<u.length/\s=.k w h ⟨none,[]⟩:=λ{s} h=>by
  rw[iI]at h
  simp only[dW]at h
  split at h
  .rename_i m
   cases h
   exact⟨m,rfl⟩
  .cases h
 have k:i<u.length->(I.set i (some (V.ref x)))[i]?≈(some (.ref x)):=λm=>by
  rw[iI]
  simp[<-r.len,m]
 have n:∀ {j:Nat} {s:Sl} {a:Addr},u[j]?≈s->s.isO=true->I[j]?≈(some (.ref a))->a≠x/\a≠q:=λ{j s a} e1 e2 e3=>by
  obtain⟨a',o,X,_,_,S,_⟩:=r.ows j s e1 e2
  rw[e3]at X
  cases X
  exact⟨zf S N,zf S K⟩
 refine⟨⟨r.gr.ff.trans g.ff,zS.on g.fh,λb o e1 e2=>?_⟩,λj d' h=>?_,λj s h L=>?_,λj l a s t e1 e2 T Y e3 A=>?_,by simp[r.len],λj w2 Z a4 h=>?_⟩
 .obtain⟨E,k2⟩:=r.gr.kp b o e1 e2
  rcases E with E|⟨E,k3⟩
  .obtain⟨B,G⟩:=g.kp b o E (C k2)
   exact⟨B,(vC G).2.2⟩
  .have y:=g.ff _ _ k3
   exact⟨.inr ⟨E,y⟩,zS.on g.fh _ _ y⟩
 .by_cases c:i=j
  .subst c
   cases (f h).2
  .rw[u9 c]at h ⊢
   obtain⟨v,B,G⟩:=r.vals j d' h
   exact⟨v,B,G.mono g.ff⟩
 .by_cases c:i=j
  .subst c
   obtain⟨m,rfl⟩:=f h
   exact⟨x,_,k m,r.notbase N,d.fx,R,p,W,P,q,rfl,a1,a2⟩
  .rw[u9 c]at h ⊢
   obtain⟨a,o,B,G,y3,y4,O⟩:=r.ows j s h L
   obtain⟨u1,u2⟩:=g.kl O.ntup y3 (C y4)
   exact⟨a,o,B,G,u1,(vC u2).2.2,O.mono g.ff⟩
 .by_cases c:i=j
  .subst c
   by_cases m:i=l
   .exact m
   .obtain⟨z,_⟩:=f e1
    rw[k z]at e3
    cases e3
    rw[u9 m]at e2 A
    exact absurd rfl (n e2 Y A).1
  .by_cases m:i=l
   .subst m
    obtain⟨z,_⟩:=f e2
    rw[k z]at A
    cases A
    rw[u9 c]at e1 e3
    exact absurd rfl (n e1 T e3).1
   .rw[u9 c]at e1 e3
    rw[u9 m]at e2 A
    exact r.dis j l a s t e1 e2 T Y e3 A
 .by_cases c:i=j
  .subst c
   obtain⟨m,e⟩:=f h
   cases e
   refine⟨x,p,q,W,P,xs,k m,R,r.notbase K,d.fq,M,a3,λj s h L=>?_,λj s h J=>?_,λ_ z=>by cases z⟩
   .by_cases c:i=j
    .subst c
     rw[k m]
     intro z
     cases z
     exact d.ne rfl
    .rw[u9 c]at h ⊢
     intro z
     exact(n h L z).2 rfl
   .by_cases c:i=j
    .exact c.symm
    .rw[u9 c]at h
     rw[Q (bw c) h]at J
     cases J
  .rw[u9 c]at h
   have:=Q (bw c) h
   cases this
def zmq {i k:Nat} {f:Addr} {t pos2:Pos} (M:Mk X.K KK.dk f) (F:xt X.prog X.w X.K X.mg X.base aM k f u ["self"] fD) (K:xc (k+1) X.A) (G:Gl X h) (A:X.mg h≈(.ref KK.dk)) (L:xx X.K u ["self"] []) (B:X.N.Nodup) (J:X.N[i]?≈x) (C:bY X.env.scope x) (y:swapsWith (.Call (.Name h t) [] [] pos2) (some (.Name x pos')) pos.line X.env=pure false:=by rfl) (D:X.fn x=true\/X.env.scope.names.lookup x≈.local:=by first | exact .inl rfl | exact .inr rfl | assumption) (r:(h == ("__debug__":Str))=false:=by decide):SD X (.Assign [.Name x pos'] (.Call (.Name h t) [] [] pos2) pos) (Dh i):=by
 refine⟨_,Yq B J C (zkf (E:=λ_ _ _=>False) M F K G A L .nil gK r) y D,λFb Hb F H O N E m j=>?_⟩
 unfold Dh at j
 split at j
 .rename_i w
  intro a l n v p
  have e1:zS F (aA (aA H l (.own a)) a (.ins KK.dk l [])):=λb o e=>by
   have z:=m.gr.fh b o e
   rw[zj (zf z n),zj (zf z v)]
   exact z
  refine⟨a,l,F,rfl,e1,m.gr.fh.free n,zl,λF' H' q c g d=>⟨rfl,?_⟩⟩
  have I:q≠a:=λz=>by rw[z,zl]at c;cases c
  rw[zj I]at c
  have s:q≠l:=λz=>by rw[z,zl]at c;cases c
  rw[zj s]at c
  exact j F' H' _ (m.newK w n v c p s g d)
 .exact j.elim
end
section
variable [KK]{X:Cx}{a b o e:Expr}{es:yO}{p apos pos pos' pos2:Pos}{f:zU}{fa:yE}{m:Str}
abbrev KV:=D->D->zk->zk->Option (D × D × D × zk)
abbrev Ja:=Option (Addr × Addr × Addr)->D->D->zk->zk->Option (D × D × D × eF)
def Jo (n:Nat)(R:Ja):Sp:=λj H Q _=>∃ x b q g F w h f c d i e a,j=.ref x::g/\zS F H/\V4 F H x b q w h f/\aq F c g/\c.length+1=n/\R (some (x,b,q)) w h f c≈(d,i,e,⟨some (x,b,q),a⟩) /\
 ∀ F' H' v,Gr F (aX x q H) F' (aX x q H')->V4 F' H' x b q i e a->At F' d v->Q v H'
def CP (n:Nat)(R:KV):Sp:=λj H Q _=>∃ x c q g F w h f b d i e a,j=.ref x::g/\zS F H/\V4 F H x c q w h f/\aq F b g/\b.length+1=n/\R w h f b≈(d,i,e,a) /\
 ∀ F' H' v,Gr F (aX x q H) F' (aX x q H')->V4 F' H' x c q i e a->At F' d v->Q v H'
def S8 {P:zM}{w:World}{K:zx}{j:wm}{b:Heap}{f:Addr}{i:wL}{ps:zG}{k n:Nat}{CX:cQ}{R:Ja}{R':KV}(F:xt P w K j b CX k f i ps (Jo n R))(h:∀ z w h ps g d e c a,R' w h ps g≈(d,e,c,a)->R z w h ps g≈(d,e,c,⟨z,a⟩)):xt P w K j b CX k f i ps (CP n R') :=
 F.imp λA H Q E ⟨x,l,q,s,F',w,c,ps,g,d,e,m,a,u,t,p,v,y,o,r⟩=>⟨x,l,q,s,F',w,c,ps,g,d,e,m,a,u,t,p,v,y,h _ _ _ _ _ _ _ _ _ o,r⟩
def BV (X:Cx)(b:vu)(g:zD)(h:SE->Option D):Prop:=∃ t,bF X b t/\∀ (Fb Hb F H:Hp) (f:SE) (e:L2.St) (E:VN),Rl Fb Hb F H f e->(match g f with
 |.nx a=>∃ d,h a≈d/\∀ F' H' c v,Rl Fb Hb F' H' a c->At F' d v->E.rt v H'
 |_=>False)->t E e H
def znU (h:ED X e f):BV X [.Return (some e) pos] zA (aY true f):=by
 obtain⟨t,p,r⟩:=h
 refine⟨_,x4 (Ys p),λFb Hb F H j c E a k=>?_⟩
 obtain⟨d,i,k⟩:=k
 exact r.at a i λF' H' v g b=>k F' H' c v (a.grow g) b
def zj8 {a:vu}{g:zD}(o:SD X l g)(q:BV X a h i):BV X (l::a) (zI g h) i:=by
 obtain⟨t,p,r⟩:=o
 obtain⟨u,n,v⟩:=q
 refine⟨_,yV p n,λFb Hb F H j s E m k=>?_⟩
 refine r Fb Hb F H j s { E with nx:=u E } m ?_
 unfold zI at k
 cases e:g j with
 |nx b =>
  rw[e]at k
  exact λF' H' f c=>v Fb Hb F' H' b f E c k
 |rt d=>rw[e]at k;exact k.elim
 |bk d=>rw[e]at k;exact k.elim
 |ct d=>rw[e]at k;exact k.elim
 |no=>rw[e]at k;exact k.elim
def Dg (n:Nat)(g:zD)(c:SE->Option D):Ja:=λz w h e b=>match g (.k w h ⟨z,e⟩::(b.map .v++List.replicate (n-(b.length+1)) .no)) with
 |.nx a=>(match (a:SE)[0]?,c a with
  |some (Sl.k w' h' p'),some d=>some (d,w',h',p')
  |_,_=>none)
 |_=>none
def znL {P:zM}{w:World}{K:zx}{u:wm}{c:Heap}{x a:Str}{j:Stmt}{f:Addr}{n:wL}{N ps:zG}{k:Nat}{g:zD}{fv:SE->Option D}(Fu:bQ K x a j f n)(S:yz N ps (zm j))
 (hb:∀ (b:Value) (A:zN) (outer:List Env) (s:zn) (H:Hp) (E:XK),xc k (A.deeper (PyProof.Rows.envOfC a (zm j) s.heap.objs.size f b))->BV (vd aM P w K u c N a (zm j) f b A outer s H E).nox (ya j) g fv) :
 xt P w K u c aM (k+1) f n ps (Jo ps.length (Dg N.length g fv)):=by
 refine Fu.ok S (λJ H Q E h=>?_) λb A outer s H J Q E Z h=>?_
 .obtain⟨x,o,q,V,F,w,z,ps,m,d,Y,L,l,rfl,U,h4,W,h6,h7,h8⟩:=h
  rw[r4,W.length]
  exact h6
 obtain⟨x,o,q,V,F,w,z,ps,m,d,Y,L,l,rfl,sm,G,O,hl,e,X⟩:=h
 obtain⟨t,p,r⟩:=hb b A outer s H E Z
 refine⟨t,p,r F (aX x q H) F H _ _ _ (Ey sm G O) ?_⟩
 unfold Dg at e
 cases i:g (.k w z ⟨some (x,o,q),ps⟩::(m.map .v++List.replicate (N.length-(m.length+1)) .no)) with
 |nx y =>
  rw[i]at e
  dsimp only at e
  split at e
  .rename_i w2 U p' d' M C
   cases e
   refine⟨d,C,λF' H' a0 v B T=>?_⟩
   obtain⟨R,I⟩:=Eb (Fb:=F) (Hb:=H) B M
   exact X F' H' v R I T
  .cases e
 |rt d=>rw[i]at e;cases e
 |bk y=>rw[i]at e;cases e
 |ct y=>rw[i]at e;cases e
 |no=>rw[i]at e;cases e
def nD (i n:Nat)(R:KV)(fa:yE):SE->Option (D × SE):=λa=>match a[i]? with
 |some (.k w h ⟨z,ps⟩)=>(fa (visG a)).bind λb=>if dI b=true/\b.length+1=n then (R w h ps b).map λr=>(r.1,a.set i (.k r.2.1 r.2.2.1 ⟨z,r.2.2.2⟩))else none
 |_=>none
def zlf {k:Nat} {g:Addr} (F:xt X.prog X.w X.K X.mg X.base aM k g s c (CP n R)) (hr:xc k X.A) (M:Gl X x) (J:X.mg x≈(.ref g)) (V:PySem.W.keepIn X.K (.ref g)=true) (hb:xx X.K s c []) (P:PE X o (Zh i)) (D:AD X es fa) (m:(x == ("__debug__":Str))=false:=by decide) (A:starEach (o::es) X.env=(false,eval o X.env)::starEach es X.env:=by rfl) (f:(backTo pos (starEach es X.env)).any (·.1)=false:=by rfl) :
 KE X (.Call (.Name x p) (o::es) [] pos) (nD i n R fa):=by
 obtain⟨t,G,ra⟩:=D
 refine⟨_,uL (E:=λ_ _ _=>False) F hr M J V hb .nil gK (zo P G A) m A f,λFb Hb F H ρ L Q d W a h k=>?_⟩
 unfold nD at h
 split at h
 .rename_i w I z c u
  obtain⟨r,N,j⟩:=u4.mp h
  split at j <;> try cases j
  rename_i y
  obtain⟨⟨d2,K,S,l⟩,e5,Y⟩:=t4.mp j
  cases Y
  obtain⟨x,O,q,ex,B,_⟩:=a.desk u
  refine⟨_,ex,?_⟩
  refine ra L _ _ H r _ a.gh a.visG N λF1 H1 C U a1=>?_
  obtain⟨e,T⟩:=a.back U
  have b:=B.grow e
  refine⟨x,O,q,C,_,w,I,c,r,_,K,S,l,by rw[r9],e.fh,b,a1.flat T y.1,y.2,e5,λF' H' v g Z av=>?_⟩
  exact k F' H' v (e.ff.trans g.ff) ((a.grow e).deed u ex b g Z) av
 .cases h
def RK (t:TE)(f:SE->Option (D × SE)):Prop:=∀ (Fb Hb F H:Hp) (c:SE) (b:L2.St) (Q:VK) (d:D) (a:SE),Rl Fb Hb F H c b->f c≈(d,a)->(∀ F' H' v,zS F F'->Rl Fb Hb F' H' a b->At F' d v->Q v H')->t b H Q
def KT (X:Cx)(e:Expr)(f:SE->Option (D × SE)):Prop:=∃ t,PT X e (jx t)/\RK t f
section
variable {k n:Nat}{g:Addr}{fd:wL}{ps:zG}{sp:Sp}{E:XK}{cl:Nat->Addr}{r:fU}
def tL (b:zU)(c:cg):cg:=λa=>(b a).bind λd=>match d with
 |.obj _ _ _=>c a
 |_=>none
def zmL {pl:Sem Bool}(c:cP X.K KK.dk)(L:eO X.K KK.dk m g)(F:xt X.prog X.w X.K X.mg X.base aM k g fd ps sp)(R:xc k X.A)(S:xx X.K fd ps [])(B:ED X o f)(C:XA E cl X (e::es) y)(P:∀ i h q,(X7 i h q).lookup m=none:=by intros;rfl)(b:starEach (e::es) X.env=(false,eval e X.env)::starEach es X.env:=by rfl)(d:(backTo pos (starEach es X.env)).any (·.1)=false:=by rfl) (I:eval (.Call (.Attribute o m apos) (e::es) [] pos) X.env=(do
 let ov<-eval o X.env
 standAt apos.atName
 let (f,first)<-holding [ov] (getMethod ov m pl)
 callWith pos f first (backTo pos (starEach (e::es) X.env)) (backToKw pos (keywordEach [] X.env))):=by rfl) :
 XE E cl X (.Call (.Attribute o m apos) (e::es) [] pos) (tL f y):=by
 obtain⟨U,D,z⟩:=B
 obtain⟨t,G,K⟩:=C
 refine⟨_,uJ (E:=λ_ _ _=>False) (pl:=pl) D c L F R S .nil gK G b d I,λu x F0 H j Q s n e w=>?_⟩
 obtain⟨r,O,l⟩:=u4.mp e
 refine z u x F0 H r _ s n O λF1 H1 v a N=>?_
 cases r with
 |obj w' W J =>
  obtain⟨p,A,q',i,h,T,rfl,M,Z,aw,Y,V⟩:=N.obj_inv
  refine⟨p,A,_,rfl,a.fh _ _ M,P _ _ _,?_⟩
  exact K u x F1 H1 j _ a.fh (n.mono a.ff) l (w.grow a)
 |_=>cases l
theorem zmw {pl:Sem Bool}(c:cP X.K KK.dk)(J:eO X.K KK.dk m g)(F:xt X.prog X.w X.K X.mg X.base (aR X.prog X.w) k g fd ps (iY cl n r))(K:wJ (aR X.prog X.w) X E)(R:xc k X.A)(S:xx X.K fd ps [])(A:ED X o f)
 (P:∀ i h q,(X7 i h q).lookup m=none:=by intros;rfl)
 (G:eval (.Call (.Attribute o m apos) [] [] pos) X.env=(do
  let ov<-eval o X.env
  standAt apos.atName
  let (f,first)<-holding [ov] (getMethod ov m pl)
  callWith pos f first (backTo pos (starEach [] X.env)) (backToKw pos (keywordEach [] X.env))):=by rfl) :
 XE E cl X (.Call (.Attribute o m apos) [] [] pos) (kE n r f (λ_=>some [])):=by
 obtain⟨V,C,y⟩:=A
 refine⟨_,Qc (pl:=pl) C c J F R S .nil K G,λM T F0 H j Q s D e w=>?_⟩
 obtain⟨u,N,l⟩:=u4.mp e
 refine y M T F0 H u _ s D N λF1 H1 v a t=>?_
 cases u with
 |obj O I d =>
  obtain⟨Z,x,b⟩:=u4.mp l
  cases x
  split at b <;> try cases b
  rename_i B
  obtain⟨p,z,q',i,h,U,rfl,L,hq,aw,Y,W⟩:=t.obj_inv
  refine⟨p,z,_,rfl,a.fh _ _ L,P _ _ _,?_⟩
  exact⟨[.obj O I d],j,F1,B,a.fh,.cons t .nil,b,w.grow a⟩
 |_=>cases l
end
end
def ux [KK]{x1}(h:XA E cl X es fx):XE E cl X (.Tuple es x1 pos) fx:=by
 obtain⟨t,d,b⟩:=h
 exact⟨_,lJ d,λa f F H j Q s c e w=>b a f F H j _ s c e w⟩
def jq (i:Nat)(c:D->D->zk->zk->Bool)(b:yE)(f g:SE->Option (D × SE)):SE->Option (D × SE):=λa=>if (match a[i]? with
 |some (.k w h p)=>(match b (visG a) with
  |some d=>c w h p.l d
  |none=>false)
 |_=>false) then f a else g a
def zpH [KK]{f g:SE->Option (D × SE)}(h1:KE X e f)(h2:KE X e g):KE X e (jq i c fa f g):=by
 obtain⟨x,t,u⟩:=h1
 obtain⟨q,o,v⟩:=h2
 refine⟨λa H Q=>x a H Q\/q a H Q,λb s a H Q I h=>h.elim (t b s a H Q I) (o b s a H Q I),λFb Hb F H l a Q d j m h k=>?_⟩
 unfold jq at h
 by_cases n:(match l[i]? with
  |some (.k w h p)=>(match fa (visG l) with
   |some r=>c w h p.l r
   |none=>false)
  |_=>false)=true
 .rw[q4 n]at h
  exact .inl (u Fb Hb F H l a Q d j m h k)
 .rw[j4 n]at h
  exact .inr (v Fb Hb F H l a Q d j m h k)
section
variable [KK]{X:Cx}
def Ld (c:X.A.units+64<cLine):aP X (compareOp .In) (jX false):=by
 intro D s P H x y v u Q I M E h
 obtain⟨F,d,e,B,b,t,N,G,J,w,q⟩:=h
 unfold dR at w
 split at w <;> cases w
 rename_i l
 have K:X.A.in1.units+20<cLine:=by show X.A.units+1+20<cLine;omega
 have i:∀ {g:zy} {n:zz},aq F B g->ym g n->∀ z∈n,SeqAt.EqAt X.A.in1 s z v (Z5 F d z):=λ{g n} f r z c=>by
  obtain⟨j,L,rfl⟩:=iK c
  obtain⟨O,A,k⟩:=f.nth r L
  have m:j<B.length:=by have:=f.length;have:=r.length;omega
  have C:=xN l.2 m
  rw[Xl A k C]
  exact Vt I t 20 C l.1 A N k M K
 cases e <;> cases J
 .obtain⟨p,g,rfl,o,f⟩:=G.tup_inv
  cases E
  obtain⟨a,r,pl,c⟩:=I.tuple (aJ.of (t _ _ o))
  refine SeqAt.in_tupleAt (Z5 F d) pl (λz c=>i f r z (by simpa using c)) ⟨.bl _,H,I,rfl,?_⟩
  rw[show a.toArray.any (Z5 F d)=a.any (Z5 F d) by simp,Yn f r l.2]
  exact q
 .obtain⟨p,g,rfl,o,f⟩:=G.lst_inv
  cases E
  obtain⟨a,r,pl,c⟩:=I.list (aK.of (t _ _ o))
  refine SeqAt.in_listAt (Z5 F d) pl.isList (λz c=>i f r z (by simpa using c)) ⟨.bl _,H,I,rfl,?_⟩
  rw[show a.toArray.any (Z5 F d)=a.any (Z5 F d) by simp,Yn f r l.2]
  exact q
end
section
variable [KK]{cl:Nat->Addr}{i:Nat}
def nJ (f:Nat->Option D)(g:Nat->Option zk)(e c:Nat->Option D):Nat->Option D:=λj=>(f j).bind λd=>(g j).bind λa=>if a.length<=1000 then (dR d a).bind λb=>if b then e j else c j else none
def Nq {t:TE}{I:TA}{f:Nat->Option D}{g:Nat->Option zk}{K E:TS}{G B:Nat->Option D}(h:SX cl i t f)(T:qP cl i I g)(N:RU cl i K G)(O:RU cl i E B):RU cl i (mV (Cw (jx (iW (jX false) t (qj I))) K Dq) E) (nJ f g G B):=λj d u H a r D' e m k=>by
 unfold nJ at e
 obtain⟨n,U,e⟩:=u4.mp e
 obtain⟨A,z,e⟩:=u4.mp e
 split at e <;> try cases e
 rename_i L
 obtain⟨b,V,e⟩:=u4.mp e
 refine h j _ u H a r _ U m λH1 v J P=>?_
 refine T j _ u H1 a r _ z (m.mono J) λH2 y R C=>⟨?_,λp S=>?_⟩
 .rw[(C H).length]
  exact p6 (wa L)
 .have Q:zS H2 (aA H2 p (.tup y)):=λc o q=>by rw[zj (zf q S)];exact q
  have x:=J.trans (R.trans Q)
  refine⟨_,n,.tup A,A,b,zS.refl _,P _,At.tup zl (C _),rfl,V,b,rfl,?_⟩
  have l:∀ H3 w,(∀ F,zS F (aA H2 p (.tup y))->∃ F',Gr F (aA H2 p (.tup y)) F' H3/\At F' d w)->D'.rt w H3:=λH3 w q=>k H3 w λF s=>by
   obtain⟨F',g,M⟩:=q F (s.trans x)
   exact⟨F',(Gr.more s x).trans g,M⟩
  cases b with
  |true=>exact N j d u _ a r _ e (m.mono x) l
  |false=>exact O j d u _ a r _ e (m.mono x) l
end
def sO:zk->Bool
 |.int _::r=>dI r
 |_=>false
def gM:zk->Bool
 |[]=>true
 |.tup _::_=>true
 |_=>false
def Sl.tH:Sl->Bool
 |.o a=>gM a
 |.k _ _ p=>gM p.l
 |_=>true
def nF (f:zU):SE->Option (D × SE):=λa=>match f (visG a) with
 |some (.lst ds)=>if sO ds=true/\a.all Sl.tH then some (.lst ds,a)else none
 |_=>none
def JH [KK](ht:gM b=true)(al:aq F b (.int a::ys)):False:=by
 cases b with
 |nil=>cases al.nil_inv
 |cons d f =>
  obtain⟨x,g,e,c,_⟩:=al.cons_inv
  cases e
  cases d with
  |tup b =>
   obtain⟨p,h,e,_⟩:=c.tup_inv
   cases e
  |_=>cases ht
def R9 [KK]{f:zU}(h:ED X e f):KE X e (nF f):=by
 obtain⟨t,p,r⟩:=h
 refine⟨t,p,λFb Hb F H ρ M Q d a0 j e k=>?_⟩
 unfold nF at e
 split at e <;> try cases e
 rename_i ds hd
 split at e <;> cases e
 rename_i hc
 obtain⟨x,hT⟩:=hc
 obtain⟨a,u,rfl,hn⟩:∃ a u,ds=.int a::u/\dI u=true:=by
  unfold sO at x
  split at x
  .exact⟨_,_,rfl,x⟩
  .cases x
 refine r M _ _ H _ _ j.gh j.visG hd λG' H' v g av=>?_
 obtain⟨I,fl⟩:=j.back g
 obtain⟨p,S,rfl,L,J⟩:=av.lst_inv
 obtain⟨y,ys,rfl,a1,_⟩:=J.cons_inv
 cases a1.int_inv
 have C:¬ qT ρ M H p:=λG=>by
  obtain⟨i,s,r',A,e2,N,e4⟩:=id G
  have K:s.tH=true:=o5.mp hT s (o0 A)
  obtain⟨_,_,o,l,_⟩:=j.own G
  have:G' p≈o:=g.ff p _ (by unfold cI;rw[q4 G];exact l)
  rw[L]at this
  cases this
  rcases e4 with rfl|⟨O,dx,vw,T,W⟩
  .obtain⟨p',o',n,_,_,B,b⟩:=j.ows i s A e2
   rw[N]at n
   cases n
   rw[l]at B
   cases B
   cases s with
   |no=>exact b.elim
   |v d=>exact b.elim
   |o es =>
    obtain⟨zs,c,Z⟩:=b
    cases c
    exact JH K Z
   |m t O vs =>
    obtain⟨zs,c,_⟩:=b
    unfold cR at c
    split at c
    .obtain⟨E,z,_⟩:=c;cases z
    .obtain⟨E,z,_⟩:=c;cases z
   |k w d P=>obtain⟨dx,vw,T,q,c,_⟩:=b;cases c
  .obtain⟨w,d,P,rfl⟩:=Sl.isK_eq O
   obtain⟨p',a2,q,Y,V,S,n,R,f3,B,b,U,_⟩:=j.dk i w d P A
   rw[N]at n
   cases n
   rw[W]at R
   cases Dm R
   rw[l]at b
   cases b
   exact JH K U
 exact k _ H' _ I.ff (j.grow I) (.lst (by unfold je;rw[j4 C];exact L) (J.flat fl (show dI (.int a::u)=true from hn)))
end Dl
namespace Dl
open PySem L2 PySem.Spec PyProof PyProof.Rows
section
variable {prog:zM}{w:World}{A:zN}{E:yI}{s:zn}
def zeR {g t:Addr}{a:wb}(m:t≠g):∀ (n i:Nat) (s:zn) (Q:zz->Shared->Prop),s.heap.IsListIter g t i->s.heap.IsList t a->i+n<=a.size ->
 (∀ k,k.IsListIter g t (i+n)->Heap.SameBut g s.heap k->Q ((a.toList.drop i).take n) { s with heap:=k })->wpAny (model prog w) A (draw (.ref g) n) Q E s:=by
 intro n
 induction n with
 |zero =>
  intro i s Q e _ _ l
  show wpAny _ _ (pure []) Q E s
  exact t5 (by simpa using l s.heap e (Heap.SameBut.refl ..))
 |succ n u =>
  intro i s Q e o r l
  have h:i<a.size:=by omega
  show wpAny _ _ (pyNext (.ref g)>>=_) Q E s
  refine u5 (wpAny_pyNext_list_item e o (x:=a[i]) (by simp[h]) λp d b=>?_)
  refine u5 (o9 (u (i+1) _ _ d (o.extBut b.extBut m) ∅ λj c f=>t5 ?_))
  have q:a.toList.drop i=a[i]::a.toList.drop (i+1):=by simp[i5,h]
  have:=l j (by rw[show i+(n+1)=i+1+n by omega];exact c) (b.trans f)
  rw[q,Gw]at this
  exact this
def Z3 {x1}{t:Addr}{items:wb}(hh:A.handled=none)(ht:s.heap.IsList t items)(hn:(assignEach a env).length=items.size)(hstar:(assignEach a env).findIdx? (·.1)=none)(h:∀ m,Heap.ExtBut s.heap.objs.size s.heap m->wpAny (model prog w) A (assignInOrder ((assignEach a env).map (·.2)) items.toList) Q E { s with heap:=m }) :
 wpAny (model prog w) A (assign (.Tuple a x1 pos) env (.ref t)) Q E s:=by
 rw[assign_Tuple]
 refine u5 (jC ?_)
 unfold unpack
 rw[hn,hstar]
 refine u5 (o9 ?_)
 have j:t≠s.heap.objs.size:=by obtain⟨o,p,_⟩:=ht;exact j9 (q7 p)
 unfold unpackItems
 refine u5 ?_
 unfold notIterableAtAll
 refine u5 (wpAny_specialOf ht.typeIs slot_list_iter.lookup ?_)
 refine t5 ?_
 simp only[my,fB]
 refine u5 (o9 (jL ht ?_))
 refine u5 (o9 (zeR j items.size 0 _ _ ⟨_,j5 _ rfl,rfl,rfl⟩ (ht.push _) ∅ λl d c=>?_))
 have k:List.take items.size (List.drop 0 items.toList)=items.toList:=by
  rw[Gh];exact Bt (by simp)
 rw[k]
 rw[j4 (by simp)]
 have g:l.IsList t items:=(ht.push _).extBut c.extBut j
 refine u5 (o9 (wpAny_pyNext_list_end hh d g (by simp) λi f=>?_))
 simp only[Option.isSome_none,my,fB]
 exact t5 (h i λb o n e=>f b o n (c.extBut b o n (u6 _ e)))
end
section
variable [KK]{X:Cx}{pos:Pos}
def Io (K:zx)(n:Nat)(t:ir):TG:=λv c H Q=>∃ a b,v=.ref a/\aK K H a b/\b.length=n/\t b c H Q
def Uz {d:yO}{k:Nat}{t:ir}{n:Nat}(x:X.calm=true)(h:mL X d t)
 (y:(assignEach d X.env).length=n:=by rfl) (f:(assignEach d X.env).findIdx? (·.1)=none:=by rfl):PG X (.Tuple d k pos) (Io X.K n t):=by
 intro c s i H v u Q I r hw
 obtain⟨a,l,w,p,q,hw⟩:=hw
 subst w
 cases r
 obtain⟨z,g,A,B⟩:=I.list p
 refine Z3 (I.ok.hd x) A.isList (by simp[y,<- q,g.length]) f λj m=>?_
 have I1:aa X c i H { s with heap:=j }:=I.kept (t':=s.toks) λb o e=>m b o (j9 (q7 e)) e
 exact h c _ i H l _ Q I1 (by simpa using g) hw
def rK (n:Nat)(c:zk->SE->Option SE):vA
 |.lst ds,ρ=>if ds.length=n then c ds ρ else none
 |_,_=>none
def Tj {k:Nat}{n:Nat}(x:X.calm=true)(h:mU X b c)(y:(assignEach b X.env).length=n:=by rfl)(f:(assignEach b X.env).findIdx? (·.1)=none:=by rfl):BD X (.Tuple b k pos) (rK n c):=by
 obtain⟨t,p,r⟩:=h
 refine⟨_,Uz x p y f,λFb Hb F H z g w d v Q i o e q=>?_⟩
 cases d with
 |lst u =>
  unfold rK at e
  dsimp only at e
  split at e
  .rename_i m
   obtain⟨a,j,rfl,s,l⟩:=o.lst_inv
   exact⟨a,j,rfl,aK.of (i.gr.fh _ _ s),by rw[l.length];exact m,r Fb Hb F H z g w u j Q i l e q⟩
  .cases e
 |_=>cases e
end
end Dl
namespace Dl
open PySem L2 PySem.Spec PyProof.Rows
section
variable [KK]
variable {Fb Hb O F H F' H':Hp}
open Classical in
noncomputable def frz (O F:Hp):Hp:=λp=>match F p with
 |some o=>some o
 |none=>O p
variable {x dx q:Addr}{c:D × D × zk}
def DkO (O F:Hp)(x dx q:Addr)(c:D × D × zk):Prop:=∃ d b a,O x≈(.ins KK.dk dx (X7 d b q))/\O q≈(.lst a)/\At F c.1 d/\At F c.2.1 b/\aq F c.2.2 a
structure gb (O F:Hp) (ad dx:Nat->Addr) (c:Nat->D × D × zk) (Rs As:Nat->zk):Prop where
 inj:∀ i j,i<11->j<11->ad i=ad j->i=j
 hD:O (ad 4)≈(.lst [.ref (ad 0),.ref (ad 2)])
 hR:O (ad 7)≈(.lst [.ref (ad 5),.ref (ad 6)])
 hS:O (ad 10)≈(.lst [.ref (ad 8),.ref (ad 9)])
 dk:∀ i,i<2->DkO O F (ad (2*i)) (dx i) (ad (2*i+1)) (c i)
 rw:∀ i,i<2->∃ vs,O (ad (5+i))≈(.lst vs)/\aq F (Rs i) vs
 an:∀ i,i<2->∃ vs,O (ad (8+i))≈(.lst vs)/\aq F (As i) vs
variable {ad dxs:Nat->Addr}{cs:Nat->D × D × zk}{Rs As:Nat->zk}
end
end Dl
namespace Dl
open PySem L2
structure fJ where
 x:Str
 ps:zG
 ex:zG
 st:Stmt
abbrev fJ.N (r:fJ):zG:=r.ps++r.ex
def fJ.scB (r:fJ):Bool:=decide ((zm r.st).kind=.function/\(zm r.st).isCoroutine=false/\(zm r.st).isGenerator=false/\r.N.Nodup/\(∀ x∈r.ps,(zm r.st).names.lookup x≈.local\/(zm r.st).names.lookup x≈.cell)/\∀ y∈(zm r.st).names,y.2≠.free)
def fJ.sc {r:fJ}(h:r.scB=true):yz r.N r.ps (zm r.st):=by
 obtain⟨a,b,c,d,e,f⟩:=k9 h
 exact⟨a,b,c,d,List.take_left' rfl,e,f⟩
def Py {a:Type}{p:a->Prop}{l:List a}{d:a}(h:∀ x∈l,p x)(b:p d)(i:Nat):p (l.getD i d):=by
 rw[l4]
 cases e:l[i]? with
 |none=>exact b
 |some y=>exact h y (o0 e)
def Dx (K:zx)(b:wm)(d:Vh)(r:fJ):Prop:=∃ f a,jh K b r.x r.st r.ps f a/\∀ c,d.lookup r.x≈c->a.code=.ref c
structure KR (b:Bool):Prop where
 h:b=true
structure UR {α:Type} (a b:α):Prop where
 h:a=b
def rR {l:zG}(h:decide l.Nodup=true):l.Nodup:=k9 h
section
variable [KK]{X:Cx}{x:Str}{elt iter c:Expr}{tp:Pos}{scope:Scope}{cl:Vh}{pos:Pos}{fi:yE}{ft:vz}{fe:zU}{rn dn:List (Str × NameKind)}{cn N:zG}
def R7 (j:KR (decide (x::X.N).Nodup))(m:X.calm=true)(c:ID X (.Name x tp) iter fi)(k:(relabel scope X.env).names=rn)(b:X.env.scope.names=dn)(h:X.N=N)(e:UR (closureFor scope X.env) (pure cl))(l:scope.kind=.function)(o:cl.map Prod.fst=cn)(d:KR (vc scope.names rn dn N X.N cn))(f:∀ p∈cl,X.env.cells.lookup p.1≈p.2)
 (a:∀ s₀ H₀ ex pn,bY (YY X [x] X.N scope cl s₀ H₀ ex pn).env.scope x/\(YY X [x] X.N scope cl s₀ H₀ ex pn).env.scope.names.lookup x≈.local) (n:∀ s₀ H₀ ex pn,ED (YY X [x] X.N scope cl s₀ H₀ ex pn) elt fe)
 (g:∀ x,foldedSetIterable iter X.env x=pure x):FL X (.ListComp elt [⟨.Name x tp,iter,[],0⟩] scope pos) (aV fi b1 xh fe) :=
 lL (L:=[x]) (M:=X.N) m (Yt k b h e.h l o d.h f) c eX eV (λ_ _ _ _=>yi (i:=0) (rR j.h) rfl (a _ _ _ _).1 (.inr (a _ _ _ _).2)) n g
def Tc (l:KR (decide (x::X.N).Nodup))(o:X.calm=true)(d:ID X (.Name x tp) iter fi)(m:(relabel scope X.env).names=rn)(b:X.env.scope.names=dn)(k:X.N=N)(f:UR (closureFor scope X.env) (pure cl))(n:scope.kind=.function)(r:cl.map Prod.fst=cn)(e:KR (vc scope.names rn dn N X.N cn))(h:∀ p∈cl,X.env.cells.lookup p.1≈p.2)
 (a:∀ s₀ H₀ ex pn,bY (YY X [x] X.N scope cl s₀ H₀ ex pn).env.scope x/\(YY X [x] X.N scope cl s₀ H₀ ex pn).env.scope.names.lookup x≈.local) (g:∀ s₀ H₀ ex pn,TD (YY X [x] X.N scope cl s₀ H₀ ex pn) c ft) (q:∀ s₀ H₀ ex pn,ED (YY X [x] X.N scope cl s₀ H₀ ex pn) elt fe)
 (j:∀ x,foldedSetIterable iter X.env x=pure x):FL X (.ListComp elt [⟨.Name x tp,iter,[c],0⟩] scope pos) (aV fi b1 ft fe) :=
 TY (L:=[x]) (M:=X.N) o (Yt m b k f.h n r e.h h) d eX eV (λ_ _ _ _=>yi (i:=0) (rR l.h) rfl (a _ _ _ _).1 (.inr (a _ _ _ _).2)) g q j
def U0 {i:Nat}{a:Pos}(j:KR (decide (x::X.N).Nodup))(r:X.N.Nodup)(g:X.N[i]?≈y)(c:bY X.env.scope y)(o:X.calm=true)(q:ID X (.Name x tp) iter fi)(k:(relabel scope X.env).names=rn)(n:X.env.scope.names=dn)(h:X.N=N)(t:UR (closureFor scope X.env) (pure cl))(l:scope.kind=.function)(v:cl.map Prod.fst=cn)(s:KR (vc scope.names rn dn N X.N cn))(w:∀ p∈cl,X.env.cells.lookup p.1≈p.2)(d:∀ s₀ H₀ ex pn,bY (YY X [x] X.N scope cl s₀ H₀ ex pn).env.scope x/\(YY X [x] X.N scope cl s₀ H₀ ex pn).env.scope.names.lookup x≈.local)(u:∀ s₀ H₀ ex pn,ED (YY X [x] X.N scope cl s₀ H₀ ex pn) elt fe)(f:∀ x,foldedSetIterable iter X.env x=pure x)(b:swapsWith (.ListComp elt [⟨.Name x tp,iter,[],0⟩] scope pos) (some (.Name y e)) a.line X.env=pure true)(m:X.fn y=true\/X.env.scope.names.lookup y≈.local):qZ X i (.Assign [.Name y e] (.ListComp elt [⟨.Name x tp,iter,[],0⟩] scope pos) a) (aV fi b1 xh fe) :=
 uR (L:=[x]) (M:=X.N) r g c o (Yt k n h t.h l v s.h w) q eX eV (λ_ _ _ _=>yi (i:=0) (rR j.h) rfl (d _ _ _ _).1 (.inr (d _ _ _ _).2)) u f b m
def T3 {i:Nat}{f a:Pos}(k:KR (decide (x::X.N).Nodup))(s:X.N.Nodup)(h:X.N[i]?≈y)(d:bY X.env.scope y)(q:X.calm=true)(r:ID X (.Name x tp) iter fi)(l:(relabel scope X.env).names=rn)(o:X.env.scope.names=dn)(j:X.N=N)(u:UR (closureFor scope X.env) (pure cl))(m:scope.kind=.function)(w:cl.map Prod.fst=cn)(t:KR (vc scope.names rn dn N X.N cn))(A:∀ p∈cl,X.env.cells.lookup p.1≈p.2)(e:∀ s₀ H₀ ex pn,bY (YY X [x] X.N scope cl s₀ H₀ ex pn).env.scope x/\(YY X [x] X.N scope cl s₀ H₀ ex pn).env.scope.names.lookup x≈.local)(z:∀ s₀ H₀ ex pn,TD (YY X [x] X.N scope cl s₀ H₀ ex pn) c ft)(v:∀ s₀ H₀ ex pn,ED (YY X [x] X.N scope cl s₀ H₀ ex pn) elt fe)(g:∀ x,foldedSetIterable iter X.env x=pure x)(b:swapsWith (.ListComp elt [⟨.Name x tp,iter,[c],0⟩] scope pos) (some (.Name y f)) a.line X.env=pure true)(n:X.fn y=true\/X.env.scope.names.lookup y≈.local):qZ X i (.Assign [.Name y f] (.ListComp elt [⟨.Name x tp,iter,[c],0⟩] scope pos) a) (aV fi b1 ft fe) :=
 zn5 (L:=[x]) (M:=X.N) s h d q (Yt l o j u.h m w t.h A) r eX eV (λ_ _ _ _=>yi (i:=0) (rR k.h) rfl (e _ _ _ _).1 (.inr (e _ _ _ _).2)) z v g b n
end
def Hw [KK]{f:vz}(h:WD X (.BoolOp op es pos) f):TD X (.BoolOp op es pos) f:=jZ h
def zjx [KK] {X:Cx} {w:World} {k:Nat} {f:Addr} {p:wI} (F:xt P w K mg base aM j f fd ps (bW m p)) (hr:xc k X.A) (hj:j<=k) (d:jh K mg x st ps f fd) (hX:X.prog=P/\X.w=w/\X.K=K/\X.mg=mg/\X.base=base) (hg:Gl X x) (ha:AD X (e::es) fa) (hdb:(x == ("__debug__":Str))=false) (he:starEach (e::es) X.env=(false,eval e X.env)::starEach es X.env) (hpl:(backTo pos (starEach es X.env)).any (·.1)=false) :
 ED X (.Call (.Name x pp) (e::es) [] pos) (zq m p fa):=by
 obtain⟨rfl,rfl,rfl,rfl,rfl⟩:=hX
 exact zF F hr hg d ha hj hdb he hpl
def Dx_cons (h:Dx K a b r)(t:∀ r∈c,Dx K a b r):∀ d∈r::c,Dx K a b d:=List.forall_mem_cons.mpr ⟨h,t⟩
def Z_cons (h:W.nsIn K mainGlobals x≈none)(t:∀ y∈l,W.nsIn K mainGlobals y≈none):∀ y∈x::l,W.nsIn K mainGlobals y≈none:=List.forall_mem_cons.mpr ⟨h,t⟩
def mkX {K:zx}{h:Heap}{g:Vh}{d:Stmt}{n ex:zG}{f:Addr}{t kV:Value}{w:Array (Option Value)}(X:K.In h)(G:h.Ns mainGlobals s)(a:W.nsIn K mainGlobals x≈(some (.ref f)))(l:K.lookup f≈⟨t,u,.func (W.fnOf x x (we d) (ya d) (zm d) .none kV dc i m j ct),w⟩)(c:W.codeIn K j x=true)(k:W.keepIn K (.ref f)=true)(b:∀ (kV q i:Value) (m:yN) (p ct:Value) (o:zz),o.length=n.length->bindArgs (W.fnOf x x (we d) (ya d) (zm d) .none kV q i m p ct) ⟨o,[]⟩=pure (n.zip o))(e:g.lookup x=none\/∃ c,g.lookup x≈c/\j=.ref c):Dx K s g ⟨x,n,ex,d⟩ :=
 ⟨f,W.fnOf x x (we d) (ya d) (zm d) .none kV dc i m j ct,⟨XB l c k,(XB l c k).binds b,f7 X G a⟩,λc h=>by
  rcases e with e|⟨v,e,r⟩
  .rw[show g.lookup x=none from e]at h;cases h
  .rw[show g.lookup x≈v from e]at h;cases h;exact r⟩
def ziY {f:Addr}(F:bQ K x q c f e)(h:∀ (kV b d:Value) (g:yN) (a ct:Value),bindArgs (W.fnOf x q (we c) (ya c) (zm c) .none kV b d g a ct) ⟨[v],[]⟩=pure [(y,v)]):BindsTo s e ⟨[v],[]⟩ [(y,v)]:=by
 obtain⟨j,k,kV,b,d,g,a,ct,i,rfl,_,_⟩:=F.ex
 exact .of_eq (h _ _ _ _ _ _)
section
variable [KK]{E:XK}{cl:Nat->Addr}{X:Cx}{e:Expr}{es:yO}{st:Stmt}{sts:vu}{pos:Pos}{fx:cg}
def tK {g:zD}(d:XS E cl X st b)(c:SD X.nox st g)(e:dO E cl X sts a):dO E cl X (st::sts) (ve b g a):=yr d (SD.nox c) e
def Gf (h:XE E cl X e fx)(a:swapsWith e none pos.line X.env=pure false):XS E cl X (.Expr e pos) (bD fx):=WT h a
def Ge (h:XE E cl X e fx):XS E cl X (.Return (some e) pos) (bD fx):=XQ h
def zk6 {w:World} {k:Nat} {f:Addr} {st:Stmt} (F:xt P w K b a (aR P w) j f i l (iY cl m r)) (o:wJ (aR X.prog X.w) X E) (t:xc k X.A) (p:j<=k) (d:jh K b x st l f i) (q:X.prog=P/\X.w=w/\X.K=K/\X.mg=b/\X.base=a) (n:Gl X x) (s:AD X (e::es) h) (g:(x == ("__debug__":Str))=false) (u:starEach (e::es) X.env=(false,eval e X.env)::starEach es X.env) (c:(backTo pos (starEach es X.env)).any (·.1)=false):XE E cl X (.Call (.Name x v) (e::es) [] pos) (wn m r h):=by
 obtain⟨rfl,rfl,rfl,rfl,rfl⟩:=q
 exact wM (F.mono p) o t n d.at_ d.kp d.bd s g u c
end
end Dl
namespace Mz
open PySem L2 Dl
def ZF:gA:=[("row",[1,8]),("ring",[3,8]),("cube",[0,3]),("full",[1,8]),("star",[1,7])]
def Vn:gC:=[("web",1),("row",1),("ring",1),("cube",1),("full",1),("star",1),("tie",2),("cut",2),("put",2),("step",2),("back",0)]
def zP:gC:=[("heap",0),("ties",0),("steps",0),("far",2),("most",1),("reached",0),("need",1),("shown",0)]
def aQ (i:Nat):Stmt:=PySem.Challenge.pw_twoforone_k92_desk_done.main.body.getD i (.Pass ⟨0,0,0,0⟩)
def rows:List fJ:=[⟨"is_whole",["thing"],[],aQ 18⟩,
 ⟨"is_whole_within",["thing","least","most"],[],aQ 19⟩,
 ⟨"is_place_count",["thing"],[],aQ 22⟩,
 ⟨"is_place",["many","thing"],[],aQ 23⟩,
 ⟨"are_counts",["many","thing"],[],aQ 24⟩,
 ⟨"is_pair",["many","thing"],[],aQ 26⟩,
 ⟨"are_ties",["many","thing"],["at","tie"],aQ 27⟩,
 ⟨"is_web",["thing"],[],aQ 28⟩,
 ⟨"must_be_web",["thing"],[],aQ 29⟩,
 ⟨"must_be_place",["web","thing"],[],aQ 30⟩,
 ⟨"tie_between",["one","other"],[],aQ 31⟩,
 ⟨"web_of",["many","things"],["told","at","thing","tie"],aQ 32⟩,
 ⟨"neighbours",["web","place"],[],aQ 33⟩,
 ⟨"are_stones",["web","thing"],[],aQ 39⟩,
 ⟨"must_be_heap",["web","thing"],[],aQ 40⟩,
 ⟨"is_step",["web","thing"],[],aQ 41⟩,
 ⟨"all_steps",["web"],["found","place"],aQ 42⟩,
 ⟨"steps_from",["web","heap"],[],aQ 43⟩,
 ⟨"stepped",["heap","step"],["stones"],aQ 44⟩,
 ⟨"walk",["web","heap","thing"],["heaps","now","at","step"],aQ 45⟩,
 ⟨"walked",["web","heap","steps"],["told","wrong"],aQ 46⟩,
 ⟨"kind_good",["thing"],["word"],aQ 55⟩,
 ⟨"places_of",["word","size"],[],aQ 56⟩,
 ⟨"are_tied",["word","size","one","other"],[],aQ 57⟩,
 ⟨"web_for",["kind"],["word","size","many","ties","one"],aQ 58⟩,
 ⟨"written",["word","numbers"],[],aQ 72⟩,
 ⟨"shown",["web","heap"],["ties"],aQ 73⟩,
 ⟨"number_written",["word"],[],aQ 74⟩,
 ⟨"parsed",["row"],["words","numbers","wanted"],aQ 78⟩,
 ⟨"bare",["web"],[],aQ 79⟩,
 ⟨"tied",["web","one","other"],[],aQ 80⟩,
 ⟨"cut",["web","one","other"],["gone"],aQ 81⟩,
 ⟨"put",["web","heap","place","stones"],["more"],aQ 82⟩,
 ⟨"step_done",["web","heap","one","other"],[],aQ 83⟩,
 ⟨"after",["web","heap","word","numbers"],[],aQ 84⟩,
 ⟨"answer",["web","heap","word","numbers"],[],aQ 87⟩,
 ⟨"_law_kinds",["e"],["found"],aQ 92⟩,
 ⟨"_law_stir",["cell","k"],["number"],aQ 90⟩,
 ⟨"_law_moved",["heap","step"],["found"],aQ 91⟩,
 ⟨"_law_same",["found","due"],["one","other"],aQ 93⟩,
 ⟨"_law_text",["web","heap","between"],["rows","a","b"],aQ 94⟩,
 ⟨"_law_row",["many","cell"],["number","a","b","word"],aQ 95⟩,
 ⟨"_law_laid",["word","number"],["kind","web"],aQ 96⟩,
 ⟨"_law_next",["word","numbers","web","heap"],["a","b","tie","left"],aQ 97⟩,
 ⟨"_law_said",["desk","row"],["e","found"],aQ 98⟩,
 ⟨"law",["script"],["desk","web","heap","cell","word","numbers","due","found"],aQ 99⟩]
def Rw (i:Nat):fJ:=rows.getD i ⟨"law",["script"],["desk","web","heap","cell","word","numbers","due","found"],aQ 99⟩
def sc (i:Nat):yz (Rw i).N (Rw i).ps (zm (Rw i).st):=fJ.sc (Py (p:=λr:fJ=>r.scB=true) (by decide +kernel) (by decide +kernel) i)
abbrev YX:Stmt:=lM (aQ 11) 0
def zhs:yz ["self","at"] ["self","at"] (zm YX):=⟨rfl,rfl,rfl,by decide +kernel,rfl,by decide +kernel,by decide +kernel⟩
abbrev vf:Stmt:=lM (aQ 12) 0
def zdw:yz ["self","at"] ["self","at"] (zm vf):=⟨rfl,rfl,rfl,by decide +kernel,rfl,by decide +kernel,by decide +kernel⟩
abbrev yD:Stmt:=lM (aQ 88) 0
def X2:yz ["self"] ["self"] (zm yD):=⟨rfl,rfl,rfl,by decide +kernel,rfl,by decide +kernel,by decide +kernel⟩
abbrev wy:Stmt:=lM (aQ 88) 1
def yH:yz ["self","row","told","word"] ["self","row"] (zm wy):=⟨rfl,rfl,rfl,by decide +kernel,rfl,by decide +kernel,by decide +kernel⟩
abbrev xq:Stmt:=lM (aQ 88) 2
def zaz:yz ["self","state"] ["self","state"] (zm xq):=⟨rfl,rfl,rfl,by decide +kernel,rfl,by decide +kernel,by decide +kernel⟩
abbrev yK:Stmt:=lM (aQ 88) 3
def vi:yz ["self","state"] ["self"] (zm yK):=⟨rfl,rfl,rfl,by decide +kernel,rfl,by decide +kernel,by decide +kernel⟩
structure cL where
 f:Nat->Addr
 e:Nat->FuncData
 s_DEEDS:Addr
 s_QUESTIONS:Addr
 dk:Addr
 f_Desk___init__:Addr
 e_Desk___init__:FuncData
 f_Desk_say:Addr
 e_Desk_say:FuncData
 f_Desk_go_on:Addr
 e_Desk_go_on:FuncData
 f_Desk_go_back:Addr
 e_Desk_go_back:FuncData
 t_MOST_PLACES:Tok
 t_MOST_STONES:Tok
 t_MOST_FIGURES:Tok
 s_SIZES:Addr
 x_NoWeb:Addr
 x_NoKind:Addr
 x_NoHeap:Addr
 x_NoPlace:Addr
 x_NoNumber:Addr
 x_NoTally:Addr
 x_NotTree:Addr
 x_NotJoined:Addr
 x_NoWeights:Addr
 x_NoRow:Addr
 x_NoSteps:Addr
 x_NoText:Addr
 x_TooGreat:Addr
 x_StoneError:Addr
 i_NoWeb:Addr
 j_NoWeb:FuncData
 i_NoSteps:Addr
 j_NoSteps:FuncData
def fO (a:cL):xW:=[a.x_NoWeb,a.x_NoKind,a.x_NoHeap,a.x_NoPlace,a.x_NoNumber,a.x_NoTally,a.x_NotTree,a.x_NotJoined,a.x_NoWeights,a.x_NoRow,a.x_NoSteps,a.x_NoText,a.x_TooGreat]
def aW (a:cL)(j:Nat):Addr:=(fO a).getD (j%16) 0
def cT (a:cL)(j:Nat):aW a j=aW a (j%16):=by unfold aW;rw[Nat.mod_mod]
def zs:zG:=["ValueError","all","bool","enumerate","int","isinstance","len","list","max","min","range","sorted","str","sum","tuple","zip"]
structure Txt (P:zM) (w:World) (K:zx) (mg:wm) (base:Heap) (ad:cL):Prop where
 d:∀ i,jh K mg (Rw i).x (Rw i).st (Rw i).ps (ad.f i) (ad.e i)
 z:∀ x∈zs,mg x=none
 g_DEEDS:mg "DEEDS"≈(Value.ref ad.s_DEEDS)
 b_DEEDS:∀ h:Heap,K.In h->PyProof.Rows.KTD.TextTab h ad.s_DEEDS (Zo Vn)
 g_QUESTIONS:mg "QUESTIONS"≈(Value.ref ad.s_QUESTIONS)
 b_QUESTIONS:∀ h:Heap,K.In h->PyProof.Rows.KTD.TextTab h ad.s_QUESTIONS (Zo zP)
 g_Desk:mg "Desk"≈(Value.ref ad.dk)
 dkc:iu K ad.dk
 mkd:Mk K ad.dk ad.f_Desk___init__
 mf_Desk___init__:bQ K "__init__" "Desk.__init__" yD ad.f_Desk___init__ ad.e_Desk___init__
 mb_Desk___init__:xx K ad.e_Desk___init__ ["self"] []
 mf_Desk_say:bQ K "say" "Desk.say" wy ad.f_Desk_say ad.e_Desk_say
 mb_Desk_say:xx K ad.e_Desk_say ["self","row"] []
 mm_Desk_say:eO K ad.dk "say" ad.f_Desk_say
 mf_Desk_go_on:bQ K "go_on" "Desk.go_on" xq ad.f_Desk_go_on ad.e_Desk_go_on
 mb_Desk_go_on:xx K ad.e_Desk_go_on ["self","state"] []
 mm_Desk_go_on:eO K ad.dk "go_on" ad.f_Desk_go_on
 mf_Desk_go_back:bQ K "go_back" "Desk.go_back" yK ad.f_Desk_go_back ad.e_Desk_go_back
 mb_Desk_go_back:xx K ad.e_Desk_go_back ["self"] []
 mm_Desk_go_back:eO K ad.dk "go_back" ad.f_Desk_go_back
 g_MOST_PLACES:mg "MOST_PLACES"≈(Value.int 8 ad.t_MOST_PLACES)
 g_MOST_STONES:mg "MOST_STONES"≈(Value.int 300 ad.t_MOST_STONES)
 g_MOST_FIGURES:mg "MOST_FIGURES"≈(Value.int 3 ad.t_MOST_FIGURES)
 g_SIZES:mg "SIZES"≈(Value.ref ad.s_SIZES)
 b_SIZES:∀ h:Heap,K.In h->PyProof.Rows.KTD.TextTab h ad.s_SIZES (oM ZF)
 g_NoWeb:mg "NoWeb"≈(Value.ref ad.x_NoWeb)
 g_NoKind:mg "NoKind"≈(Value.ref ad.x_NoKind)
 g_NoHeap:mg "NoHeap"≈(Value.ref ad.x_NoHeap)
 g_NoPlace:mg "NoPlace"≈(Value.ref ad.x_NoPlace)
 g_NoNumber:mg "NoNumber"≈(Value.ref ad.x_NoNumber)
 g_NoTally:mg "NoTally"≈(Value.ref ad.x_NoTally)
 g_NotTree:mg "NotTree"≈(Value.ref ad.x_NotTree)
 g_NotJoined:mg "NotJoined"≈(Value.ref ad.x_NotJoined)
 g_NoWeights:mg "NoWeights"≈(Value.ref ad.x_NoWeights)
 g_NoRow:mg "NoRow"≈(Value.ref ad.x_NoRow)
 g_NoSteps:mg "NoSteps"≈(Value.ref ad.x_NoSteps)
 g_NoText:mg "NoText"≈(Value.ref ad.x_NoText)
 g_TooGreat:mg "TooGreat"≈(Value.ref ad.x_TooGreat)
 g_StoneError:mg "StoneError"≈(Value.ref ad.x_StoneError)
 c_NoKind:W.excIn K ad.x_NoKind il "ValueError.__new__"=true
 c_NoHeap:W.excIn K ad.x_NoHeap il "ValueError.__new__"=true
 c_NoPlace:W.excIn K ad.x_NoPlace il "ValueError.__new__"=true
 c_NoRow:W.excIn K ad.x_NoRow il "ValueError.__new__"=true
 y_NoWeb:vH K (fO ad) ad.x_StoneError ad.x_NoWeb 0=true
 y_NoKind:vH K (fO ad) ad.x_StoneError ad.x_NoKind 1=true
 y_NoHeap:vH K (fO ad) ad.x_StoneError ad.x_NoHeap 2=true
 y_NoPlace:vH K (fO ad) ad.x_StoneError ad.x_NoPlace 3=true
 y_NoRow:vH K (fO ad) ad.x_StoneError ad.x_NoRow 9=true
 y_NoSteps:vH K (fO ad) ad.x_StoneError ad.x_NoSteps 10=true
 fi_NoWeb:bQ K "__init__" "NoWeb.__init__" YX ad.i_NoWeb ad.j_NoWeb
 bi_NoWeb:xx K ad.j_NoWeb ["self","at"] []
 ei_NoWeb:jj K ad.x_NoWeb ad.i_NoWeb=true
 ea_NoWeb:VA K ad.x_NoWeb=true
 na_NoWeb:jT K ad.x_NoWeb ["at"]=true
 fi_NoSteps:bQ K "__init__" "NoSteps.__init__" vf ad.i_NoSteps ad.j_NoSteps
 bi_NoSteps:xx K ad.j_NoSteps ["self","at"] []
 ei_NoSteps:jj K ad.x_NoSteps ad.i_NoSteps=true
 ea_NoSteps:VA K ad.x_NoSteps=true
 na_NoSteps:jT K ad.x_NoSteps ["at"]=true
def RD:(["number","word","numbers"]:zG).Nodup:=by decide +kernel
def Sx:(["tie","web","heap","ties"]:zG).Nodup:=by decide +kernel
def Tf:(["sign","word"]:zG).Nodup:=by decide +kernel
def Ji:(["part","row","words","numbers","wanted"]:zG).Nodup:=by decide +kernel
def Tv:(["stones","web","heap","between","rows","a","b"]:zG).Nodup:=by decide +kernel
def K9:(["number","script","desk","web","heap","cell","word","numbers","due","found"]:zG).Nodup:=by decide +kernel
def Txt.at {w:World}{b:cL}(T:Txt P w K c a b)(h:(Rw i).x=x):jh K c x (Rw i).st (Rw i).ps (b.f i) (b.e i):=h ▸ T.d i
abbrev Txt.Pr {P:zM}{w:World}{K:zx}{c:wm}{a:Heap}{b:cL}(_:Txt P w K c a b)(i k n:Nat)(p:wI):Prop:=xt P w K c a aM k (b.f i) (b.e i) (Rw i).ps (@bW ⟨K,b.dk⟩ n p)
def Txt.go {w:World}{d:wm}{c:cL}(T:Txt P w K d a c){k:Nat}{g:zD}(h:∀ (b:Value) (A:zN) (outer:List Env) (s:zn) (H:Hp) (E:XK),xc k (A.deeper (PyProof.Rows.envOfC (Rw i).x (zm (Rw i).st) s.heap.objs.size (c.f i) b))->@bM ⟨K,c.dk⟩ (vd aM P w K d a (Rw i).N (Rw i).x (zm (Rw i).st) (c.f i) b A outer s H E).nox (ya (Rw i).st) g):T.Pr i (k+1) (Rw i).ps.length (aH (Rw i).N.length g) :=
 letI:KK:=⟨K,c.dk⟩
 Ws (N:=(Rw i).N) (ps:=(Rw i).ps) (T.d i).fn (sc i) (g:=g) h
abbrev Txt.Px {P:zM}{w:World}{K:zx}{c:wm}{a:Heap}{b:cL}(_:Txt P w K c a b)(i k n:Nat)(p:fU):Prop:=xt P w K c a (aR P w) k (b.f i) (b.e i) (Rw i).ps (@iY ⟨K,b.dk⟩ (aW b) n p)
def Txt.gx {w:World}{d:wm}{b:cL}(T:Txt P w K d a b){k:Nat}{gx:yW}(h:∀ (c:Value) (A:zN) (outer:List Env) (s:zn) (H:Hp) (E:XK),xc k (A.deeper (PyProof.Rows.envOfC (Rw i).x (zm (Rw i).st) s.heap.objs.size (b.f i) c))->@dO ⟨K,b.dk⟩ E (aW b) (vd (aR P w) P w K d a (Rw i).N (Rw i).x (zm (Rw i).st) (b.f i) c A outer s H E) (ya (Rw i).st) gx):T.Px i (k+1) (Rw i).ps.length (cY (Rw i).N.length gx) :=
 letI:KK:=⟨K,b.dk⟩
 v9 (cl:=aW b) (N:=(Rw i).N) (ps:=(Rw i).ps) (T.d i).fn (sc i) (gx:=gx) h
local macro_rules|`(tactic|walk_at "c")=>`(tactic|first
 |rfl
 |assumption
 |decide
 |exact (sc _).nd
 |exact ⟨rfl,rfl,rfl,rfl,rfl⟩
 |exact Or.inl rfl
 |exact Or.inr rfl
 |exact Or.inr (Or.inl rfl)
 |exact Or.inr (Or.inr rfl)
 |exact Txt.at ‹_› rfl
 |exact Txt.z ‹_› _ ⋯
 |exact yx _
 |exact Ag
 |exact yw
 |exact xc.mono ‹_› ∅
 |exact fun _=>rfl
 |exact fun _ _=>rfl
 |exact ⟨Or.inl rfl,rfl⟩
 |omega
 |exact wU
 |exact all_cons rfl wU
 |exact all_cons rfl (all_cons rfl wU)
 |exact all_cons rfl (all_cons rfl (all_cons rfl wU))
 |exact vg (v:=.ty "bool") rfl (Txt.z ‹_› _ ⋯) Oe rfl
 |exact vg (v:=.ty "int") rfl (Txt.z ‹_› _ ⋯) Dv rfl
 |exact vg (v:=.ty "list") rfl (Txt.z ‹_› _ ⋯) uT rfl
 |exact vg (v:=.ty "str") rfl (Txt.z ‹_› _ ⋯) Yx rfl
 |exact vg (v:=.ty "tuple") rfl (Txt.z ‹_› _ ⋯) Fy rfl
 |exact Zv l6 PySem.F.slot_list_extend PySem.F.type_list_extend zie ‹_› ‹_›
 |exact xc.units0 ‹_›
 |with_unfolding_all rfl
 |kernel_rfl)
local macro_rules|`(tactic|walk_at "s")=>`(tactic|repeat' first
 |((with_reducible show @Eq _ _ _);first|rfl|exact Txt.z ‹_› _ ⋯|assumption|exact Lf|exact Oe|exact YA|exact Dv|exact XO|exact uT|exact Us|exact zo3|exact Yx|exact Sh|exact Fy|decide|exact yx _|with_unfolding_all rfl|kernel_rfl)
 |((with_reducible show ED _ _ _);first|(with_reducible first|apply aj|exact zw zv|apply yk|exact zR zQ|apply wo|apply vD|apply vZ|exact tu lE|apply UG|apply zoz|apply zoJ|apply Tw|apply Wc|apply zo7|apply zmF|exact VS lK|apply zoa|apply Tq|apply VT|apply RM|(apply zjx;· assumption)|apply vB)|apply Vs (yX ?_) yh|apply xp xP Xt|apply xD zbv zgB|apply xp (ziz ?_) zkW|apply Vs (uf ?_) tY|apply xp (ziO ?_) zn3|apply xp (zhh ?_) zkz|apply Vs lq oK|apply Vs J6 wj|apply Vs gJ wj|apply Vs J9 M3|apply xp (Ql ?_) NZ|apply xD zgV zja|refine zjQ gJ gJ wj wj ?_ ?_ ?_ (fun a b c=>zla gJ gJ a b c)|exact zw (y6 (v:=.int 8) rfl (Txt.g_MOST_PLACES ‹_›) ⟨_,rfl⟩)|exact zw (y6 (v:=.int 300) rfl (Txt.g_MOST_STONES ‹_›) ⟨_,rfl⟩))
 |((with_reducible show AD _ _ _);first|(with_reducible first|apply zb|exact zi))
 |((with_reducible show bM _ _ _);first|(with_reducible first|apply Ea|apply Oh|apply zC|apply zO|exact z5|apply Ea|apply Oh|apply xj))
 |((with_reducible show SD _ _ _);first|(with_reducible first|apply x5|apply x8|apply Vm|(apply Aa;first|apply U0|apply T3)|apply xS|apply DX|apply Ss|apply Uv|apply M6|apply LR|apply Ed|apply Dw|apply zji|apply vF))
 |((with_reducible show FL _ _ _);first|(with_reducible first|apply xZ|apply znC|apply UT|apply zh8|apply ze4|apply R7|apply Tc))
 |((with_reducible show WD _ _ _);first|(with_reducible first|apply nM|apply oO|apply Kw|apply Nt))
 |((with_reducible show PG _ _ _);first|(with_reducible first|apply yi))
 |((with_reducible show TD _ _ _);first|(with_reducible first|apply ws|apply Hw)|apply zV (yX ?_) yh|apply zV lq oK|apply zV J1 wj|apply zV (zg6 ?_) zf3|apply zV JS wj|apply zV J6 wj|apply zV (uf ?_) tY|apply zV zis ze9|apply zV (Ue ?_) zmZ|apply zV (Uo ?_) znV|apply zV J9 M3|apply zV (Ef ?_) Ej|with_reducible apply wq)
 |((with_reducible show BD _ _ _);first|(with_reducible first|apply wR|apply V5|apply Tj))
 |((with_reducible show mU _ _ _);first|(with_reducible first|apply wk|apply Xj))
 |((with_reducible show OD _ _ _);first|(with_reducible first|apply uP|apply uY))
 |((with_reducible show ID _ _ _ _);first|(with_reducible first|apply Zg|apply ziE|apply zg1|apply Ex|apply Up))
 |((with_reducible show dO _ _ _ _ _);first|(with_reducible first|apply yf|apply tK|apply yb|apply xG))
 |((with_reducible show PE _ _ _);first|(with_reducible first|apply pv))
 |((with_reducible show XS _ _ _ _ _);first|(with_reducible first|apply YJ|apply Gf|apply Ge|apply vE))
 |((with_reducible show XE _ _ _ _ _);first|(with_reducible first|(apply zk6;· assumption)))
 |((with_reducible apply KR.mk);kernel_rfl)
 |((with_reducible apply UR.mk);with_unfolding_all rfl)
 |with_reducible intro s₀ H₀ ex pn
 |walk_at "c")
local macro_rules|`(tactic|walk_at "p")=>`(tactic|(letI:KK:=⟨‹W.Frag›,cL.dk ‹cL›⟩;refine Txt.go ‹_› fun _ _ _ _ _ _ hr=>?_;apply zC <;> walk_at "s"))
local macro_rules|`(tactic|walk_at "q")=>`(tactic|(letI:KK:=⟨‹W.Frag›,cL.dk ‹cL›⟩;refine Txt.go ‹_› fun _ _ _ _ _ _ hr=>?_;apply zO <;> walk_at "s"))
local macro_rules|`(tactic|walk_at "x")=>`(tactic|(letI:KK:=⟨‹W.Frag›,cL.dk ‹cL›⟩;refine Txt.gx ‹_› fun _ _ _ _ _ _ hr=>?_;(first|apply tK|apply yb|apply xG) <;> walk_at "s"))
def ZY:D->Bool
 |.int _=>true
 |_=>false
def yT (d:D)(a b:Int):Bool:=match d with
 |.int i=>decide (a<=i)&&decide (i<=b)
 |_=>false
section
variable {P:zM}{w:World}{K:zx}{mg:wm}{base:Heap}{ad:cL}
def yB:wI
 |[d]=>if bf d then some (.bl (ZY d))else none
 |_=>none
abbrev zfx :=z9 (ZB (aF (yZ .int) (zc 0)) (dh (aF (yZ .bool) (zc 0))))
def zfe:=aH 1 zfx
def rm {c:Type}{b:List c}(h:b.length=1):∃ a,b=[a]:=by match b,h with|[a],_=>exact⟨a,rfl⟩
def fc {d:Type}{c:List d}(h:c.length=2):∃ a b,c=[a,b]:=by match c,h with|[a,b],_=>exact⟨a,b,rfl⟩
def Ia {e:Type}{d:List e}(h:d.length=3):∃ a b c,d=[a,b,c]:=by match d,h with|[a,b,c],_=>exact⟨a,b,c,rfl⟩
def fZ (h:(if c then some x else none)≈y):c=true/\x=y:=by
 split at h
 .cases h
  exact⟨by assumption,rfl⟩
 .cases h
def zdl:∀ b d,b.length=1->yB b≈d->zfe b≈d:=by
 intro b d c h
 obtain⟨a,rfl⟩:=rm c
 obtain⟨e,rfl⟩:=fZ h
 cases a <;> first|rfl|cases e
def Vq (T:Txt P w K mg base ad):T.Pr 0 1 1 yB:=by
 letI:KK:=⟨K,ad.dk⟩
 refine vK ?_ zdl
 walk_at "q"
abbrev ww :=z9 (ZB (zq 1 yB (za (zc 0) zh)) (wE cO cO (zc 1) (zc 0) (zc 2)))
def v4:=aH 3 ww
def zT:wI
 |[d,.int lo,.int hi]=>if bf d then some (.bl (yT d lo hi))else none
 |_=>none
def FW {d:Int}(f:bf a=true)(hw:ZY a=false):v4 [a,.int b,.int d]≈(.bl false):=by
 have e:yB [a]≈(.bl false):=by
  show(if bf a then some (D.bl (ZY a))else none)=_
  rw[q4 f,hw]
 refine YB (ρ:=[.v a,.v (.int b),.v (.int d)]) rfl ?_
 unfold ww
 refine vP (zY ?_) rfl
 show(((yB [a]).bind bC).bind λc=>if c then _ else some (D.bl false))=_
 rw[e]
 rfl
def ZS:∀ g d,g.length=3->zT g≈d->v4 g≈d:=by
 intro g d k h
 obtain⟨a,b,c,rfl⟩:=Ia k
 cases b <;> try cases h
 cases c <;> try cases h
 rename_i f j
 obtain⟨e,rfl⟩:=fZ h
 cases a with
 |scr _=>cases e
 |obj _ _ _=>cases e
 |int i =>
  refine YB (ρ:=[.v (.int i),.v (.int f),.v (.int j)]) rfl ?_
  unfold ww
  refine vP (zY ?_) rfl
  show(if decide (f<=i) then some (D.bl (decide (i<=j)))else some (.bl false))≈(.bl (decide (f<=i)&&decide (i<=j)))
  cases decide (f<=i) <;> rfl
 |tup l=>exact FW e rfl
 |lst l=>exact FW e rfl
 |dct z t n m=>exact FW e rfl
 |non=>rfl
 |bl _=>rfl
 |str _=>rfl
def wc (T:Txt P w K mg base ad):T.Pr 1 2 3 zT:=by
 letI:KK:=⟨K,ad.dk⟩
 have:=Vq T
 refine vK ?_ ZS
 walk_at "q"
abbrev Yy :=z9 (zq 3 zT (za (zc 0) (za (eC (.int 1)) (za (eC (.int 8)) zh))))
def wO:=aH 1 Yy
def zW:wI
 |[d]=>if bf d then some (.bl (yT d 1 8))else none
 |_=>none
def Xg:∀ b d,b.length=1->zW b≈d->wO b≈d:=by
 intro b d f h
 obtain⟨a,rfl⟩:=rm f
 have e:wO [a]=zT [a,.int 1,.int 8]:=by
  cases c:zT [a,.int 1,.int 8] <;> simp[wO,Yy,aH,zI,z9,X3,aB,xa,Yd,aU,zA,cz,Wl,bV,du,Wz,aY,visF,visG,Sl.f,Sl.g,zc,eC,ze,ZB,dN,dh,cZ,aF,V3,xb,yc,zK,za,zh,zq,aG,bJ,ao,vT,YK,yq,bC,eE,xJ,VM,Z8,w6,Yj,cN,YS,cG,cO,cH,bO,cM,yP,wT,yp,wS,cU,xA,ak,Xb,yZ,dB,bK,vb,wD,wE,vy,bz,Wh,Zw,dq,cA,dg,wF,ZQ,aV,xh,xw,vX,xg,VB,xB,Vz,b1,b2,c]
 rw[e]
 exact h
def wu (T:Txt P w K mg base ad):T.Pr 2 3 1 zW:=by
 letI:KK:=⟨K,ad.dk⟩
 have:=wc T
 refine vK ?_ Xg
 walk_at "q"
abbrev QV :=z9 (zq 3 zT (za (zc 1) (za (eC (.int 0)) (za (ze VM (zc 0) (eC (.int 1))) zh))))
def Xr:=aH 2 QV
def yA:wI
 |[.int m,d]=>if bf d then some (.bl (yT d 0 (m-1)))else none
 |_=>none
def zc6:∀ c d,c.length=2->yA c≈d->Xr c≈d:=by
 intro c d g h
 obtain⟨a,b,rfl⟩:=fc g
 cases a <;> try cases h
 rename_i m
 have e:Xr [.int m,b]=zT [b,.int 0,.int (m-1)]:=by
  cases f:zT [b,.int 0,.int (m-1)] <;> simp[Xr,QV,aH,zI,z9,X3,aB,xa,Yd,aU,zA,cz,Wl,bV,du,Wz,aY,visF,visG,Sl.f,Sl.g,zc,eC,ze,ZB,dN,dh,cZ,aF,V3,xb,yc,zK,za,zh,zq,aG,bJ,ao,vT,YK,yq,bC,eE,xJ,VM,Z8,w6,Yj,cN,YS,cG,cO,cH,bO,cM,yP,wT,yp,wS,cU,xA,ak,Xb,yZ,dB,bK,vb,wD,wE,vy,bz,Wh,Zw,dq,cA,dg,wF,ZQ,aV,xh,xw,vX,xg,VB,xB,Vz,b1,b2,f]
 rw[e]
 exact h
def Zn (T:Txt P w K mg base ad):T.Pr 3 3 2 yA:=by
 letI:KK:=⟨K,ad.dk⟩
 have:=wc T
 refine vK ?_ zc6
 walk_at "q"
def zdH {m:Int}:yT (.int i) 0 (m-1)=bB m i:=rfl
def znW {d:D}(h:∀ i,d≠.int i):yT d a b=false:=by
 cases d <;> first|rfl|exact absurd rfl (h _)
def Qt {d:D}(h:yT d a b=true):∃ i,d=.int i:=by
 cases d with
 |int i=>exact⟨i,rfl⟩
 |_=>cases h
abbrev QF :=zI (aB (YK (yq (ao (aF (yZ .tuple) (zc 1)))) (ao (ze bG (aG Xb (za (zc 1) zh)) (eC (.int 2))))) (z9 (eC (.bl false))) zA)
  (z9 (ZB (zq 2 yA (za (zc 0) (za (ze ak (zc 1) (eC (.int 0))) zh))) (ZB (zq 2 yA (za (zc 0) (za (ze ak (zc 1) (eC (.int 1))) zh))) (ze bG (ze ak (zc 1) (eC (.int 0))) (ze ak (zc 1) (eC (.int 1)))))))
def zh7:=aH 2 QF
def yd:wI
 |[.int m,d]=>if bf d then some (.bl (wQ m d))else none
 |_=>none
def zkh {m:Int}(h:yT x 0 (m-1)=false):wQ m (.tup [x,y])=false:=by
 cases x with
 |int i =>
  cases y with
  |int j =>
   show(bB m i&&bB m j&&!decide (i=j))=false
   rw[show bB m i=false from h]
   rfl
  |_=>rfl
 |_=>rfl
def zki {m:Int}(h:yT y 0 (m-1)=false):wQ m (.tup [x,y])=false:=by
 cases x with
 |int i =>
  cases y with
  |int j =>
   show(bB m i&&bB m j&&!decide (i=j))=false
   rw[show bB m j=false from h,iR]
   rfl
  |_=>rfl
 |_=>rfl
def zfw:∀ g d,g.length=2->yd g≈d->zh7 g≈d:=by
 intro g d f h
 obtain⟨a,b,rfl⟩:=fc f
 cases a <;> try cases h
 rename_i m
 obtain⟨l,rfl⟩:=fZ h
 clear h
 cases b with
 |tup k =>
  refine YB (ρ:=[.v (.int m),.v (.tup k)]) rfl ?_
  unfold QF
  by_cases f:k.length=2
  .obtain⟨x,y,rfl⟩:=fc f
   have u:bf x=true:=Yf (ds:=[x,y]) (i:=0) l rfl
   have r:bf y=true:=Yf (ds:=[x,y]) (i:=1) l rfl
   have s:yA [.int m,x]≈(.bl (yT x 0 (m-1))):=by
    show(if bf x then some (D.bl (yT x 0 (m-1)))else none)=_
    rw[q4 u]
   have v:yA [.int m,y]≈(.bl (yT y 0 (m-1))):=by
    show(if bf y then some (D.bl (yT y 0 (m-1)))else none)=_
    rw[q4 r]
   refine zt (ρ':=[.v (.int m),.v (.tup [x,y])]) rfl (vP (zY ?_) rfl)
   show(((yA [.int m,x]).bind bC).bind λc=>if c then (((yA [.int m,y]).bind bC).bind λc=>if c then bG x y else some (D.bl false))else some (D.bl false))=_
   rw[s,v]
   cases n:yT x 0 (m-1) with
   |false=>rw[zkh n];rfl
   |true =>
    cases o:yT y 0 (m-1) with
    |false=>rw[zki o];rfl
    |true =>
     obtain⟨i,rfl⟩:=Qt n
     obtain⟨j,rfl⟩:=Qt o
     show some (D.bl (!decide (i=j)))≈(.bl (bB m i&&bB m j&&!decide (i=j)))
     rw[show bB m i=true from n,show bB m j=true from o]
     rfl
  .have e:wQ m (.tup k)=false:=by
    unfold wQ Zc
    split
    .rename_i t q
     split at q
     .rename_i p
      injection p with p
      rw[p]at f
      exact absurd rfl f
     .cases q
    .rfl
   rw[e]
   refine xz (fL (c:=true) ?_ (λ_=>vP rfl rfl) λz=>by cases z)
   show some (!decide ((k.length:Int)=2))=_
   rw[t6 (show ¬ (k.length:Int)=2 from λh=>f (Int.ofNat.inj h))]
   rfl
 |scr _=>cases l
 |obj _ _ _=>cases l
 |_=>rfl
def Y0 (T:Txt P w K mg base ad):T.Pr 5 4 2 yd:=by
 letI:KK:=⟨K,ad.dk⟩
 have:=Zn T
 refine vK ?_ zfw
 walk_at "p"
def pq (ds:zk):Nat->Option aZ
 |0=>none
 |k+1=>(ds[k]?).bind Zc
abbrev XL :=zI (aB (YK (yq (ao (zq 2 yd (za (zc 0) (za (zc 3) zh))))) (ao (ze cH (ze ak (zc 3) (eC (.int 0))) (ze ak (zc 3) (eC (.int 1)))))) (z9 (eC (.bl false))) zA)
  (aB (vT (ao (ze cH (zc 2) (eC (.int 0)))) (ao (ze Ie (zc 3) (ze ak (zc 1) (ze VM (zc 2) (eC (.int 1))))))) (z9 (eC (.bl false))) zA)
abbrev Xu :=zI (aB (yq (ao (aF (yZ .tuple) (zc 1)))) (z9 (eC (.bl false))) zA)
  (zI (Wh (wF (za (zc 1) zh)) (VB 2 (xB (xg 2) (xB (xg 3) Vz))) XL)
  (z9 (eC (.bl true))))
def zfc:=aH 4 Xu
def vW:wI
 |[.int m,d]=>if bf d then some (.bl (Y6 m d))else none
 |_=>none
def VG {d:D}(h:wQ m d=true):∃ t,d=zg t:=by
 unfold wQ at h
 split at h
 .rename_i t a
  exact⟨t,W7 a⟩
 .cases h
def zdq:∀ A d,A.length=2->vW A≈d->zfc A≈d:=by
 intro A d K h
 obtain⟨a,b,rfl⟩:=fc K
 cases a <;> try cases h
 rename_i m
 obtain⟨I,rfl⟩:=fZ h
 clear h K
 cases b with
 |scr _=>cases I
 |obj _ _ _=>cases I
 |tup f =>
  refine YB (g:=Xu) rfl ?_
  unfold Xu
  refine zt rfl ?_
  refine xz (nO (ds:=XW 0 f) (λi F=>∃ C G,F=[.v (.int m),.v (.tup f),C,G]/\yR m none f=yR m (pq f i) (f.drop i)/\∀ k,i=k+1->∃ p,f[k]?≈(zg p)) rfl
   ⟨.no,.no,rfl,rfl,λk e=>by cases e⟩ ?_ ?_)
  .rintro i d F J ⟨C,G,rfl,B,L⟩
   rw[vr]at J
   obtain⟨u,o,rfl⟩:=t4.mp J
   rw[l0]
   refine⟨_,rfl,?_⟩
   have n:f.drop i=u::f.drop (i+1):=by
    obtain⟨O,M⟩:=j3.mp o
    rw[i5 O,M]
   have w:bf u=true:=Yf I o
   unfold XL
   cases r:wQ m u with
   |false =>
    have H:yd [.int m,u]≈(.bl false):=by
     show(if bf u then some (D.bl (wQ m u))else none)=_
     rw[q4 w,r]
    refine xz (fL (c:=true) (show(((yd [.int m,u]).bind bC).map (!·)).bind (λc=>if c then some true else _)=_ by rw[H];rfl) (λ_=>vP rfl ?_) (λz=>by cases z))
    have e:yR m none f=false:=by
     rw[B,n]
     unfold yR
     split
     .rw[r];rfl
     .rfl
    show D.bl false=.bl (yR m none f)
    rw[e]
   |true =>
    obtain⟨t,rfl⟩:=VG r
    have H:yd [.int m,zg t]≈(.bl true):=by
     show(if bf (zg t) then some (D.bl (wQ m (zg t)))else none)=_
     rw[q4 w,r]
    have l:yR m none f=(!decide (t.2<t.1)&&oW (pq f i) t&&yR m (some t) (f.drop (i+1))):=by
     rw[B,n]
     conv=>lhs;unfold yR
     rw[YU,r]
     rfl
    have q:pq f (i+1)≈t:=by
     show(f[i]?).bind Zc≈t
     rw[o]
     rfl
    refine xz (fL (c:=decide (t.2<t.1)) (show(((yd [.int m,zg t]).bind bC).map (!·)).bind (λc=>if c then some true else some (decide (t.2<t.1)))=_ by rw[H];rfl) (λc=>vP rfl ?_) (λc=>dH rfl ?_))
    .show D.bl false=.bl (yR m none f)
     rw[l,c]
     rfl
    .cases i with
     |zero =>
      refine fL (c:=false) rfl (λz=>by cases z) (λ_=>dH rfl ?_)
      refine⟨_,_,rfl,?_,λk e=>?_⟩
      .rw[q,l,c]
       rfl
      .cases e
       exact⟨t,o⟩
     |succ j =>
      obtain⟨p,v⟩:=L j rfl
      have s:pq f (j+1)≈p:=by
       show(f[j]?).bind Zc≈p
       rw[v]
       rfl
      rw[s]at l
      have N:atI f ((((j+1:Nat):Int))-1)≈(zg p):=by
       rw[show(((j+1:Nat):Int))-1=(j:Nat)from Int.add_sub_cancel (j:Int) 1]
       exact M9 v
      have x:oW (some p) t=!qH t p:=rfl
      refine fL (c:=qH t p) ?_ (λE=>vP rfl ?_) (λE=>dH rfl ?_)
      .have z:decide ((0:Int)<((j+1:Nat):Int))=true:=t8 (Int.natCast_pos.mpr (Nat.succ_pos j))
       show((some (decide ((0:Int)<((j+1:Nat):Int)))).bind λc=>if c then (((atI f (((j+1:Nat):Int)-1)).bind λy=>Ie (zg t) y).bind bC)else some false)=_
       rw[z,N]
       rfl
      .show D.bl false=.bl (yR m none f)
       rw[l,x,E,c]
       rfl
      .refine⟨_,_,rfl,?_,λP e=>?_⟩
       .rw[q,l,x,E,c]
        rfl
       .cases e
        exact⟨t,o⟩
  .rintro F ⟨C,G,rfl,B,L⟩
   refine vP rfl ?_
   show D.bl true=.bl (yR m none f)
   rw[B,xR,mF]
   cases pq f f.length <;> rfl
 |_=>rfl
def zdM (T:Txt P w K mg base ad):T.Pr 6 5 2 vW:=by
 letI:KK:=⟨K,ad.dk⟩
 have:=Y0 T
 refine vK ?_ zdq
 walk_at "p"
abbrev Wa :=zI (aB (YK (yq (ao (aF (yZ .tuple) (zc 0)))) (ao (ze bG (aG Xb (za (zc 0) zh)) (eC (.int 2))))) (z9 (eC (.bl false))) zA)
  (z9 (ZB (zq 1 zW (za (ze ak (zc 0) (eC (.int 0))) zh)) (zq 2 vW (za (ze ak (zc 0) (eC (.int 0))) (za (ze ak (zc 0) (eC (.int 1))) zh)))))
def Wb:=aH 1 Wa
def Yk:wI
 |[d]=>if bf d then some (.bl (Yv d))else none
 |_=>none
def zgU:Yv (.tup [x,y])=(yT x 1 8&&match x with|.int m=>Y6 m y|_=>false):=by
 cases x <;> rfl
def ziC:∀ c d,c.length=1->Yk c≈d->Wb c≈d:=by
 intro c d b h
 obtain⟨a,rfl⟩:=rm b
 obtain⟨g,rfl⟩:=fZ h
 clear h b
 cases a with
 |scr _=>cases g
 |obj _ _ _=>cases g
 |tup k =>
  by_cases b:k.length=2
  .obtain⟨x,y,rfl⟩:=fc b
   have s:bf x=true:=Yf (ds:=[x,y]) (i:=0) g rfl
   have p:bf y=true:=Yf (ds:=[x,y]) (i:=1) g rfl
   have f:zW [x]≈(.bl (yT x 1 8)):=by simp[zW,s]
   rw[zgU]
   by_cases n:∃ i,x=.int i
   .obtain⟨i,rfl⟩:=n
    have q:vW [.int i,y]≈(.bl (Y6 i y)):=by simp[vW,p]
    cases t:yT (.int i) 1 8 <;> rw[t]at f <;> simp[Wb,Wa,aH,zI,z9,X3,aB,xa,Yd,aU,zA,cz,Wl,bV,du,Wz,aY,visF,visG,Sl.f,Sl.g,zc,eC,ze,ZB,dN,dh,cZ,aF,V3,xb,yc,zK,za,zh,zq,aG,bJ,ao,vT,YK,yq,bC,eE,xJ,VM,Z8,w6,Yj,cN,YS,cG,cO,cH,bO,cM,yP,wT,yp,wS,cU,xA,ak,Xb,yZ,dB,bK,vb,wD,wE,vy,bz,Wh,Zw,dq,cA,dg,wF,ZQ,aV,xh,xw,vX,xg,VB,xB,Vz,b1,b2,f,q,atI,ixN]
   .have o:yT x 1 8=false:=znW λj r=>n ⟨j,r⟩
    rw[o]at f ⊢
    simp[Wb,Wa,aH,zI,z9,X3,aB,xa,Yd,aU,zA,cz,Wl,bV,du,Wz,aY,visF,visG,Sl.f,Sl.g,zc,eC,ze,ZB,dN,dh,cZ,aF,V3,xb,yc,zK,za,zh,zq,aG,bJ,ao,vT,YK,yq,bC,eE,xJ,VM,Z8,w6,Yj,cN,YS,cG,cO,cH,bO,cM,yP,wT,yp,wS,cU,xA,ak,Xb,yZ,dB,bK,vb,wD,wE,vy,bz,Wh,Zw,dq,cA,dg,wF,ZQ,aV,xh,xw,vX,xg,VB,xB,Vz,b1,b2,f,atI,ixN]
  .have e:Yv (.tup k)=false:=zmX λm l h _=>by
    unfold zJ at h
    injection h with h
    rw[h]at b
    exact b rfl
   rw[e]
   have:¬ (k.length:Int)=2:=by omega
   simp[Wb,Wa,aH,zI,z9,X3,aB,xa,Yd,aU,zA,cz,Wl,bV,du,Wz,aY,visF,visG,Sl.f,Sl.g,zc,eC,ze,ZB,dN,dh,cZ,aF,V3,xb,yc,zK,za,zh,zq,aG,bJ,ao,vT,YK,yq,bC,eE,xJ,VM,Z8,w6,Yj,cN,YS,cG,cO,cH,bO,cM,yP,wT,yp,wS,cU,xA,ak,Xb,yZ,dB,bK,vb,wD,wE,vy,bz,Wh,Zw,dq,cA,dg,wF,ZQ,aV,xh,xw,vX,xg,VB,xB,Vz,b1,b2,this]
 |_=>rfl
def QD (T:Txt P w K mg base ad):T.Pr 7 6 1 Yk:=by
 letI:KK:=⟨K,ad.dk⟩
 have:=wu T
 have:=zdM T
 refine vK ?_ ziC
 walk_at "p"
def Om (m:Int)(a:yg):bf (zJ m a)=true:=by
 have:∀ a:yg,fM (a.map zg)=true:=by
  intro a
  induction a with
  |nil=>rfl
  |cons t a b=>show(bf (zg t)&&fM (a.map zg))=true;rw[b];rfl
 show(bf (.int m)&&(bf (.tup (a.map zg))&&true))=true
 rw[show bf (.tup (a.map zg))=fM (a.map zg)from rfl,this a]
 rfl
abbrev ZO :=aB (yq (ao (zq 1 Yk (za (zc 0) zh)))) aU zA
def ZJ:=aH 1 ZO
def yo:wI
 |[d]=>if Yv d then some .non else none
 |_=>none
def VL:∀ b d,b.length=1->yo b≈d->ZJ b≈d:=by
 intro b d f h
 obtain⟨a,rfl⟩:=rm f
 obtain⟨hw,rfl⟩:=fZ h
 obtain⟨m,c,rfl,_⟩:=(Yb a).mp hw
 have e:Yk [zJ m c]≈(.bl true):=by simp[Yk,Om m c,hw]
 simp[ZJ,ZO,aH,zI,z9,X3,aB,xa,Yd,aU,zA,cz,Wl,bV,du,Wz,aY,visF,visG,Sl.f,Sl.g,zc,eC,ze,ZB,dN,dh,cZ,aF,V3,xb,yc,zK,za,zh,zq,aG,bJ,ao,vT,YK,yq,bC,eE,xJ,VM,Z8,w6,Yj,cN,YS,cG,cO,cH,bO,cM,yP,wT,yp,wS,cU,xA,ak,Xb,yZ,dB,bK,vb,wD,wE,vy,bz,Wh,Zw,dq,cA,dg,wF,ZQ,aV,xh,xw,vX,xg,VB,xB,Vz,b1,b2,e]
def vR (T:Txt P w K mg base ad):T.Pr 8 7 1 yo:=by
 letI:KK:=⟨K,ad.dk⟩
 have:=QD T
 refine vK ?_ VL
 walk_at "q"
def wg:D->Bool
 |.int i=>decide (0<=i)
 |_=>false
def jl:D->Int
 |.int i=>i
 |_=>0
def xC (m:Int):D->Bool
 |.tup a=>decide ((a.length:Int)=m)&&a.all wg
 |_=>false
def zkR {a:Type}(f:a->Bool)(l:List a):jV [.lst (l.map λx=>.bl (f x))]≈(.bl (l.all f)):=by
 have:ji (l.map λx=>D.bl (f x))≈(l.map f):=by
  have:=zkG (l.map f)
  rwa[iV]at this
 show((ji (l.map λx=>D.bl (f x))).bind λb=>some (D.bl (b.all id)))=_
 rw[this]
 show some (D.bl ((l.map f).all id))=_
 rw[lU]
 rfl
def zc2 {a:zk}(h:a.all wg=true):∃ ns:zB,a=ns.map .int/\∀ n∈ns,0<=n:=by
 induction a with
 |nil=>exact⟨[],rfl,by simp⟩
 |cons d a e =>
  rw[jD,j7]at h
  obtain⟨ns,rfl,c⟩:=e h.2
  cases d with
  |int i=>exact⟨i::ns,rfl,λn b=>by
   rcases q5.mp b with rfl|b
   .exact k9 h.1
   .exact c n b⟩
  |_=>exact absurd h.1 u7
def zh2 {ns:zB}(h:∀ n∈ns,0<=n):(ns.map D.int).all wg=true:=by
 rw[lU,o5]
 exact λn a=>t8 (h n a)
def zhj (ns:zB):mX [.tup (ns.map .int)]≈(.int ns.sum):=by
 show((iz (ns.map .int)).bind λns=>some (D.int ns.sum))=_
 rw[O7]
 rfl
abbrev vI :=zI (aB (YK (yq (ao (aF (yZ .tuple) (zc 1)))) (ao (ze bG (aG Xb (za (zc 1) zh)) (zc 0)))) (z9 (eC (.bl false))) zA)
  (z9 (aG jV (za (yc (aV (bz (zc 1)) b1 xh (ZB (zq 1 yB (za (zc 0) zh)) (ze bO (zc 0) (eC (.int 0)))))) zh)))
def Xz:=aH 2 vI
def wH:wI
 |[.int m,d]=>if (bf d&&decide (m<=1000)) then some (.bl (xC m d))else none
 |_=>none
def Ua {d:D}(a:bf d=true):((yB [d]).bind bC).bind (λc=>if c then bO d (.int 0)else some (.bl false))≈(.bl (wg d)):=by
 cases d with
 |scr _=>cases a
 |obj _ _ _=>cases a
 |tup _=>simp[yB,a,ZY,bC,wg]
 |lst _=>simp[yB,a,ZY,bC,wg]
 |_=>rfl
def zap:∀ n d,n.length=2->wH n≈d->Xz n≈d:=by
 intro n d k h
 obtain⟨a,b,rfl⟩:=fc k
 cases a <;> try cases h
 rename_i m
 obtain⟨l,rfl⟩:=fZ h
 clear h k
 rw[j7,j8]at l
 obtain⟨l,q⟩:=l
 cases b with
 |scr _=>cases l
 |obj _ _ _=>cases l
 |tup g =>
  by_cases k:(g.length:Int)=m
  .have e:aV (bz (zc 1)) b1 xh (ZB (zq 1 yB (za (zc 0) zh)) (ze bO (zc 0) (eC (.int 0)))) [some (.int m),some (.tup g)]≈(g.map λd=>.bl (wg d)):=by
    unfold aV
    show(if bI g.length then _ else none)=_
    rw[q4 (Z1 ∅)]
    have:=uN (b:=b1) (t:=xh) (f:=ZB (zq 1 yB (za (zc 0) zh)) (ze bO (zc 0) (eC (.int 0)))) (ρ:=[some (.int m),some (.tup g)]) id (λd=>.bl (wg d)) g
     (λd o=>⟨[some d],rfl,rfl,Ua (by obtain⟨j,p,rfl⟩:=iK o;exact Yf (i:=j) l (by simp[p]))⟩)
    rwa[List.map_id]at this
   show aH 2 vI _=_
   refine YB rfl ?_
   unfold vI
   refine xz (fL (c:=false) (by simp[aH,zI,z9,X3,aB,xa,Yd,aU,zA,cz,Wl,bV,du,Wz,aY,visF,visG,Sl.f,Sl.g,zc,eC,ze,ZB,dN,dh,cZ,aF,V3,xb,yc,zK,za,zh,zq,aG,bJ,ao,vT,YK,yq,bC,eE,xJ,VM,Z8,w6,Yj,cN,YS,cG,cO,cH,bO,cM,yP,wT,yp,wS,cU,xA,ak,Xb,yZ,dB,bK,vb,wD,wE,vy,bz,Wh,Zw,dq,cA,dg,wF,ZQ,aV,xh,xw,vX,xg,VB,xB,Vz,b1,b2,k]) (λz=>by cases z) λ_=>dH rfl (vP (d:=.bl (g.all wg)) ?_ ?_))
   .show(match (((aV (bz (zc 1)) b1 xh (ZB (zq 1 yB (za (zc 0) zh)) (ze bO (zc 0) (eC (.int 0)))) [some (.int m),some (.tup g)]).map D.lst).bind λd=>(some []:Option zk).map (d::·)).bind jV with|some d=>bu.rt d|none=>bu.no)=_
    rw[e]
    show(match jV [.lst (g.map λd=>.bl (wg d))]with|some d=>bu.rt d|none=>bu.no)=_
    rw[zkR]
   .show D.bl (g.all wg)=.bl (decide ((g.length:Int)=m)&&g.all wg)
    rw[t8 k,Bool.true_and]
  .have e:xC m (.tup g)=false:=by
    show(decide ((g.length:Int)=m)&&g.all wg)=false
    rw[t6 k,Gi]
   rw[e]
   simp[Xz,vI,aH,zI,z9,X3,aB,xa,Yd,aU,zA,cz,Wl,bV,du,Wz,aY,visF,visG,Sl.f,Sl.g,zc,eC,ze,ZB,dN,dh,cZ,aF,V3,xb,yc,zK,za,zh,zq,aG,bJ,ao,vT,YK,yq,bC,eE,xJ,VM,Z8,w6,Yj,cN,YS,cG,cO,cH,bO,cM,yP,wT,yp,wS,cU,xA,ak,Xb,yZ,dB,bK,vb,wD,wE,vy,bz,Wh,Zw,dq,cA,dg,wF,ZQ,aV,xh,xw,vX,xg,VB,xB,Vz,b1,b2,k]
 |_=>rfl
def zas (T:Txt P w K mg base ad):T.Pr 4 2 2 wH:=by
 letI:KK:=⟨K,ad.dk⟩
 have:=Vq T
 refine vK ?_ zap
 walk_at "p"
def vq (m:Int):D->Bool
 |.tup a=>xC m (.tup a)&&decide ((a.map jl).sum<=300)
 |_=>false
def vU (ns:zB):(ns.map D.int).map jl=ns:=by rw[iV];exact(Gy λ_ _=>rfl).trans (List.map_id _)
abbrev YI :=z9 (ZB (zq 2 wH (za (ze ak (zc 0) (eC (.int 0))) (za (zc 1) zh))) (ze cO (aG mX (za (zc 1) zh)) (eC (.int 300))))
def YL:=aH 2 YI
def yu:wI
 |[.tup [.int m,_],d]=>if (bf d&&decide (m<=1000)) then some (.bl (vq m d))else none
 |_=>none
def zaB:∀ g d,g.length=2->yu g≈d->YL g≈d:=by
 intro g d j h
 obtain⟨a,b,rfl⟩:=fc j
 unfold yu at h
 split at h
 .rename_i m t p e
  injection e with e1 e2
  injection e2 with e2 _
  subst e1 e2
  obtain⟨l,rfl⟩:=fZ h
  have f:wH [.int m,b]≈(.bl (xC m b)):=by simp only[wH];rw[q4 l]
  cases c:xC m b with
  |false =>
   rw[c]at f
   have i:vq m b=false:=by
    cases b <;> try rfl
    show(xC m _&&_)=false
    rw[c]
    rfl
   rw[i]
   simp[YL,YI,aH,zI,z9,X3,aB,xa,Yd,aU,zA,cz,Wl,bV,du,Wz,aY,visF,visG,Sl.f,Sl.g,zc,eC,ze,ZB,dN,dh,cZ,aF,V3,xb,yc,zK,za,zh,zq,aG,bJ,ao,vT,YK,yq,bC,eE,xJ,VM,Z8,w6,Yj,cN,YS,cG,cO,cH,bO,cM,yP,wT,yp,wS,cU,xA,ak,Xb,yZ,dB,bK,vb,wD,wE,vy,bz,Wh,Zw,dq,cA,dg,wF,ZQ,aV,xh,xw,vX,xg,VB,xB,Vz,b1,b2,f,atI,ixN]
  |true =>
   rw[c]at f
   cases b with
   |tup n =>
    have k:n.all wg=true:=by
     unfold xC at c
     rw[j7]at c
     exact c.2
    obtain⟨ns,rfl,o⟩:=zc2 k
    have i:vq m (.tup (ns.map .int))=decide (ns.sum<=300):=by
     show(xC m _&&decide (((ns.map D.int).map jl).sum<=300))=_
     rw[c,vU,Bool.true_and]
    rw[i]
    simp[YL,YI,aH,zI,z9,X3,aB,xa,Yd,aU,zA,cz,Wl,bV,du,Wz,aY,visF,visG,Sl.f,Sl.g,zc,eC,ze,ZB,dN,dh,cZ,aF,V3,xb,yc,zK,za,zh,zq,aG,bJ,ao,vT,YK,yq,bC,eE,xJ,VM,Z8,w6,Yj,cN,YS,cG,cO,cH,bO,cM,yP,wT,yp,wS,cU,xA,ak,Xb,yZ,dB,bK,vb,wD,wE,vy,bz,Wh,Zw,dq,cA,dg,wF,ZQ,aV,xh,xw,vX,xg,VB,xB,Vz,b1,b2,f,zhj,atI,ixN]
   |_=>cases c
 .cases h
def w1 (T:Txt P w K mg base ad):T.Pr 13 3 2 yu:=by
 letI:KK:=⟨K,ad.dk⟩
 have:=zas T
 refine vK ?_ zaB
 walk_at "q"
abbrev Zi :=aB (yq (ao (zq 2 yu (za (zc 0) (za (zc 1) zh))))) aU zA
def Zj:=aH 2 Zi
def yt:wI
 |[.tup [.int m,_],d]=>if (bf d&&decide (m<=1000)&&vq m d) then some .non else none
 |_=>none
def Vw:∀ c d,c.length=2->yt c≈d->Zj c≈d:=by
 intro c d i h
 obtain⟨a,b,rfl⟩:=fc i
 unfold yt at h
 split at h
 .rename_i m t j e
  injection e with e1 e2
  injection e2 with e2 _
  subst e1 e2
  obtain⟨f,rfl⟩:=fZ h
  rw[j7]at f
  have g:yu [.tup [.int m,t],b]≈(.bl true):=by simp only[yu];rw[q4 f.1,f.2]
  simp[Zj,Zi,aH,zI,z9,X3,aB,xa,Yd,aU,zA,cz,Wl,bV,du,Wz,aY,visF,visG,Sl.f,Sl.g,zc,eC,ze,ZB,dN,dh,cZ,aF,V3,xb,yc,zK,za,zh,zq,aG,bJ,ao,vT,YK,yq,bC,eE,xJ,VM,Z8,w6,Yj,cN,YS,cG,cO,cH,bO,cM,yP,wT,yp,wS,cU,xA,ak,Xb,yZ,dB,bK,vb,wD,wE,vy,bz,Wh,Zw,dq,cA,dg,wF,ZQ,aV,xh,xw,vX,xg,VB,xB,Vz,b1,b2,g]
 .cases h
def vn (T:Txt P w K mg base ad):T.Pr 14 4 2 yt:=by
 letI:KK:=⟨K,ad.dk⟩
 have:=w1 T
 refine vK ?_ Vw
 walk_at "q"
def Vv (h:wA m a):decide (m<=1000)=true:=t8 (by have:=h.hi;omega)
def WJ:D->Int
 |.tup [.int m,_]=>m
 |_=>0
def jy:D->yg
 |.tup [_,.tup l]=>(iC l).getD []
 |_=>[]
def Vc (m:Int)(a:yg):WJ (zJ m a)=m:=rfl
def QG (a:yg):a.map zg=a.map fG:=rfl
def WC (m:Int)(a:yg):jy (zJ m a)=a:=by
 show(iC (a.map zg)).getD []=a
 rw[QG,Qy]
 rfl
def zZ (a b:Int):aZ:=(if b<a then b else a,if b>a then b else a)
abbrev YG :=aB (yq (ao (zq 2 yA (za (ze ak (zc 0) (eC (.int 0))) (za (zc 1) zh))))) aU zA
def YR:=aH 2 YG
def zp:wI
 |[.tup [.int m,_],.int p]=>if (decide (0<=p)&&decide (p<=m-1)) then some .non else none
 |_=>none
def XY:∀ c d,c.length=2->zp c≈d->YR c≈d:=by
 intro c d j h
 obtain⟨a,b,rfl⟩:=fc j
 unfold zp at h
 split at h
 .rename_i m t f e
  injection e with e1 e2
  injection e2 with e2 _
  subst e1 e2
  obtain⟨g,rfl⟩:=fZ h
  have i:yA [.int m,.int f]≈(.bl true):=by
   show(if bf (.int f) then some (D.bl (yT (.int f) 0 (m-1)))else none)=_
   rw[q4 (show bf (.int f)=true from rfl),zdH]
   unfold bB
   rw[g]
  simp[YR,YG,aH,zI,z9,X3,aB,xa,Yd,aU,zA,cz,Wl,bV,du,Wz,aY,visF,visG,Sl.f,Sl.g,zc,eC,ze,ZB,dN,dh,cZ,aF,V3,xb,yc,zK,za,zh,zq,aG,bJ,ao,vT,YK,yq,bC,eE,xJ,VM,Z8,w6,Yj,cN,YS,cG,cO,cH,bO,cM,yP,wT,yp,wS,cU,xA,ak,Xb,yZ,dB,bK,vb,wD,wE,vy,bz,Wh,Zw,dq,cA,dg,wF,ZQ,aV,xh,xw,vX,xg,VB,xB,Vz,b1,b2,i,atI,ixN]
 .cases h
def z4 (T:Txt P w K mg base ad):T.Pr 9 4 2 zp:=by
 letI:KK:=⟨K,ad.dk⟩
 have:=Zn T
 refine vK ?_ XY
 walk_at "q"
def yC {m:Int}{p:Int}(a:0<=p/\p<m):zp [zJ m b,.int p]≈.non:=by
 show(if (decide (0<=p)&&decide (p<=m-1)) then some D.non else none)=_
 rw[t8 a.1,t8 ∅]
 rfl
abbrev za2 :=z9 (xb (za (aG tG (za (zc 0) (za (zc 1) zh))) (za (aG lD (za (zc 0) (za (zc 1) zh))) zh)))
def zbb:=aH 2 za2
def zX:wI
 |[.int a,.int b]=>some (zg (zZ a b))
 |_=>none
def VD:∀ c d,c.length=2->zX c≈d->zbb c≈d:=by
 intro c d e h
 obtain⟨a,b,rfl⟩:=fc e
 cases a <;> try cases h
 cases b <;> try cases h
 rfl
def xF (T:Txt P w K mg base ad):T.Pr 10 1 2 zX:=by
 letI:KK:=⟨K,ad.dk⟩
 refine vK ?_ VD
 walk_at "q"
def zhP (a:yg):(a.map zg).all (aL 20)=true:=by
 rw[lU,o5]
 exact λt _=>rfl
def Fz (s t:aZ):aO 20 (zg s) (zg t)=decide (s=t):=by
 have:aO 20 (zg s) (zg t)=((s.1 == t.1)&&((s.2 == t.2)&&true)&&true):=rfl
 rw[this,Am,Am]
 by_cases h:s=t
 .subst h
  simp
 .rw[t6 h,Bool.and_eq_false_iff]
  by_cases a:s.1=t.1
  .exact .inr (g8.mpr λb=>h (gQ a b))
  .exact .inl (g8.mpr a)
def Wj (t:aZ)(a:yg):dZ (zg t) (.tup (a.map zg))≈(.bl (decide (t∈a))):=by
 show(dR (zg t) (a.map zg)).map D.bl=_
 unfold dR
 rw[q4 ⟨rfl,zhP a⟩]
 show some (D.bl ((a.map zg).any λe=>aO 20 e (zg t)))=_
 rw[List.any_map]
 congr 2
 rw[pG,List.any_eq_true,j8]
 constructor
 .rintro⟨s,b,h⟩
  have h:aO 20 (zg s) (zg t)=true:=h
  rw[Fz,j8]at h
  subst h
  exact b
 .exact λh=>⟨t,h,by show aO 20 (zg t) (zg t)=true;rw[Fz];exact t8 rfl⟩
end
def SJ {m:Nat}{g:zD}{ds:zk}{R:D->Prop}(e:ds.map .v++List.replicate (m-ds.length) .no=ρ)(q:(g ρ).w (λ_=>R .non) cC cC R):∃ d,aH m g ds≈d/\R d:=by
 unfold aH
 rw[e]
 cases a:g ρ with
 |nx b=>rw[a]at q;exact⟨_,rfl,q.nxi⟩
 |rt c=>rw[a]at q;exact⟨_,rfl,q.rti⟩
 |bk _=>rw[a]at q;exact q.bki.elim
 |ct _=>rw[a]at q;exact q.cti.elim
 |no=>rw[a]at q;exact q.noi.elim
section
variable {P:zM}{w:World}{K:zx}{mg:wm}{base:Heap}{ad:cL}
abbrev Vy :=zI (xa false 2 (ze Yj (ze Z8 (ze yY (ze yY (ze Yj (zc 0) (eC (.int 2147483647))) (ze Z8 (eC (.int 977)) (zc 1))) (eC (.int 1))) (eC (.int 48271))) (eC (.int 2147483647))))
  (zI (xa false 2 (ze Yj (ze Z8 (zc 2) (zc 2)) (eC (.int 2147483629))))
  (zI (xa false 2 (ze Yj (ze Z8 (ze yY (zc 2) (ze Z8 (eC (.int 40692)) (ze yY (zc 1) (eC (.int 3))))) (eC (.int 69621))) (eC (.int 2147483647))))
  (z9 (ze w6 (zc 2) (eC (.int 8))))))
def zdb:=aH 3 Vy
def Yp:wI
 |[.int c,.int k]=>some (.int (CJ c k))
 |_=>none
def Eh {i:Int}(a:-(2^64)<i)(b:i<2^64):Vx i j=true:=t8 (.inl ⟨a,b⟩)
def Mv {j:Int}(a:-(2^64)<j)(b:j<2^64):Vx i j=true:=t8 (.inr ⟨a,b⟩)
def Wu (h:Vx i j=true):Z8 (.int i) (.int j)≈(.int (i*j)):=by
 show(if Vx i j then _ else none)=_
 rw[q4 h]
def vp {j:Int}(h:0<j):Yj (.int i) (.int j)≈(.int (i%j)):=by
 show(if decide (0<j) then _ else none)=_
 rw[q4 (t8 h)]
def O8 {j:Int}(h:0<j)(a:j<1606938044258990275541962092341162602522202993782792835301376):w6 (.int i) (.int j)≈(.int (i/j)):=by
 show(if decide (0<j/\j<1606938044258990275541962092341162602522202993782792835301376) then _ else none)=_
 rw[q4 (t8 ⟨h,a⟩)]
def zb2:∀ e d,e.length=2->Yp e≈d->zdb e≈d:=by
 intro e d p h
 obtain⟨a,b,rfl⟩:=fc p
 cases a <;> try cases h
 cases b <;> try cases h
 rename_i c k
 have l:=Int.emod_nonneg ((c%2147483647+977*k+1)*48271) (show(2147483647:Int)≠0 by decide)
 have m:=Int.emod_lt_of_pos ((c%2147483647+977*k+1)*48271) (show(0:Int)<2147483647 by decide)
 have o:Vx 977 k=true:=Eh ⋯ ⋯
 have s:Vx (c%2147483647+977*k+1) 48271=true:=Mv ⋯ ⋯
 obtain⟨x,f⟩:∃ x,(c%2147483647+977*k+1)*48271%2147483647=x:=⟨_,rfl⟩
 rw[f]at l m
 have n:Vx x x=true:=Eh (Int.lt_of_lt_of_le ⋯ l) (Int.lt_trans m ⋯)
 have q:Vx 40692 (k+3)=true:=Eh ⋯ ⋯
 have r:∀ x,Vx x 69621=true:=λx=>Mv ⋯ ⋯
 obtain⟨y,i⟩:∃ y,x*x%2147483629=y:=⟨_,rfl⟩
 obtain⟨z,j⟩:∃ z,(y+40692*(k+3))*69621%2147483647=z:=⟨_,rfl⟩
 have g:CJ c k=z/8:=by
  show((((c%2147483647+977*k+1)*48271%2147483647)*((c%2147483647+977*k+1)*48271%2147483647)%2147483629+40692*(k+3))*69621%2147483647/8)=_
  rw[f,i,j]
 rw[g]
 refine YB (ρ:=[.v (.int c),.v (.int k),.no]) rfl ?_
 unfold Vy
 refine zt (ρ':=[.v (.int c),.v (.int k),.v (.int x)]) (W4 ?_) ?_
 .show(((((Yj (.int c) (.int 2147483647)).bind λa=>(Z8 (.int 977) (.int k)).bind λb=>yY a b).bind λa=>yY a (.int 1)).bind λa=>Z8 a (.int 48271)).bind λa=>Yj a (.int 2147483647))=_
  rw[vp ⋯,Wu o]
  show((Z8 (.int (c%2147483647+977*k+1)) (.int 48271)).bind λa=>Yj a (.int 2147483647))=_
  rw[Wu s,<- f]
  exact vp ⋯
 refine zt (ρ':=[.v (.int c),.v (.int k),.v (.int y)]) (W4 ?_) ?_
 .show((Z8 (.int x) (.int x)).bind λa=>Yj a (.int 2147483629))=_
  rw[Wu n,<- i]
  exact vp ⋯
 refine zt (ρ':=[.v (.int c),.v (.int k),.v (.int z)]) (W4 ?_) ?_
 .show((((Z8 (.int 40692) (.int (k+3))).bind λb=>yY (.int y) b).bind λa=>Z8 a (.int 69621)).bind λa=>Yj a (.int 2147483647))=_
  rw[Wu q]
  show((Z8 (.int (y+40692*(k+3))) (.int 69621)).bind λa=>Yj a (.int 2147483647))=_
  rw[Wu (r _),<- j]
  exact vp ⋯
 exact vP (zY (show w6 (.int z) (.int 8)=_ from O8 ⋯ ⋯)) rfl
def zcm (T:Txt P w K mg base ad):T.Pr 37 1 2 Yp:=by
 letI:KK:=⟨K,ad.dk⟩
 refine vK ?_ zb2
 walk_at "p"
def Y4 {m:Int}{ns:zB}(c:(ns.length:Int)=m)(a:∀ n∈ns,0<=n)(b:ns.sum<=300):vq m (.tup (ns.map .int))=true:=by
 unfold vq xC
 rw[j7,j7,j8,j8,vU,u8]
 exact⟨⟨c,zh2 a⟩,b⟩
def Fl (ns:zB):bf (.tup (ns.map .int))=true:=by
 show fM (ns.map .int)=true
 induction ns with
 |nil=>rfl
 |cons n ns a=>show(bf (.int n)&&fM (ns.map .int))=true;rw[a];rfl
def aN (ns:zB)(i:Int):Int:=ns.getD i.toNat 0
def Z7 {ns:zB}{i:Int}(h0:0<=i)(b:i<ns.length):atI (ns.map D.int) i≈(.int (aN ns i)):=by
 unfold aN
 obtain⟨k,a⟩:∃ k:Nat,i=k:=⟨i.toNat,by omega⟩
 subst a
 refine M9 ?_
 rw[mj,k8,o6 ∅,l4,o6 ∅]
 rfl
end
abbrev ZG (r:wI) :=aB (yq (ao (zq 2 r (za (zc 2) (za (zc 3) zh))))) (z9 (eC (.bl false))) zA
abbrev Yg (r:wI) :=zI (aB (ao (ze cU (zc 1) (eC .non))) (z9 (ze cU (zc 0) (eC .non))) zA)
  (zI (aB (ao (aF (yZ .bool) (zc 1))) (z9 (ZB (aF (yZ .bool) (zc 0)) (ze xX (zc 0) (zc 1)))) zA)
  (zI (aB (ao (aF (yZ .int) (zc 1))) (z9 (ZB (aF (yZ .int) (zc 0)) (ZB (dh (aF (yZ .bool) (zc 0))) (ze xX (zc 0) (zc 1))))) zA)
  (zI (aB (ao (aF (yZ .str) (zc 1))) (z9 (ZB (aF (yZ .str) (zc 0)) (ze xX (zc 0) (zc 1)))) zA)
  (zI (aB (YK (ao (ze bG (aF (yZ .list) (zc 1)) (aF (yZ .list) (zc 0)))) (ao (ze bG (aF (yZ .tuple) (zc 1)) (aF (yZ .tuple) (zc 0))))) (z9 (eC (.bl false))) zA)
  (zI (aB (ao (ze bG (aG Xb (za (zc 0) zh)) (aG Xb (za (zc 1) zh)))) (z9 (eC (.bl false))) zA)
  (zI (Wh (ZQ (za (zc 0) (za (zc 1) zh))) (VB 2 (xB (xg 2) (xB (xg 3) Vz))) (ZG r))
  (z9 (eC (.bl true)))))))))
def xM:wI:=rP 4 Yg 2
def zcE (T:Txt P w K mg base ad):T.Pr 39 3 2 xM:=by
 letI:KK:=⟨K,ad.dk⟩
 have R:∀ n,xt P w K mg base aM (1+n) (ad.f 39) (ad.e 39) (Rw 39).ps (bW 2 (rP 4 Yg n)):=by
  refine Uk (P:=P) (w:=w) (mg:=mg) (base:=base) (k0:=1) (g:=Yg) (T.d 39).fn (sc 39) λk r a b A outer s H E c=>?_
  unfold Yg ZG
  have a:T.Pr 39 (1+k) 2 r:=a
  apply zC <;> walk_at "s"
 exact R 2
section
variable {P:zM}{w:World}{K:zx}{mg:wm}{base:Heap}{ad:cL}
def YQ (T:Txt P w K mg base ad):xt P w K mg base aM 1 ad.i_NoWeb ad.j_NoWeb ["self","at"] (fD K 1 ["at"] (BK "at")):=by
 refine T.fi_NoWeb.ok zhs (λb H Q E h=>Mr b H Q E h) λc A outer s H b Q E d a=>?_
 exact⟨_,(x4 (Jx (pv 0) (pv 1) rfl)),(MF a)⟩
def zdA (T:Txt P w K mg base ad):xt P w K mg base aM 1 ad.i_NoSteps ad.j_NoSteps ["self","at"] (fD K 1 ["at"] (BK "at")):=by
 refine T.fi_NoSteps.ok zdw (λb H Q E h=>Mr b H Q E h) λc A outer s H b Q E d a=>?_
 exact⟨_,(x4 (Jx (pv 0) (pv 1) rfl)),(MF a)⟩
def zjA {a:yW}{g:zD}(e:a b≈j):ve a g c b≈j:=by
 unfold ve
 rw[e]
def yS {b c:yW}{g:zD}(e:b a=none)(d:g a=.nx ρ')(f:c ρ'≈j):ve b g c a≈j:=by
 unfold ve
 rw[e,d]
 exact f
def zk0 {a:yW}{g:zD}{h:Nat->Option D}{d:D}(e:a b≈j)(c:h j≈d):jk a g h b=.rt d:=by
 unfold jk
 rw[e]
 show(match h j with|some d=>bu.rt d|none=>.no)=_
 rw[c]
def zj4 {b:vA}{l:yW}{g:zD}(I:Nat->SE->Prop):∀ (i n:Nat) (f:zk) (e:SE),I n e->i<f.length ->
 (∀ k d e,k<i->f[k]?≈d->I (n+k) e->∃ a c,b d e≈a/\l a=none/\g a=.nx c/\I (n+k+1) c)->(∀ d e,f[i]?≈d->I (n+i) e->∃ a,b d e≈a/\l a≈j)->W6 b l g f e≈j:=by
 intro i
 induction i with
 |zero =>
  intro n f e h0 p _ m
  cases f with
  |nil=>cases p
  |cons d f =>
   obtain⟨a,r,s⟩:=m d e rfl h0
   unfold W6
   rw[r]
   show(match l a with|some j=>some j|none=>_)=_
   rw[s]
 |succ i w =>
  intro n f e h0 p h m
  cases f with
  |nil=>cases p
  |cons d f =>
   obtain⟨a,c,r,s,t,u⟩:=h 0 d e (Nat.succ_pos _) rfl h0
   unfold W6
   rw[r]
   show(match l a with|some j=>some j|none=>_)=_
   rw[s]
   show(match g a with|.nx c=>W6 b l g f c|.ct c=>W6 b l g f c|_=>none)=_
   rw[t]
   refine w (n+1) f c u (Nat.lt_of_succ_lt_succ p) (λk d e v q o=>?_) λd e q o=>?_
   .rw[show n+1+k=n+(k+1) by omega]at o ⊢
    exact h (k+1) d e (Nat.succ_lt_succ v) q o
   .rw[show n+1+i=n+(i+1) by omega]at o
    exact m d e q o
def zj9 {f:yE}{b:vA}{p:yW}{g:zD}{i:Nat}{ds:zk}(I:Nat->SE->Prop)(e:f (visF a)≈ds)(h0:I 0 a)(q:i<ds.length)(h:∀ k d a,k<i->ds[k]?≈d->I k a->∃ c m,b d a≈c/\p c=none/\g c=.nx m/\I (k+1) m)(o:∀ d a,ds[i]?≈d->I i a->∃ c,b d a≈c/\p c≈j):nj f b p g a≈j:=by
 unfold nj
 rw[e]
 refine zj4 I i 0 ds a h0 q (λk d a r n l=>?_) λd a n l=>?_
 .rw[l0]at l ⊢
  exact h k d a r n l
 .rw[l0]at l
  exact o d a n l
def Ma {t:vz}{g:yW}(e:t (visG a)≈true)(b:g a≈j):bA t g h a≈j:=by
 unfold bA
 rw[e]
 exact b
def ul {t:vz}{g h:yW}(e:t (visG a)≈false)(b:h a=r):bA t g h a=r:=by
 unfold bA
 rw[e]
 exact b
def Ms {b c:yW}{g:zD}(e:b a=none)(f:g a=.nx ρ')(d:c ρ'=none):ve b g c a=none:=by
 unfold ve
 rw[e,f]
 exact d
def VX {t:vz}{g:zD}(e:t (visG a)≈false):aB t g zA a=.nx a:=by
 unfold aB
 rw[e]
 rfl
def Eo {g h:zD}(e:g a=.nx ρ')(b:h ρ'=c):zI g h a=c:=by
 unfold zI
 rw[e]
 exact b
def kP (t:aZ):List aD:=[.inl t.1,.inl t.2]
def zoM {t:aZ}(h:kP s=kP t):s=t:=by
 unfold kP at h
 obtain⟨b,a⟩:=iM h
 obtain⟨a,_⟩:=iM a
 exact gQ (Sum.inl.inj b) (Sum.inl.inj a)
def Nu (t:aZ):∀ a:yg,(WF (a.map kP) (a.map λ_=>D.bl true) (kP t)).isSome=decide (t∈a):=by
 intro a
 induction a with
 |nil=>rfl
 |cons k a b =>
  rw[o4,o4]
  unfold WF
  by_cases h:kP k=kP t
  .rw[q4 h]
   rw[zoM h]
   exact(t8 o7).symm
  .rw[j4 h,b]
   have:(t∈k::a)↔t∈a:=⟨λz=>(q5.mp z).elim (λe=>absurd (by rw[e]) h) id,r0 _⟩
   exact(G6.mpr this).symm
def Ez {t:aZ}{a:yg}:mZ false (zg t) (.dct z true (a.map kP) (a.map λ_=>D.bl true))≈(.bl (decide (t∈a))):=by
 show some (D.bl (false != (WF (a.map kP) (a.map λ_=>D.bl true) (kP t)).isSome))=_
 rw[Nu]
 cases decide (t∈a) <;> rfl
structure kI (m:Int) (s:aZ):Prop where
 a:0<=s.1/\s.1<m
 b:0<=s.2/\s.2<m
 ne:s.1≠s.2
def ZX (h:kI m s):yd [.int m,zg s]≈(.bl true):=by
 have e:(bB m s.1&&bB m s.2&&!decide (s.1=s.2))=true:=by
  obtain⟨⟨a,b⟩,⟨c,d⟩,e⟩:=h
  unfold bB
  simp only[j7,j8,pO,p4]
  omega
 show some (D.bl (bB m s.1&&bB m s.2&&!decide (s.1=s.2)))=_
 rw[e]
def Yz (m:Int)(L:D)(a:yg)(d c b:Sl):SE:=[.v (.int m),.v L,.m true (a.map kP) (a.map λ_=>.bl true),d,c,b]
def Dz (h:zc 4 a≈(zg s)):zq 2 zX (za (ze ak (zc 4) (eC (.int 0))) (za (ze ak (zc 4) (eC (.int 1))) zh)) a≈(zg (zZ s.1 s.2)) :=
 zu (ds:=[.int s.1,.int s.2]) (zd (zr (x:=zg s) (y:=.int 0) h rfl rfl) (zd (zr (x:=zg s) (y:=.int 1) h rfl rfl) zE)) rfl
def zgX {a:yg}{t:aZ}(g:t∉a)(h:a.length<1000):kW false 2 (zc 5) (eC (.bl true)) (Yz m L a c b (.v (zg t)))=.nx (Yz m L (a++[t]) c b (.v (zg t))):=by
 have f:(WF (a.map kP) (a.map λ_=>D.bl true) (kP t)).isSome=false:=by rw[Nu];exact t6 g
 have e:kj (Yz m L a c b (.v (zg t))) 2 (zg t) (.bl true)≈(Yz m L (a++[t]) c b (.v (zg t))):=by
  unfold kj
  show(jo true (zg t)).bind _=_
  show(if decide ((a.map kP).length<sizeLine) then _ else none)=_
  rw[q4 (t8 (by rw[u8];exact wa (p6 h)))]
  show some (_:SE)=_
  unfold oF oG Yz
  rw[show(WF (a.map kP) (a.map λ_=>D.bl true) [Sum.inl t.1,Sum.inl t.2]).isSome=false from f]
  simp only[g5]
  rfl
 unfold kW
 show(match kj (Yz m L a c b (.v (zg t))) 2 (zg t) (.bl true)with|some d=>bu.nx d|none=>bu.no)=_
 rw[e]
abbrev Xy :=zI (aB (yq (ao (zq 2 yd (za (zc 0) (za (zc 4) zh))))) aU zA)
  (zI (xa false 5 (zq 2 zX (za (ze ak (zc 4) (eC (.int 0))) (za (ze ak (zc 4) (eC (.int 1))) zh))))
  (zI (aB (ao (ze (mZ false) (zc 5) (zc 2))) aU zA)
  (kW false 2 (zc 5) (eC (.bl true)))))
abbrev PL :=zI (aB (yq (ao (zq 1 zW (za (zc 0) zh)))) aU zA)
  (zI (tE true 2)
  (zI (Wh (wF (za (zc 1) zh)) (VB 2 (xB (xg 3) (xB (xg 4) Vz))) Xy)
  (Cm 2 (z9 (xb (za (zc 0) (za (aG xw (za (yc (bJ uC (za (zc 2) zh))) zh)) zh)))))))
def ZU:=aH 6 PL
def Oj {a:yg}{f:Sl}(h:kI m s)(d:zZ s.1 s.2∉a)(e:a.length<1000):Xy (Yz m L a c (.v (zg s)) f)=.nx (Yz m L (a++[zZ s.1 s.2]) c (.v (zg s)) (.v (zg (zZ s.1 s.2)))):=by
 unfold Xy
 refine Eo (VX (wh (b:=true) (ye (zu (ds:=[.int m,zg s]) rfl (ZX h))))) ?_
 refine Eo (ρ':=Yz m L a c (.v (zg s)) (.v (zg (zZ s.1 s.2)))) (xY (Dz rfl)) ?_
 refine Eo (VX (ye (zr (x:=zg (zZ s.1 s.2)) (y:=.dct false true (a.map kP) (a.map λ_=>.bl true)) rfl rfl ?_))) (zgX d e)
 rw[Ez,t6 d]
def pl (t:aZ):zB:=[t.1,t.2]
def zjr:∀ a:yg,jz (a.map kP)≈(a.map pl):=by
 intro a
 induction a with
 |nil=>rfl
 |cons k a b =>
  rw[o4]
  show(jz (a.map kP)).map (_::·)=_
  rw[b]
  rfl
def zcW {ks c:yg}(e:ks.length<64)(d:ks.Perm c)(f:(c.map pl).Pairwise λa b=>HT.lexLt b a=false):uC [.dct z true (ks.map kP) vs]≈(c.map zg):=by
 show(if (ks.map kP).length<64 then _ else none)=_
 rw[q4 (by rw[u8];exact e),zjr,Option.map_some,<- W3 (d.symm.map pl) f,iV]
 rfl
def WO {m:Int}(a:1<=m/\m<=8):zW [.int m]≈(.bl true):=by
 show some (D.bl (decide (1<=m)&&decide (m<=8)))=_
 rw[t8 a.1,t8 a.2]
 rfl
def WQ {S:yg}{i:Nat}(h:S[i]?≈s):(S.take (i+1)).map (λs=>zZ s.1 s.2)=(S.take i).map (λs=>zZ s.1 s.2)++[zZ s.1 s.2]:=by
 rw[List.take_add_one,h,g5]
 rfl
def Og {S:yg}{i:Nat}(a:(S.map λs=>zZ s.1 s.2).Nodup)(h:S[i]?≈s):zZ s.1 s.2∉(S.take i).map λs=>zZ s.1 s.2:=by
 have b:((S.take (i+1)).map λs=>zZ s.1 s.2).Nodup:=by
  refine a.sublist ?_
  exact(List.take_sublist _ _).map _
 rw[WQ h]at b
 intro z
 exact(GF.mp b).2.2 _ z _ (j6.mpr rfl) rfl
def zgJ {m:Int}{S c:yg}(n:1<=m/\m<=8)(hS:∀ s∈S,kI m s)(k:(S.map λs=>zZ s.1 s.2).Nodup)(q:S.length<64)(p:(S.map λs=>zZ s.1 s.2).Perm c)(t:(c.map pl).Pairwise λa b=>HT.lexLt b a=false):ZU [.int m,.lst (S.map zg)]≈(zJ m c):=by
 refine YB (ρ:=[.v (.int m),.v (.lst (S.map zg)),.no,.no,.no,.no]) rfl ?_
 unfold PL
 refine zt (VX (wh (b:=true) (ye (zu (ds:=[.int m]) rfl (WO n))))) ?_
 refine zt (ρ':=Yz m (.lst (S.map zg)) [] .no .no .no) rfl ?_
 refine xz (nO (ds:=XW 0 (S.map zg)) (λi h=>∃ g f e,h=Yz m (.lst (S.map zg)) ((S.take i).map λs=>zZ s.1 s.2) g f e) rfl ⟨_,_,_,rfl⟩ ?_ ?_)
 .rintro i d h l ⟨g,f,e,rfl⟩
  rw[vr,l0,k8]at l
  obtain⟨x,o,rfl⟩:=t4.mp l
  obtain⟨s,j,rfl⟩:=t4.mp o
  refine⟨Yz m (.lst (S.map zg)) ((S.take i).map λs=>zZ s.1 s.2) (.v (.int (i:Int))) (.v (zg s)) e,rfl,?_⟩
  refine dH (Oj (hS s (o0 j)) (Og k j) (by rw[u8,gW];omega)) ⟨.v (.int (i:Int)),.v (zg s),.v (zg (zZ s.1 s.2)),?_⟩
  rw[WQ j]
 .rintro h ⟨g,f,e,rfl⟩
  rw[xR,u8,pJ]
  refine vP (d:=zJ m c) ?_ rfl
  have r:=zcW (z:=true) (ks:=S.map λs=>zZ s.1 s.2) (vs:=(S.map λs=>zZ s.1 s.2).map λ_=>.bl true) (by rw[u8];exact q) p t
  show z9 _ [.v (.int m),.v (.lst (S.map zg)),.v (.dct true true ((S.map λs=>zZ s.1 s.2).map kP) ((S.map λs=>zZ s.1 s.2).map λ_=>.bl true)),g,f,e]=_
  exact zY (x6 (zd rfl (zd (Zu (ds:=[.lst (c.map zg)]) (zd (xE (Dy (ds:=[_]) rfl r)) zE) rfl) zE)) (by show 2<=1000;decide))
def Wt (T:Txt P w K mg base ad):T.Pr 11 5 2 ZU:=by
 have:=wu T
 have:=Y0 T
 have:=xF T
 walk_at "p"
abbrev YF :=ve (bA (yq (ao (zq 1 zW (za (zc 0) zh)))) (fj (gB 0 1) (za (aF V3 (eC (.int 1))) zh)) bc) (aB (yq (ao (zq 1 zW (za (zc 0) zh)))) aU zA)
  (ve bc (tE true 2)
  (nj (wF (za (zc 1) zh)) (VB 2 (xB (xg 3) (xB (xg 4) Vz))) (ve (bA (yq (ao (zq 2 yd (za (zc 0) (za (zc 4) zh))))) (fj (gB 0 1) (za (zc 3) zh)) bc) (aB (yq (ao (zq 2 yd (za (zc 0) (za (zc 4) zh))))) aU zA)
  (ve bc (xa false 5 (zq 2 zX (za (ze ak (zc 4) (eC (.int 0))) (za (ze ak (zc 4) (eC (.int 1))) zh))))
  (bA (ao (ze (mZ false) (zc 5) (zc 2))) (fj (gB 0 1) (za (zc 3) zh)) bc)))
  (zI (aB (yq (ao (zq 2 yd (za (zc 0) (za (zc 4) zh))))) aU zA)
  (zI (xa false 5 (zq 2 zX (za (ze ak (zc 4) (eC (.int 0))) (za (ze ak (zc 4) (eC (.int 1))) zh))))
  (zI (aB (ao (ze (mZ false) (zc 5) (zc 2))) aU zA)
  (kW false 2 (zc 5) (eC (.bl true))))))))
def ZD:=cY 6 YF
def zmi {c:Type}{a b:List c}{i:Nat}(h:i<a.length):(a++b)[i]?=a[i]?:=g6 h
def zho {m:Int}{S:yg}{d:D}{rest:zk}(q:1<=m/\m<=8)(hS:∀ s∈S,kI m s)(p:(S.map λs=>zZ s.1 s.2).Nodup)(w:S.length<64)(k:yd [.int m,d]≈(.bl false)\/∃ s,d=zg s/\kI m s/\zZ s.1 s.2∈S.map λs=>zZ s.1 s.2):ZD [.int m,.lst (S.map zg++d::rest)]≈(16+64*(S.length+1)):=by
 show YF [.v (.int m),.v (.lst (S.map zg++d::rest)),.no,.no,.no,.no]=_
 unfold YF
 refine yS (ul (wh (b:=true) (ye (zu (ds:=[.int m]) rfl (WO q)))) rfl) (VX (wh (b:=true) (ye (zu (ds:=[.int m]) rfl (WO q))))) ?_
 refine yS (ρ':=Yz m (.lst (S.map zg++d::rest)) [] .no .no .no) rfl rfl ?_
 refine zj9 (i:=S.length) (ds:=XW 0 (S.map zg++d::rest)) (λi f=>∃ n l h,f=Yz m (.lst (S.map zg++d::rest)) ((S.take i).map λs=>zZ s.1 s.2) n l h) rfl ⟨_,_,_,rfl⟩ (by rw[xR,k7,u8,r4];omega) ?_ ?_
 .rintro i v f u c ⟨n,l,h,rfl⟩
  rw[vr,l0,zmi (by rw[u8];exact u),k8]at c
  obtain⟨x,t,rfl⟩:=t4.mp c
  obtain⟨s,j,rfl⟩:=t4.mp t
  have a:=hS s (o0 j)
  have g:=Og p j
  refine⟨Yz m (.lst (S.map zg++d::rest)) ((S.take i).map λs=>zZ s.1 s.2) (.v (.int (i:Int))) (.v (zg s)) h,_,rfl,?_,Oj a g (by rw[u8,gW];omega),.v (.int (i:Int)),.v (zg s),.v (zg (zZ s.1 s.2)),?_⟩
  .refine Ms (ul (wh (b:=true) (ye (zu (ds:=[.int m,zg s]) rfl (ZX a)))) rfl) (VX (wh (b:=true) (ye (zu (ds:=[.int m,zg s]) rfl (ZX a))))) ?_
   refine Ms (ρ':=Yz m (.lst (S.map zg++d::rest)) ((S.take i).map λs=>zZ s.1 s.2) (.v (.int (i:Int))) (.v (zg s)) (.v (zg (zZ s.1 s.2)))) rfl (xY (Dz rfl)) ?_
   refine ul (ye (zr (x:=zg (zZ s.1 s.2)) (y:=.dct false true (((S.take i).map λs=>zZ s.1 s.2).map kP) (((S.take i).map λs=>zZ s.1 s.2).map λ_=>.bl true)) rfl rfl ?_)) rfl
   rw[Ez,t6 g]
  .rw[WQ j]
 .rintro v f c ⟨n,l,h,rfl⟩
  rw[vr,l0,g9 (by rw[u8];exact t7 _),u8,Nat.sub_self]at c
  cases c
  rw[pJ]
  refine⟨Yz m (.lst (S.map zg++d::rest)) (S.map λs=>zZ s.1 s.2) (.v (.int (S.length:Int))) (.v d) h,rfl,?_⟩
  have r:∀ f:SE,zc 3 (visG f)≈(.int (S.length:Int))->fj (gB 0 1) (za (zc 3) zh) f≈(16+64*(S.length+1)):=λf e=>by
   unfold fj
   rw[show za (zc 3) zh (visG f)≈[.int (S.length:Int)]from zd e zE,k6]
   show(if -1<=(S.length:Int)then some (0+16*1+64*((S.length:Int)+1).toNat)else none)=_
   rw[q4 ∅]
   congr 1
  rcases k with k|⟨s,rfl,a,o⟩
  .exact zjA (Ma (wh (b:=false) (ye (zu (ds:=[.int m,d]) rfl k))) (r _ rfl))
  .refine yS (ul (wh (b:=true) (ye (zu (ds:=[.int m,zg s]) rfl (ZX a)))) rfl) (VX (wh (b:=true) (ye (zu (ds:=[.int m,zg s]) rfl (ZX a))))) ?_
   refine yS (ρ':=Yz m (.lst (S.map zg++zg s::rest)) (S.map λs=>zZ s.1 s.2) (.v (.int (S.length:Int))) (.v (zg s)) (.v (zg (zZ s.1 s.2)))) rfl (xY (Dz rfl)) ?_
   refine Ma (ye (zr (x:=zg (zZ s.1 s.2)) (y:=.dct false true ((S.map λs=>zZ s.1 s.2).map kP) ((S.map λs=>zZ s.1 s.2).map λ_=>.bl true)) rfl rfl ?_)) (r _ rfl)
   rw[Ez,t8 o]
def QT (T:Txt P w K mg base ad):T.Px 11 5 2 ZD:=by
 letI:KK:=⟨K,ad.dk⟩
 have G_is_place_count:=wu T
 have G_is_pair:=Y0 T
 have G_tie_between:=xF T
 refine v9 (cl:=aW ad) (N:=(Rw 11).N) (ps:=(Rw 11).ps) (T.d 11).fn (sc 11) (gx:=YF) λb A outer s H E a=>?_
 unfold YF
 exact(yr (YJ (ws (wq (zF G_is_place_count a rfl (T.d 2) (zb (aj 0) zi)))) (yb (vV (cl:=aW ad) ⟨T.g_NoWeb,T.ei_NoWeb,T.ea_NoWeb,wx T.na_NoWeb⟩ (YQ T) T.bi_NoWeb (Xh (cT ad) (show 0<16 by decide)) (a.mono ⋯) rfl (zb (VT (zw zv)) zi))) yf) (SD.nox (x8 (ws (wq (zF G_is_place_count a rfl (T.d 2) (zb (aj 0) zi)))) (zO vF) z5))
  (yr vE (SD.nox (LR (t:=true) (i:=2) (sc 11).nd rfl (Or.inl rfl)))
  (xG (Uy PassesOwn.leaving rfl (Ex rfl (T.z "enumerate" ⋯) YA (zb (aj 1) zi)) (V5 rfl (wk (wR (yi (i:=3) (sc 11).nd rfl (Or.inl rfl))) (wk (wR (yi (i:=4) (sc 11).nd rfl (Or.inl rfl))) Xj))) (yr (YJ (ws (wq (zF G_is_pair a rfl (T.d 5) (zb (aj 0) (zb (aj 4) zi))))) (yb (vV (cl:=aW ad) ⟨T.g_NoWeb,T.ei_NoWeb,T.ea_NoWeb,wx T.na_NoWeb⟩ (YQ T) T.bi_NoWeb (Xh (cT ad) (show 0<16 by decide)) (a.mono ⋯) rfl (zb (aj 3) zi))) yf) (SD.nox (x8 (ws (wq (zF G_is_pair a rfl (T.d 5) (zb (aj 0) (zb (aj 4) zi))))) (zO vF) z5))
  (yr vE (SD.nox (xS (m:=false) (i:=5) (sc 11).nd rfl (Or.inl rfl) (zF G_tie_between a rfl (T.d 10) (zb (yk (aj 4) (zw zv) (λ_ _=>rfl)) (zb (yk (aj 4) (zw zv) (λ_ _=>rfl)) zi)))))
  (xG (YJ (zV (Ef a) Ej (by with_unfolding_all rfl) (aj 5) (aj 2)) (yb (vV (cl:=aW ad) ⟨T.g_NoWeb,T.ei_NoWeb,T.ea_NoWeb,wx T.na_NoWeb⟩ (YQ T) T.bi_NoWeb (Xh (cT ad) (show 0<16 by decide)) (a.mono ⋯) rfl (zb (aj 3) zi))) yf)))) (bM.nox (zC (x8 (ws (wq (zF G_is_pair a rfl (T.d 5) (zb (aj 0) (zb (aj 4) zi))))) (zO vF) z5)
  (zC (xS (m:=false) (i:=5) (sc 11).nd rfl (Or.inl rfl) (zF G_tie_between a rfl (T.d 10) (zb (yk (aj 4) (zw zv) (λ_ _=>rfl)) (zb (yk (aj 4) (zw zv) (λ_ _=>rfl)) zi))))
  (zC (x8 (zV (Ef a) Ej (by with_unfolding_all rfl) (aj 5) (aj 2)) (zO vF) z5)
  (zO (M6 (m:=false) a (tu lE) (pv 2) (aj 5)))))))))))
def Yo (ok:wA m c)(h:zZ a b∈c):(0<=a/\a<m)/\(0<=b/\b<m)/\a≠b:=by
 have:=ok.rng _ h
 unfold zZ at this
 dsimp only at this
 split at this <;> split at this <;> omega
abbrev Qk :=z9 (ZB (zq 2 yd (za (ze ak (zc 0) (eC (.int 0))) (za (zc 1) zh))) (ze dZ (zq 2 zX (za (ze ak (zc 1) (eC (.int 0))) (za (ze ak (zc 1) (eC (.int 1))) zh))) (ze ak (zc 0) (eC (.int 1)))))
def ZT:=aH 2 Qk
def zfE {d:yg}(ok:wA m d)(a b:Int):ZT [zJ m d,.tup [.int a,.int b]]≈(.bl (decide (zZ a b∈d))):=by
 have f:yd [.int m,.tup [.int a,.int b]]≈(.bl (bB m a&&bB m b&&!decide (a=b))):=rfl
 have g:zX [.int a,.int b]≈(zg (zZ a b)):=rfl
 have i:=Wj (zZ a b) d
 have j:ak (zJ m d) (.int 0)≈(.int m):=rfl
 have o:ak (zJ m d) (.int 1)≈(.tup (d.map zg)):=rfl
 have p:ak (.tup [.int a,.int b]) (.int 0)≈(.int a):=rfl
 have q:ak (.tup [.int a,.int b]) (.int 1)≈(.int b):=rfl
 refine YB (ρ:=[.v (zJ m d),.v (.tup [.int a,.int b])]) rfl ?_
 unfold Qk
 refine vP (zY ?_) rfl
 cases e:bB m a&&bB m b&&!decide (a=b) with
 |true =>
  rw[e]at f
  show(((yd [.int m,.tup [.int a,.int b]]).bind bC).bind λc=>if c then ((zX [.int a,.int b]).bind λt=>dZ t (.tup (d.map zg)))else some (D.bl false))=_
  rw[f,g]
  exact i
 |false =>
  have:¬ zZ a b∈d:=λh=>by
   obtain⟨l,n,k⟩:=Yo ok h
   have:(bB m a&&bB m b&&!decide (a=b))=true:=by
    unfold bB
    simp only[j7,j8,pO,p4]
    omega
   rw[this]at e
   cases e
  rw[t6 this]
  rw[e]at f
  show(((yd [.int m,.tup [.int a,.int b]]).bind bC).bind λc=>if c then ((zX [.int a,.int b]).bind λt=>dZ t (.tup (d.map zg)))else some (D.bl false))=_
  rw[f]
  rfl
def zfh (T:Txt P w K mg base ad):T.Pr 15 5 2 ZT:=by
 have:=Y0 T
 have:=xF T
 walk_at "q"
abbrev Hl:=zB
def hD (h:Hl):D:=.tup (h.map .int)
def cj (h:Hl)(i x:Int):Hl:=h.set i.toNat x
def wf (h:Hl)(s:aZ):Hl:=cj (cj h s.1 (aN h s.1-2)) s.2 (aN (cj h s.1 (aN h s.1-2)) s.2+1)
def Z0 (h:Hl)(i x:Int):(cj h i x).length=h.length:=by unfold cj;exact Gk
def Qu (h:Hl)(s:aZ):(wf h s).length=h.length:=by unfold wf;rw[Z0,Z0]
def zjg {h:Hl}{i j:Int}(b:0<=i)(c:i<h.length)(a:0<=j):aN (cj h i x) j=if j=i then x else aN h j:=by
 unfold aN cj
 rw[l4,iI,l4]
 by_cases e:j=i
 .subst e
  rw[q4 rfl,q4 ∅,q4 rfl]
  rfl
 .rw[j4 ∅,j4 e]
def Fq {h:Hl}{i:Int}(a:0<=i)(b:i<h.length):(cj h i x).sum=h.sum-aN h i+x:=by
 unfold cj
 rw[Ob (h:=by omega)]
 unfold aN
 rw[Dl.getD_at ∅]
def Fv {v:Int}(a:v∈cj h i x):v=x\/v∈h:=by
 unfold cj at a
 rcases List.mem_or_eq_of_mem_set a with e|e
 .exact .inr e
 .exact .inl e
structure Ve (n:Nat) (s:aZ):Prop where
 a0:0<=s.1
 a1:s.1<(n:Int)
 b0:0<=s.2
 b1:s.2<(n:Int)
 ne:s.1≠s.2
def zhZ {h:Hl}(a:Ve h.length s):(wf h s).sum=h.sum-1:=by
 unfold wf
 rw[Fq a.b0 (by rw[Z0];exact a.b1),Fq a.a0 a.a1]
 omega
def NQ {h:Hl}{i:Int}(b:0<=i)(a:i<h.length):aN h i∈h:=by
 unfold aN
 exact Dl.getD_mem ∅
def zkJ {h:Hl}(a:Ve h.length s)(c:∀ v∈h,0<=v)(d:2<=aN h s.1):∀ v∈wf h s,0<=v:=by
 intro v b
 unfold wf at b
 have e:aN (cj h s.1 (aN h s.1-2)) s.2=aN h s.2:=by
  rw[zjg a.a0 a.a1 a.b0,j4 (λe=>a.ne e.symm)]
 rcases Fv b with rfl|b
 .rw[e]
  have:=c _ (NQ a.b0 a.b1)
  omega
 .rcases Fv b with rfl|b
  .omega
  .exact c v b
def Ri:zD :=zI (Wl 2 (bJ vX (za (zc 0) zh)))
  (zI (Wz true 2 (ze ak (zc 1) (eC (.int 0))) (ze VM (ze ak (zc 2) (ze ak (zc 1) (eC (.int 0)))) (eC (.int 2))))
  (zI (Wz true 2 (ze ak (zc 1) (eC (.int 1))) (ze yY (ze ak (zc 2) (ze ak (zc 1) (eC (.int 1)))) (eC (.int 1))))
  (jb 2 (z9 (aG xw (za (zc 2) zh))))))
def Jz {h:Hl}(j:Ve h.length s):aH 3 Ri [hD h,zg s]≈(hD (wf h s)):=by
 obtain⟨a,b⟩:=s
 obtain⟨e,i,f,b1,l⟩:=j
 dsimp only at e i f b1 l
 refine YB (ρ:=[.v (hD h),.v (zg (a,b)),.no]) rfl ?_
 unfold Ri
 refine zt (ρ':=[.v (hD h),.v (zg (a,b)),.o (h.map .int)]) rfl ?_
 have k:=Z7 (ns:=h) e i
 obtain⟨g,c⟩:∃ g,cj h a (aN h a-2)=g:=⟨_,rfl⟩
 have gl:g.length=h.length:=by rw[<-c,Z0]
 have m:=Z7 (ns:=g) f (by rw[gl];exact b1)
 have n:wf h (a,b)=cj g b (aN g b+1):=by unfold wf;rw[c]
 rw[n]
 refine xz (Jf (h.map .int) (.int (aN h a-2)) a ?_ rfl rfl e (by rw[u8];exact i) ?_)
 .show(Option.bind ((atI (h.map D.int) a).bind λx=>VM x (.int 2)) λd=>if bx d then some d else none)=_
  rw[k]
  rfl
 rw[show(h.map D.int).set a.toNat (.int (aN h a-2))=g.map .int by rw[<-c];unfold cj;rw[List.map_set]]
 refine xz (Jf (g.map .int) (.int (aN g b+1)) b ?_ rfl rfl f (by rw[u8,gl];exact b1) ?_)
 .show(Option.bind ((atI (g.map D.int) b).bind λx=>yY x (.int 1)) λd=>if bx d then some d else none)=_
  rw[m]
  rfl
 rw[show(g.map D.int).set b.toNat (.int (aN g b+1))=(cj g b (aN g b+1)).map .int by unfold cj;rw[List.map_set]]
 exact Ck rfl (vP rfl rfl)
abbrev zgZ :=zI (Wl 2 (bJ vX (za (zc 0) zh)))
  (zI (Wz true 2 (ze ak (zc 1) (eC (.int 0))) (ze VM (ze ak (zc 2) (ze ak (zc 1) (eC (.int 0)))) (eC (.int 2))))
  (zI (Wz true 2 (ze ak (zc 1) (eC (.int 1))) (ze yY (ze ak (zc 2) (ze ak (zc 1) (eC (.int 1)))) (eC (.int 1))))
  (jb 2 (z9 (aG xw (za (zc 2) zh))))))
def WZ:=aH 3 zgZ
def zfC {h:Hl}(a:Ve h.length s):WZ [hD h,zg s]≈(hD (wf h s)):=Jz a
def zfn (T:Txt P w K mg base ad):T.Pr 18 1 2 WZ:=by
 walk_at "p"
abbrev zcL :=zI (Wl 2 (bJ vX (za (zc 0) zh)))
  (zI (Wz true 2 (ze ak (zc 1) (eC (.int 0))) (ze VM (ze ak (zc 2) (ze ak (zc 1) (eC (.int 0)))) (eC (.int 2))))
  (zI (Wz true 2 (ze ak (zc 1) (eC (.int 1))) (ze yY (ze ak (zc 2) (ze ak (zc 1) (eC (.int 1)))) (eC (.int 1))))
  (jb 2 (z9 (aG xw (za (zc 2) zh))))))
def YV:=aH 3 zcL
def zbL {h:Hl}(a:Ve h.length s):YV [hD h,zg s]≈(hD (wf h s)):=Jz a
def zbm (T:Txt P w K mg base ad):T.Pr 38 1 2 YV:=by
 walk_at "p"
inductive dU:D->Prop
 |pair (a b:Int):dU (.tup [.int a,.int b])
 |lst:dU (.lst [.int 0,.int 1])
 |tru:dU (.tup [.bl true,.int 0])
 |fal:dU (.tup [.int 0,.bl false])
 |non:dU .non
 |text (s:String):dU (.str s)
 |three:dU (.tup [.int 0,.int 1,.int 1])
 |one:dU (.tup [.int 0])
 |num (n:Int):dU (.int n)
def Vk (c:yg):D->Option aZ
 |.tup [.int a,.int b]=>if decide (zZ a b∈c) then some (a,b)else none
 |_=>none
def W9 (c:yg)(a b:Int):Vk c (.tup [.int a,.int b])=if decide (zZ a b∈c) then some (a,b)else none:=rfl
def zfB {d:D}(ok:wA m c)(h:dU d):ZT [zJ m c,d]≈(.bl (Vk c d).isSome):=by
 cases h with
 |pair a b =>
  rw[zfE ok,W9]
  cases decide (zZ a b∈c) <;> rfl
 |_=>rfl
def ziq {d:D}(ok:wA m c)(h:dU d)(e:Vk c d≈s):d=zg s/\(0<=s.1/\s.1<m)/\(0<=s.2/\s.2<m)/\s.1≠s.2:=by
 cases h with
 |pair a b =>
  rw[W9]at e
  by_cases f:decide (zZ a b∈c)=true
  .rw[q4 f]at e
   cases e
   exact⟨rfl,Yo ok (k9 f)⟩
  .rw[j4 f]at e
   cases e
 |_=>cases e
def Eg {m:Int}{h:Hl}(f:(h.length:Int)=m)(r:(0<=s.1/\s.1<m)/\(0<=s.2/\s.2<m)/\s.1≠s.2):Ve h.length s:=by
 obtain⟨⟨a,b⟩,⟨c,d⟩,e⟩:=r
 exact⟨a,by omega,c,by omega,e⟩
def XM (a:yg):Hl->Nat->zk->D
 |_,_,[]=>.non
 |h,k,d::es=>match Vk a d with
  | none=>.tup [.str "form",.int (k:Int)]
  | some s=>if decide (aN h s.1<2) then .tup [.str "bare",.int (k:Int)]else XM a (wf h s) (k+1) es
def Zf (a:yg):Hl->zk->List Hl
 |_,[]=>[]
 |h,d::es=>match Vk a d with
  |none=>[]
  |some s=>if decide (aN h s.1<2) then []else wf h s::Zf a (wf h s) es
def WL {k:Nat} {d:D} (e:Vk a d=none):XM a h k (d::b)=.tup [.str "form",.int (k:Int)]:=by
 show(match Vk a d with|none=>_|some s=>_)=_
 rw[e]
def W0 {k:Nat} {d:D} (e:Vk a d≈s) (c:aN h s.1<2):XM a h k (d::b)=.tup [.str "bare",.int (k:Int)]:=by
 show(match Vk a d with|none=>_|some s=>_)=_
 rw[e]
 show(if decide (aN h s.1<2) then _ else _)=_
 rw[q4 (t8 c)]
def Qp {k:Nat}{d:D}(e:Vk a d≈s)(c:¬ aN h s.1<2):XM a h k (d::b)=XM a (wf h s) (k+1) b:=by
 show(match Vk a d with|none=>_|some s=>_)=_
 rw[e]
 show(if decide (aN h s.1<2) then _ else _)=_
 rw[j4 (by rw[t6 c];exact u7)]
def Zz {d:D}(e:Vk a d=none):Zf a h (d::b)=[]:=by
 show(match Vk a d with|none=>_|some s=>_)=_
 rw[e]
def Zp {d:D}(e:Vk a d≈s)(c:aN h s.1<2):Zf a h (d::b)=[]:=by
 show(match Vk a d with|none=>_|some s=>_)=_
 rw[e]
 show(if decide (aN h s.1<2) then _ else _)=_
 rw[q4 (t8 c)]
def Wp {d:D}(e:Vk a d≈s)(c:¬ aN h s.1<2):Zf a h (d::b)=wf h s::Zf a (wf h s) b:=by
 show(match Vk a d with|none=>_|some s=>_)=_
 rw[e]
 show(if decide (aN h s.1<2) then _ else _)=_
 rw[j4 (by rw[t6 c];exact u7)]
def zfv (b:yg):∀ (a:zk) (h:Hl),(Zf b h a).length<=a.length:=by
 intro a
 induction a with
 |nil=>intro h;exact t7 _
 |cons d a f =>
  intro h
  cases e:Vk b d with
  |none=>rw[Zz e];exact cX _
  |some s =>
   by_cases c:aN h s.1<2
   .rw[Zp e c];exact cX _
   .rw[Wp e c,r4,r4]
    exact pH (f _)
def zmO {a:zk}{i:Nat}{d:D}(h:a[i]?≈d):a.drop i=d::a.drop (i+1):=by
 obtain⟨c,b⟩:=j3.mp h
 rw[i5 c,b]
abbrev Fx :=zI (aB (yq (ao (zq 2 ZT (za (zc 0) (za (zc 6) zh))))) (jw 3 (xb (za (eC (.str "form")) (za (zc 5) zh)))) zA)
  (zI (aB (ao (ze cG (ze ak (zc 4) (ze ak (zc 6) (eC (.int 0)))) (eC (.int 2)))) (jw 3 (xb (za (eC (.str "bare")) (za (zc 5) zh)))) zA)
  (zI (xa false 4 (zq 2 WZ (za (zc 4) (za (zc 6) zh))))
  (bV false 3 (zc 4))))
abbrev pB :=zI (aB (yq (ao (aF (yZ .list) (zc 2)))) (Dj (zK zh) (xb (za (eC (.str "list")) (za (eC (.int 0)) zh)))) zA)
  (zI (Wl 3 (zK zh))
  (zI (xa false 4 (zc 1))
  (zI (Wh (wF (za (zc 2) zh)) (VB 2 (xB (xg 5) (xB (xg 6) Vz))) Fx)
  (jw 3 (eC .non)))))
def V7:=aH 7 pB
def NT {h:Hl}{f:zk}(ok:wA m a)(C:(h.length:Int)=m)(F:∀ e∈f,dU e)(G:f.length<=900):V7 [zJ m a,hD h,.lst f]≈(.tup [.lst ((Zf a h f).map hD),XM a h 0 f]):=by
 refine YB (ρ:=[.v (zJ m a),.v (hD h),.v (.lst f),.no,.no,.no,.no]) rfl ?_
 unfold pB
 refine xz (fL (c:=false) rfl (λz=>by cases z) (λ_=>dH rfl ?_))
 refine zt (ρ':=[.v (zJ m a),.v (hD h),.v (.lst f),.o [],.no,.no,.no]) rfl ?_
 refine zt (ρ':=[.v (zJ m a),.v (hD h),.v (.lst f),.o [],.v (hD h),.no,.no]) rfl ?_
 refine xz (nO (ds:=XW 0 f) (λi p=>∃ (g:Hl) (j:List Hl) (v u:Sl),p=[.v (zJ m a),.v (hD h),.v (.lst f),.o (j.map hD),.v (hD g),v,u]/\(g.length:Int)=m/\XM a h 0 f=XM a g i (f.drop i)/\Zf a h f=j++Zf a g (f.drop i)) rfl ⟨h,[],_,_,rfl,C,rfl,rfl⟩ ?_ ?_)
 .rintro i d p w ⟨g,j,v,u,rfl,gl,l,k⟩
  rw[vr,l0]at w
  obtain⟨x,A,rfl⟩:=t4.mp w
  have n:=F x (o0 A)
  have o:=zfB ok n
  have B:j.length<=900:=by
   have:=zfv a f h
   rw[k,k7]at this
   omega
  rw[zmO A]at l k
  refine⟨[.v (zJ m a),.v (hD h),.v (.lst f),.o (j.map hD),.v (hD g),.v (.int (i:Int)),.v x],rfl,?_⟩
  unfold Fx
  cases e:Vk a x with
  |none =>
   rw[e]at o
   rw[l,WL e,k,Zz e,r9]
   exact xz (fL (c:=true) (wh (b:=false) (ye (zu (ds:=[_,_]) rfl o))) (λ_=>vP rfl rfl) (λz=>by cases z))
  |some s =>
   rw[e]at o
   obtain⟨rfl,r⟩:=ziq ok n e
   have q:=Eg gl r
   refine xz (fL (c:=false) (wh (b:=true) (ye (zu (ds:=[_,_]) rfl o))) (λz=>by cases z) (λ_=>dH rfl ?_))
   have E:=Z7 (ns:=g) q.a0 q.a1
   refine xz (fL (c:=decide (aN g s.1<2)) (ye (zr (x:=.int (aN g s.1)) (y:=.int 2) (zr (x:=hD g) (y:=.int s.1) rfl rfl E) rfl rfl)) (λc=>?_) (λc=>dH rfl ?_))
   .have c:=k9 c
    rw[l,W0 e c,k,Zp e c,r9]
    exact vP rfl rfl
   .have c:=of_decide_eq_false c
    rw[Qp e c]at l
    rw[Wp e c]at k
    have t:=zfC q
    refine zt (ρ':=[.v (zJ m a),.v (hD h),.v (.lst f),.o (j.map hD),.v (hD (wf g s)),.v (.int (i:Int)),.v (zg s)]) (zij (ds:=[_,_]) rfl t) ?_
    refine dH (J7 (ds:=j.map hD) (d:=hD (wf g s)) rfl rfl (by rw[u8];omega)) ⟨wf g s,j++[wf g s],.v (.int (i:Int)),.v (zg s),?_,by rw[Qu];exact gl,l,?_⟩
    .rw[g5];rfl
    .rw[k,pN];rfl
 .rintro p ⟨g,j,v,u,rfl,gl,l,k⟩
  rw[xR,mF]at l k
  rw[l,k,show Zf a g []=[]from rfl,r9]
  first|exact Ck rfl (vP rfl rfl)|exact vP rfl rfl
def zjM (T:Txt P w K mg base ad):xt P w K mg base aM 6 (ad.f 19) (ad.e 19) (Rw 19).ps (@CN ⟨K,ad.dk⟩ false 3 V7):=by
 letI:KK:=⟨K,ad.dk⟩
 have G_is_step:=zfh T
 have G_stepped:=zfn T
 refine T7 (k:=false) (N:=(Rw 19).N) (ps:=(Rw 19).ps) (T.d 19).fn (sc 19) (g:=pB) (λd A outer s H E c=>?_) (by unfold pB;exact(uG (uG (uG (uG zlb)))))
 unfold pB Fx
 exact(vl (DP (ws (wq (vZ .list rfl (T.z "isinstance" ⋯) (aj 2) (vg (v:=.ty "list") rfl (T.z "list" ⋯) uT rfl)))) (ZP (zjb (xZ zi) (wo (zb (zR zQ) (zb (zw zv) zi))))) Ga)
  (vl (tX (DX (i:=3) (sc 19).nd rfl (Or.inl rfl) (xZ zi)) zob)
  (vl (tX (xS (m:=false) (i:=4) (sc 19).nd rfl (Or.inl rfl) (aj 1)) Ow)
  (vl (zmC Ag rfl (Ex rfl (T.z "enumerate" ⋯) YA (zb (aj 2) zi)) (V5 rfl (wk (wR (yi (i:=5) (sc 19).nd rfl (Or.inl rfl))) (wk (wR (yi (i:=6) (sc 19).nd rfl (Or.inl rfl))) Xj))) (vl (DP (ws (wq (zF G_is_step c rfl (T.d 15) (zb (aj 0) (zb (aj 6) zi))))) (ZP (FQ (pv 3) (wo (zb (zR zQ) (zb (aj 5) zi))))) Ga)
  (vl (DP (zV JS wj (yx _) (yk (aj 4) (yk (aj 6) (zw zv) (λ_ _=>rfl)) (λ_ _=>rfl)) (zw zv)) (ZP (FQ (pv 3) (wo (zb (zR zQ) (zb (aj 5) zi))))) Ga)
  (vl (tX (xS (m:=false) (i:=4) (sc 19).nd rfl (Or.inl rfl) (zF G_stepped c rfl (T.d 18) (zb (aj 4) (zb (aj 6) zi)))) Ow)
  (ZP (tX (Kl (m:=false) (pv 3) (aj 4) (λa b=>Zv l6 Ha G9 WA a b)) zmj))))))
  (ZP (FQ (pv 3) (VS lK)))))))
def Oa (T:Txt P w K mg base ad):T.Pr 19 6 3 V7:=by
 letI:KK:=⟨K,ad.dk⟩
 exact zoT (zjM T)
def Kv (ok:wA m a):yo [zJ m a]≈.non:=by
 have hw:Yv (zJ m a)=true:=(Yb _).mpr ⟨_,_,rfl,ok⟩
 simp only[yo]
 rw[q4 hw]
structure qY (m:Int) (h:Hl):Prop where
 len:(h.length:Int)=m
 nn:∀ v∈h,0<=v
 sum:h.sum<=300
def Nj (ok:wA m b)(a:qY m h):yt [zJ m b,hD h]≈.non:=by
 show(if (bf (.tup (h.map .int))&&decide (m<=1000)&&vq m (.tup (h.map .int))) then some D.non else none)=_
 rw[Fl,Vv ok,Y4 a.len a.nn a.sum]
 rfl
abbrev xH :=bA (yq (ao (zq 1 Yk (za (zc 0) zh)))) (fj (gB 0 1) (za (aF V3 (eC (.int 1))) zh)) bc
def vO:=cY 1 xH
def Vf (T:Txt P w K mg base ad):T.Px 8 7 1 vO:=by
 letI:KK:=⟨K,ad.dk⟩
 have G_is_web:=QD T
 refine v9 (cl:=aW ad) (N:=(Rw 8).N) (ps:=(Rw 8).ps) (T.d 8).fn (sc 8) (gx:=xH) λb A outer s H E a=>?_
 unfold xH
 exact(yb (YJ (ws (wq (zF G_is_web a rfl (T.d 7) (zb (aj 0) zi)))) (yb (vV (cl:=aW ad) ⟨T.g_NoWeb,T.ei_NoWeb,T.ea_NoWeb,wx T.na_NoWeb⟩ (YQ T) T.bi_NoWeb (Xh (cT ad) (show 0<16 by decide)) (a.mono ⋯) rfl (zb (VT (zw zv)) zi))) yf))
abbrev yj :=bA (yq (ao (zq 2 yA (za (ze ak (zc 0) (eC (.int 0))) (za (zc 1) zh))))) (XU 3) bc
def zH:=cY 2 yj
def xu (T:Txt P w K mg base ad):T.Px 9 4 2 zH:=by
 letI:KK:=⟨K,ad.dk⟩
 have G_is_place:=Zn T
 refine v9 (cl:=aW ad) (N:=(Rw 9).N) (ps:=(Rw 9).ps) (T.d 9).fn (sc 9) (gx:=yj) λa A outer s H E b=>?_
 unfold yj
 exact(yb (YJ (ws (wq (zF G_is_place b rfl (T.d 3) (zb (yk (aj 0) (zw zv) (λ_ _=>rfl)) (zb (aj 1) zi))))) (yb (Ye (cl:=aW ad) (j:=3) ⟨T.g_NoPlace,T.c_NoPlace⟩ rfl)) yf))
abbrev xn :=bA (yq (ao (zq 2 yu (za (zc 0) (za (zc 1) zh))))) (XU 2) bc
def vv:=cY 2 xn
def X5 (T:Txt P w K mg base ad):T.Px 14 4 2 vv:=by
 letI:KK:=⟨K,ad.dk⟩
 have G_are_stones:=w1 T
 refine v9 (cl:=aW ad) (N:=(Rw 14).N) (ps:=(Rw 14).ps) (T.d 14).fn (sc 14) (gx:=xn) λa A outer s H E b=>?_
 unfold xn
 exact(yb (YJ (ws (wq (zF G_are_stones b rfl (T.d 13) (zb (aj 0) (zb (aj 1) zi))))) (yb (Ye (cl:=aW ad) (j:=2) ⟨T.g_NoHeap,T.c_NoHeap⟩ rfl)) yf))
abbrev Pj :=zI (Yd (zq 1 yo (za (zc 0) zh)))
  (zI (Yd (zq 2 yt (za (zc 0) (za (zc 1) zh))))
  (zI (xa false 3 (zq 3 V7 (za (zc 0) (za (zc 1) (za (zc 2) zh)))))
  (zI (xa false 4 (ze ak (zc 3) (eC (.int 1))))
  (zI (aB (ao (ze xA (zc 4) (eC .non))) aU zA)
  (z9 (ze ak (zc 3) (eC (.int 0))))))))
def Gd:=aH 5 Pj
def zhU (T:Txt P w K mg base ad):T.Pr 20 8 3 Gd:=by
 have:=vR T
 have:=vn T
 have:=Oa T
 walk_at "p"
abbrev ZL :=ve (bD (wn 1 vO (za (zc 0) zh))) (Yd (zq 1 yo (za (zc 0) zh)))
  (ve (bD (wn 2 vv (za (zc 0) (za (zc 1) zh)))) (Yd (zq 2 yt (za (zc 0) (za (zc 1) zh))))
  (ve bc (xa false 3 (zq 3 V7 (za (zc 0) (za (zc 1) (za (zc 2) zh)))))
  (ve bc (xa false 4 (ze ak (zc 3) (eC (.int 1))))
  (bA (ao (ze xA (zc 4) (eC .non))) (fj (gB 10 1) (za (cZ (ao (ze xX (ze ak (zc 4) (eC (.int 0))) (eC (.str "list")))) (aF V3 (eC (.int 1))) (ze ak (zc 4) (eC (.int 1)))) zh)) bc))))
def W2:=cY 5 ZL
def ze8 (T:Txt P w K mg base ad):T.Px 20 8 3 W2:=by
 letI:KK:=⟨K,ad.dk⟩
 have G_must_be_web:=vR T
 have X_must_be_web:=Vf T
 have G_must_be_heap:=vn T
 have X_must_be_heap:=X5 T
 have G_walk:=Oa T
 refine v9 (cl:=aW ad) (N:=(Rw 20).N) (ps:=(Rw 20).ps) (T.d 20).fn (sc 20) (gx:=ZL) λb A outer s H E a=>?_
 (first | apply tK | apply yb | apply xG) <;> walk_at "s"
 all_goals first|exact(vV (cl:=aW ad) ⟨T.g_NoSteps,T.ei_NoSteps,T.ea_NoSteps,wx T.na_NoSteps⟩ (zdA T) T.bi_NoSteps (Xh (cT ad) (show 10<16 by decide)) (a.mono ⋯) rfl (zb (Ry (zV (yX a) yh (yx _) (yk (aj 4) (zw zv) (λ_ _=>rfl)) (zR zQ)) (VT (zw zv)) (yk (aj 4) (zw zv) (λ_ _=>rfl))) zi))
abbrev zdg :=zI (aB (YK (yq (ao (aF (yZ .tuple) (zc 0)))) (ao (ze bG (aG Xb (za (zc 0) zh)) (eC (.int 2))))) (z9 (eC (.bl false))) zA)
  (zI (xa false 1 (ze ak (zc 0) (eC (.int 0))))
  (zI (aB (yq (ao (aF (yZ .str) (zc 1)))) (z9 (eC (.bl false))) zA)
  (zI (aB (ao (ze xX (zc 1) (eC (.str "tree")))) aU zA)
  (z9 (ZB (aF (KC ZF) (zc 1)) (zq 3 zT (za (ze ak (zc 0) (eC (.int 1))) (za (aF (DR ZF 0) (zc 1)) (za (aF (DR ZF 1) (zc 1)) zh)))))))))
def Zs:=aH 2 zdg
def XI (T:Txt P w K mg base ad):T.Pr 21 3 1 Zs:=by
 have G_is_whole_within:=wc T
 walk_at "p"
 all_goals first|exact(zkO T.b_SIZES rfl T.g_SIZES (aj 1))|exact(zld T.b_SIZES ⋯ rfl T.g_SIZES (aj 1) (λ_ _=>rfl))
abbrev zcX :=zI (aB (ao (ze xX (zc 0) (eC (.str "cube")))) aU zA)
  (zI (aB (ao (ze xX (zc 0) (eC (.str "star")))) (z9 (ze yY (zc 1) (eC (.int 1)))) zA)
  (zI (aB (ao (ze xX (zc 0) (eC (.str "tree")))) aU zA)
  (z9 (zc 1))))
def Wx:=aH 2 zcX
def zcO (T:Txt P w K mg base ad):T.Pr 22 1 2 Wx:=by
 walk_at "p"
abbrev zfN :=zI (aB (ao (ze xX (zc 0) (eC (.str "row")))) (z9 (ze xX (zc 3) (ze yY (zc 2) (eC (.int 1))))) zA)
  (zI (aB (ao (ze xX (zc 0) (eC (.str "ring")))) (z9 (dN (ze xX (zc 3) (ze yY (zc 2) (eC (.int 1)))) (ZB (ze xX (zc 2) (eC (.int 0))) (ze xX (zc 3) (ze VM (zc 1) (eC (.int 1))))))) zA)
  (zI (aB (ao (ze xX (zc 0) (eC (.str "cube")))) aU zA)
  (zI (aB (ao (ze xX (zc 0) (eC (.str "star")))) (z9 (ze xX (zc 2) (eC (.int 0)))) zA)
  (zI (aB (ao (ze xX (zc 0) (eC (.str "tree")))) aU zA)
  (z9 (eC (.bl true)))))))
def V1:=aH 4 zfN
def zdI (T:Txt P w K mg base ad):T.Pr 23 1 4 V1:=by
 walk_at "p"
abbrev zdt :=du 4 (yc (aV (dq dg (za (ze yY (zc 5) (eC (.int 1))) (za (zc 3) zh))) b1 (ao (zq 4 V1 (za (zc 2) (za (zc 3) (za (zc 6) (za (zc 0) zh)))))) (xb (za (zc 6) (za (zc 0) zh)))))
abbrev ziR :=zI (aB (yq (ao (zq 1 Zs (za (zc 0) zh)))) aU zA)
  (zI (xa false 1 (ze ak (zc 0) (eC (.int 0))))
  (zI (xa false 2 (ze ak (zc 0) (eC (.int 1))))
  (zI (xa false 3 (zq 2 Wx (za (zc 1) (za (zc 2) zh))))
  (zI (Wl 4 (zK zh))
  (zI (Zw cA (za (zc 3) zh) (xg 5) zdt)
  (jb 4 (z9 (xb (za (zc 3) (za (aG xw (za (zc 4) zh)) zh))))))))))
def W8:=aH 6 ziR
def V2 (T:Txt P w K mg base ad):T.Pr 24 4 1 W8:=by
 have:=XI T
 have:=zcO T
 have:=zdI T
 walk_at "p"
abbrev Xn :=bA (yq (ao (zq 1 Zs (za (zc 0) zh)))) (XU 1) bc
def V9:=cY 6 Xn
def zde (T:Txt P w K mg base ad):T.Px 24 4 1 V9:=by
 letI:KK:=⟨K,ad.dk⟩
 have G_kind_good:=XI T
 refine v9 (cl:=aW ad) (N:=(Rw 24).N) (ps:=(Rw 24).ps) (T.d 24).fn (sc 24) (gx:=Xn) λa A outer s H E b=>?_
 unfold Xn
 exact(xG (YJ (ws (wq (zF G_kind_good b rfl (T.d 21) (zb (aj 0) zi)))) (yb (Ye (cl:=aW ad) (j:=1) ⟨T.g_NoKind,T.c_NoKind⟩ rfl)) yf))
def zn4 {a b:Str}(h:a.cps.toList=b.cps.toList):a=b:=by
 cases a;cases b
 congr 1
 exact Array.ext' h
def gl (c:Nat):List Zx->Zx
 |[]=>[]
 |[x]=>x
 |x::y::r=>x++c::gl c (y::r)
def Et (c:Nat):∀ A:zG,(Str.join ⟨#[c]⟩ A).cps.toList=gl c (A.map λa=>a.cps.toList):=by
 intro A
 induction A with
 |nil=>rfl
 |cons x r b =>
  cases r with
  |nil=>rfl
  |cons y r =>
   show((x++⟨#[c]⟩++Str.join ⟨#[c]⟩ (y::r)).cps).toList=x.cps.toList++c::gl c ((y::r).map λa=>a.cps.toList)
   rw[<-b,Str.cps_append,Str.cps_append,Array.toList_append,Array.toList_append,pN]
   rfl
def zjq {c:Nat}:∀ {a b X Y:Zx},c∉a->c∉b->a++c::X=b++c::Y->a=b/\X=Y:=by
 intro a
 induction a with
 |nil =>
  intro b X Y _ d e
  cases b with
  |nil=>exact⟨rfl,(iM e).2⟩
  |cons y b=>exact absurd ((iM e).1 ▸ o7 ..) d
 |cons x a k =>
  intro b X Y f d e
  cases b with
  |nil=>exact absurd ((iM e).1 ▸ o7 ..) f
  |cons y b =>
   obtain⟨j,l⟩:=iM e
   obtain⟨g,i⟩:=k (λh=>f (.tail _ h)) (λh=>d (.tail _ h)) l
   exact⟨by rw[j,g],i⟩
def zp9 {c:Nat}:∀ {A B:List Zx},A≠[]->B≠[]->(∀ a∈A,c∉a)->(∀ b∈B,c∉b)->gl c A=gl c B->A=B:=by
 have d:∀ {a:Zx} {y:Zx} {r:List Zx} {X:Zx},c∉a->a=y++c::X->False:=λg e=>g (by rw[e];exact o8 _ (.head _))
 intro A
 induction A with
 |nil=>intro B h;exact absurd rfl h
 |cons x r n =>
  intro B _ j f i e
  cases B with
  |nil=>exact absurd rfl j
  |cons y q =>
   cases r with
   |nil =>
    cases q with
    |nil=>exact bN (λz=>[z]) e
    |cons m q=>exact(d (r:=[]) (f x (.head _)) e).elim
   |cons p r =>
    cases q with
    |nil=>exact(d (r:=[]) (i y (.head _)) e.symm).elim
    |cons m q =>
     obtain⟨k,l⟩:=zjq (f x (.head _)) (i y (.head _)) e
     rw[k,n (Bh _ _) (Bh _ _) (λa g=>f a (.tail _ g)) (λb o=>i b (.tail _ o)) l]
def zfs {c:Nat}(q:A≠[])(n:∀ a∈A,c∉a.cps.toList):Txt.split (Txt.join ⟨#[c]⟩ A) ⟨#[c]⟩=A:=by
 have l:Txt.join ⟨#[c]⟩ A=Str.join ⟨#[c]⟩ A:=jH _ _
 rw[l]
 have i:=StrLaws.join_split (Str.join ⟨#[c]⟩ A) ⟨#[c]⟩
 have j:=StrLaws.split_free (Str.join ⟨#[c]⟩ A) c
 have d:=PyProof.Rows.split_pos (Str.join ⟨#[c]⟩ A) ⟨#[c]⟩
 generalize Txt.split (Str.join ⟨#[c]⟩ A) ⟨#[c]⟩=S at i j d
 have k:=bN (λa:Str=>a.cps.toList) i
 rw[Et,Et]at k
 have g:∀ {A B:zG},(A.map λa=>a.cps.toList)=B.map (λa=>a.cps.toList)->A=B:=λ{A}=>by
  induction A with
  |nil=>intro B h;cases B with|nil=>rfl|cons b B=>cases h
  |cons a A p =>
   intro B h
   cases B with
   |nil=>cases h
   |cons b B =>
    obtain⟨m,o⟩:=iM h
    rw[zn4 m,p o]
 refine g (zp9 (λz=>?_) (λz=>q (List.map_eq_nil_iff.mp z)) (λa f=>?_) (λa f=>?_) k)
 .rw[List.map_eq_nil_iff.mp z]at d
  exact absurd d ⋯
 .obtain⟨x,e,rfl⟩:=dX.mp f
  exact j x e
 .obtain⟨x,e,rfl⟩:=dX.mp f
  exact n x e
def zkn:Str.ofString " "=⟨#[32]⟩:=by decide
def El:Str.ofString "\n"=⟨#[10]⟩:=by decide
def nS (n:Int):Str:=Str.ofString (toString n)
def Rg (n:Nat):Bool:=(nS (n:Int)).cps.toList.all (λc=>decide (48<=c)&&decide (c<=57))&&decide ((nS (n:Int)).length<=3)
def znJ:(List.range 301).all Rg=true:=by decide +kernel
def oJ {n:Int}(h0:0<=n)(b:n<=300):(∀ c∈(nS n).cps.toList,48<=c/\c<=57)/\(nS n).length<=3:=by
 have h:=o5.mp znJ n.toNat (iQ.mpr ∅)
 unfold Rg at h
 rw[show((n.toNat:Nat):Int)=n by omega,j7]at h
 refine⟨λc a=>?_,k9 h.2⟩
 have:=o5.mp h.1 c a
 rw[j7]at this
 exact⟨k9 this.1,k9 this.2⟩
def wB (w:Str) (ns:zB):Str:=Txt.join (Str.ofString " ") (w::ns.map nS)
structure ZI (w:Str):Prop where
 len:w.length<=4
 asc:∀ c∈w.cps.toList,97<=c/\c<=122
structure v0 (ns:zB):Prop where
 few:ns.length<=8
 rng:∀ n∈ns,0<=n/\n<=300
def QB {w:Str}{ns:zB}(hw:ZI w)(c:v0 ns):∀ y∈w::ns.map nS,y.length<=4:=λy b=>by
 rcases q5.mp b with rfl|b
 .exact hw.len
 .obtain⟨n,a,rfl⟩:=dX.mp b
  have:=(oJ (c.rng n a).1 (c.rng n a).2).2
  omega
def Fg {w:Str}(hw:ZI w)(a:v0 ns):(wB w ns).length<=45:=by
 have c:wB w ns=Str.join (Str.ofString " ") (w::ns.map nS):=jH _ _
 have b:=StrLaws.join_length_le (Str.ofString " ") (w::ns.map nS)
 have f:=StrLaws.sumLen_le (w::ns.map nS) (QB hw a)
 have e:(w::ns.map nS).length<=9:=by rw[r4,u8];have:=a.few;omega
 have d:(Str.ofString " ").length=1:=by decide
 rw[c]
 rw[d]at b
 omega
def Xk {w:Str}(hw:ZI w)(g:v0 ns):∀ c∈(wB w ns).cps.toList,32<=c/\c<=122:=by
 have i:wB w ns=Str.join (Str.ofString " ") (w::ns.map nS):=jH _ _
 rw[i,zkn,Et]
 have key:∀ A:List Zx,(∀ a∈A,∀ c∈a,32<=c/\c<=122)->∀ c∈gl 32 A,32<=c/\c<=122:=λA=>by
  induction A with
  |nil=>intro _ c b;cases b
  |cons x r j =>
   intro h c b
   cases r with
   |nil=>exact h x (.head _) c b
   |cons y r =>
    rcases lQ.mp (show c∈x++32::gl 32 (y::r)from b)with b|b
    .exact h x (.head _) c b
    .rcases q5.mp b with rfl|b
     .decide
     .exact j (λa f=>h a (.tail _ f)) c b
 refine key _ λa f c b=>?_
 obtain⟨s,e,rfl⟩:=dX.mp f
 rcases q5.mp e with rfl|e
 .have:=hw.asc c b
  omega
 .obtain⟨n,d,rfl⟩:=dX.mp e
  have:=(oJ (g.rng n d).1 (g.rng n d).2).1 c b
  omega
def EY {s:Str}{a:zG}{B:Nat}(b:∀ y∈a,y.length<=B)(h:a.length*B+a.length*s.length<=16777216):JoinOk s a=true:=by
 unfold JoinOk
 rw[StrLaws.joinFits b h]
 rfl
def FP {w:Str} {ns:zB} (hw:ZI w) (a:v0 ns):ZR (.str (Str.ofString " ")) (.lst ((w::ns.map nS).map .str))≈(.str (wB w ns)):=by
 show(XR ((w::ns.map nS).map .str)).bind _=_
 rw[Xv,k6,q4 (EY (QB hw a) ?_)]
 .rfl
 .have c:(w::ns.map nS).length<=9:=by rw[r4,u8];have:=a.few;omega
  have b:(Str.ofString " ").length=1:=by decide
  rw[b]
  omega
def Df:ZI (Str.ofString "web"):=⟨by decide,by decide⟩
def sI:ZI (Str.ofString "tie"):=⟨by decide,by decide⟩
def uA:ZI (Str.ofString "heap"):=⟨by decide,by decide⟩
def uV {n:Int}(h0:0<=n)(a:n<=300):VC [.int n]≈(.str (nS n)):=by
 show(if 0<=n/\n<1000000 then _ else _)=_
 rw[q4 ⟨h0,by omega⟩]
 rfl
def Ei {ns:zB}{i:yE}(c:i b≈(ns.map .int))(a:v0 ns):aV i b1 xh (aG VC (za (zc 0) zh)) b≈((ns.map nS).map .str):=by
 unfold aV
 rw[c,k6,q4 (Z1 (by rw[u8];have:=a.few;omega)),iV]
 refine uN D.int (D.str∘nS) ns λn h=>⟨[some (.int n)],rfl,rfl,?_⟩
 exact Zu (ds:=[.int n]) rfl (uV (a.rng n h).1 (a.rng n h).2)
def Nb {b:xL}{f:zU}{g:yE}{d:D}(i:f a≈c)(e:g a≈[d])(h:b c d=z):YC b f g a=z:=by
 unfold YC
 rw[i,k6,e]
 exact h
abbrev ZM :=z9 (YC ZR (eC (.str " ")) (za (ze yY (yc (zK (za (zc 0) zh))) (yc (aV (bz (zc 1)) b1 xh (aG VC (za (zc 0) zh))))) zh))
def xm:=aH 2 ZM
def Xf {w:Str}{ns:zB}{d:D}(hw:ZI w)(a:v0 ns)(c:vy d≈(ns.map .int)):xm [.str w,d]≈(.str (wB w ns)):=by
 refine YB (ρ:=[.v (.str w),.v d]) rfl ?_
 unfold ZM
 refine vP (d:=.str (wB w ns)) (zY ?_) rfl
 have b:ze yY (yc (zK (za (zc 0) zh))) (yc (aV (bz (zc 1)) b1 xh (aG VC (za (zc 0) zh)))) (visG [.v (.str w),.v d])≈(.lst ((w::ns.map nS).map .str)):=by
  refine zr (x:=.lst [.str w]) (y:=.lst ((ns.map nS).map .str)) rfl (xE (Ei (lH (d:=d) rfl c) a)) ?_
  rw[w8 (by rw[u8,u8];have:=a.few;show 1+_<=1000;omega)]
  rfl
 unfold YC
 rw[zd b zE]
 exact FP hw a
def ze2 (T:Txt P w K mg base ad):T.Pr 25 1 2 xm:=by
 letI:KK:=⟨K,ad.dk⟩
 refine Ws (N:=(Rw 25).N) (ps:=(Rw 25).ps) (T.d 25).fn (sc 25) (g:=ZM) λc A outer s H E d=>?_
 unfold ZM
 exact(zO (x5 (Xs (zR zQ) (zb (vD (vB (xZ (zb (aj 0) zi))) (vB (lL (L:=["number"]) (M:=["word","numbers"]) rfl (Yt (by rfl) (by rfl) (by rfl) (by with_unfolding_all rfl) (by rfl) (by rfl) (by kernel_rfl) wU) (Zg (aj 1)) eX eV (λ_ _ _ _=>(yi (i:=0) RD rfl (Or.inl rfl) (.inr rfl))) (λ_ _ _ _=>(xD xi Zr rfl (T.z "str" ⋯) Yx (zb (aj 0) zi)))))) zi) (λa b=>Zv p7 lX lW Xe a b))))
def wZ (m:Int) (a:yg) (h:zB):zG:=wB (Str.ofString "web") [m]::(a.map λt=>wB (Str.ofString "tie") [t.1,t.2])++[wB (Str.ofString "heap") h]
def iG (m:Int) (a:yg) (h:zB):Str:=Txt.join (Str.ofString "\n") (wZ m a h)
structure xy (m:Int) (ts:yg) (h:zB):Prop where
 ok:wA m ts
 few:ts.length<=28
 len:(h.length:Int)=m
 nn:∀ x∈h,0<=x
 sum:h.sum<=300
section
variable {m:Int}{ts:yg}{h:zB}(A:xy m ts h)
include A
theorem xy.nW:v0 [m]:=⟨by show 1<=8;decide,λn a=>by rw[j6.mp a];have:=A.ok.lo;have:=A.ok.hi;omega⟩
theorem xy.nT {t:aZ}(b:t∈ts):v0 [t.1,t.2]:=⟨by show 2<=8;decide,λn a=>by
 have r:=A.ok.rng t b
 have:=A.ok.hi
 rcases q5.mp a with rfl|a
 .omega
 .rw[j6.mp a];omega⟩
theorem xy.nH:v0 h:=⟨by have:=A.len;have:=A.ok.hi;omega,λn d=>⟨A.nn n d,by
 have g:=A.sum
 have key:∀ l:zB,(∀ x∈l,0<=x)->n∈l->n<=l.sum:=λl=>by
  induction l with
  |nil=>intro _ z;cases z
  |cons a l e =>
   intro c z
   rw[List.sum_cons]
   have h0:=c a (.head _)
   have f:0<=l.sum:=K3 λx b=>c x (.tail _ b)
   rcases q5.mp z with rfl|z
   .omega
   .have:=e (λx b=>c x (.tail _ b)) z;omega
 have:=key h A.nn d
 omega⟩⟩
theorem xy.rows:∀ r∈wZ m ts h,r.length<=45/\∀ c∈r.cps.toList,32<=c/\c<=122:=λr a=>by
 unfold wZ at a
 rcases lQ.mp a with a|a
 .rcases q5.mp a with rfl|a
  .exact⟨Fg Df A.nW,Xk Df A.nW⟩
  .obtain⟨t,b,rfl⟩:=dX.mp a
   exact⟨Fg sI (A.nT b),Xk sI (A.nT b)⟩
 .rw[j6.mp a]
  exact⟨Fg uA A.nH,Xk uA A.nH⟩
theorem xy.count:(wZ m ts h).length=ts.length+2/\(wZ m ts h).length<=30:=by
 have e:(wZ m ts h).length=ts.length+2:=by
  unfold wZ
  rw[k7,r4,u8]
  rfl
 have:=A.few
 exact⟨e,by omega⟩
theorem xy.split:Txt.split (iG m ts h) (Str.ofString "\n")=wZ m ts h:=by
 unfold iG
 rw[El]
 refine zfs (λz=>?_) λr a z=>?_
 .have:=A.count.1
  rw[z]at this
  cases this
 .have:=(A.rows r a).2 _ z
  omega
theorem xy.short:(iG m ts h).length<=1500:=by
 have b:iG m ts h=Str.join (Str.ofString "\n") (wZ m ts h):=jH _ _
 have a:=StrLaws.join_length_le (Str.ofString "\n") (wZ m ts h)
 have e:=StrLaws.sumLen_le (wZ m ts h) λr d=>(A.rows r d).1
 have f:=A.count.2
 have c:(Str.ofString "\n").length=1:=by decide
 rw[b]
 rw[c]at a
 omega
theorem xy.join:ZR (.str (Str.ofString "\n")) (.lst ((wZ m ts h).map .str))≈(.str (iG m ts h)):=by
 show(XR ((wZ m ts h).map .str)).bind _=_
 rw[Xv,k6,q4 (EY (λr a=>(A.rows r a).1) ?_)]
 .rfl
 .have c:=A.count.2
  have b:(Str.ofString "\n").length=1:=by decide
  rw[b]
  omega
end
abbrev Ad :=zI (Yd (zq 1 yo (za (zc 0) zh)))
  (zI (Yd (zq 2 yt (za (zc 0) (za (zc 1) zh))))
  (zI (xa false 2 (yc (aV (bz (ze ak (zc 0) (eC (.int 1)))) b1 xh (zq 2 xm (za (eC (.str "tie")) (za (zc 0) zh))))))
  (z9 (YC ZR (eC (.str "\n")) (za (ze yY (ze yY (yc (zK (za (zq 2 xm (za (eC (.str "web")) (za (yc (zK (za (ze ak (zc 0) (eC (.int 0))) zh))) zh))) zh))) (zc 2)) (yc (zK (za (zq 2 xm (za (eC (.str "heap")) (za (zc 1) zh))) zh)))) zh)))))
def Ew:=aH 3 Ad
def zjS {m:Int} {a:yg}:[D.str (wB (Str.ofString "web") [m])]++(a.map λt=>D.str (wB (Str.ofString "tie") [t.1,t.2]))++[D.str (wB (Str.ofString "heap") h)]=(wZ m a h).map .str:=by
 unfold wZ
 rw[g5,o4,iV]
 rfl
def zjf (ok:wA m a):yo [zJ m a]≈.non:=by
 have hw:Yv (zJ m a)=true:=(Yb _).mpr ⟨_,_,rfl,ok⟩
 simp[yo,hw]
def zhS {h:zB}(A:xy m a h):yt [zJ m a,.tup (h.map .int)]≈.non:=by
 show(if (bf (.tup (h.map .int))&&decide (m<=1000)&&vq m (.tup (h.map .int))) then some D.non else none)=_
 rw[Fl,Vv A.ok,Y4 A.len A.nn A.sum]
 rfl
def zjy {h:zB}(A:xy m a h):Ew [zJ m a,.tup (h.map .int)]≈(.str (iG m a h)):=by
 have l:=A.few
 refine YB (ρ:=[.v (zJ m a),.v (.tup (h.map .int)),.no]) rfl ?_
 unfold Ad
 refine zt (y8 (d:=.non) (zjf A.ok)) ?_
 refine zt (y8 (d:=.non) (zhS A)) ?_
 refine zt (ρ':=[.v (zJ m a),.v (.tup (h.map .int)),.v (.lst (a.map λt=>.str (wB (Str.ofString "tie") [t.1,t.2])))]) (xY (xE ?_)) ?_
 .unfold aV
  rw[lH (d:=.tup (a.map zg)) rfl rfl,k6,q4 (Z1 (by rw[u8];omega))]
  refine uN zg _ a λt j=>⟨[some (zg t)],rfl,rfl,?_⟩
  exact zu (ds:=[.str (Str.ofString "tie"),zg t]) rfl (Xf sI (A.nT j) rfl)
 refine vP (d:=.str (iG m a h)) (zY ?_) rfl
 have g:ze yY (ze yY (yc (zK (za (zq 2 xm (za (eC (.str "web")) (za (yc (zK (za (ze ak (zc 0) (eC (.int 0))) zh))) zh))) zh))) (zc 2)) (yc (zK (za (zq 2 xm (za (eC (.str "heap")) (za (zc 1) zh))) zh))) (visG [.v (zJ m a),.v (.tup (h.map .int)),.v (.lst (a.map λt=>.str (wB (Str.ofString "tie") [t.1,t.2])))])≈(.lst ((wZ m a h).map .str)):=by
  have f:zq 2 xm (za (eC (.str "web")) (za (yc (zK (za (ze ak (zc 0) (eC (.int 0))) zh))) zh)) (visG [.v (zJ m a),.v (.tup (h.map .int)),.v (.lst (a.map λt=>.str (wB (Str.ofString "tie") [t.1,t.2])))])≈(.str (wB (Str.ofString "web") [m])):=by
   refine zu (ds:=[.str (Str.ofString "web"),.lst [.int m]]) rfl ?_
   exact Xf Df A.nW rfl
  have e:zq 2 xm (za (eC (.str "heap")) (za (zc 1) zh)) (visG [.v (zJ m a),.v (.tup (h.map .int)),.v (.lst (a.map λt=>.str (wB (Str.ofString "tie") [t.1,t.2])))])≈(.str (wB (Str.ofString "heap") h)):=by
   refine zu (ds:=[.str (Str.ofString "heap"),.tup (h.map .int)]) rfl ?_
   exact Xf uA A.nH rfl
  generalize k:visG [.v (zJ m a),.v (.tup (h.map .int)),.v (.lst (a.map λt=>.str (wB (Str.ofString "tie") [t.1,t.2])))]=E0 at f e
  have i:zc 2 E0≈(.lst (a.map λt=>.str (wB (Str.ofString "tie") [t.1,t.2]))):=by rw[<-k];rfl
  have c:yc (zK (za (zq 2 xm (za (eC (.str "web")) (za (yc (zK (za (ze ak (zc 0) (eC (.int 0))) zh))) zh))) zh)) E0≈(.lst [.str (wB (Str.ofString "web") [m])]):=xE (wN (zd f zE) (by show 1<=1000;decide))
  have b:yc (zK (za (zq 2 xm (za (eC (.str "heap")) (za (zc 1) zh))) zh)) E0≈(.lst [.str (wB (Str.ofString "heap") h)]):=xE (wN (zd e zE) (by show 1<=1000;decide))
  refine zr (zr c i (w8 (by rw[u8];show 1+_<=1000;omega))) b ?_
  rw[w8 (by rw[k7,u8];show 1+_+1<=1000;omega),zjS]
 unfold YC
 rw[zd g zE]
 exact A.join
def zgM (T:Txt P w K mg base ad):gj P w K mg base aM 8 (ad.f 26) (ad.e 26) (Rw 26).ps (@bW ⟨K,ad.dk⟩ 2 Ew):=by
 letI:KK:=⟨K,ad.dk⟩
 have G_must_be_web:=vR T
 have G_must_be_heap:=vn T
 have G_written:=ze2 T
 refine zml (N:=["web","heap","ties"]) (x0:="web") (pr:=["heap"]) (T.d 26).fn (sc 26) (by decide +kernel) (g:=Ad) λd A outer s H E c=>?_
 unfold Ad
 exact(zC (Vm (zF G_must_be_web c rfl (T.d 8) (zb (aj 0) zi)))
  (zC (Vm (zF G_must_be_heap c rfl (T.d 14) (zb (aj 0) (zb (aj 1) zi))))
  (zC (Aa (m:=false) (i:=2) (uR (L:=["tie"]) (M:=["web","heap","ties"]) (sc 26).nd rfl (Or.inl rfl) rfl (Yt (by rfl) (by rfl) (by rfl) (by with_unfolding_all rfl) (by rfl) (by rfl) (by kernel_rfl) wU) (Zg (yk (aj 0) (zw zv) (λ_ _=>rfl))) eX eV (λ_ _ _ _=>(yi (i:=0) Sx rfl (Or.inl rfl) (.inr rfl))) (λ_ _ _ _=>(zF G_written c rfl (T.d 25) (zb (zR zQ) (zb (aj 0) zi))))))
  (zO (x5 (Xs (zR zQ) (zb (vD (vD (vB (xZ (zb (zF G_written c rfl (T.d 25) (zb (zR zQ) (zb (vB (xZ (zb (yk (aj 0) (zw zv) (λ_ _=>rfl)) zi))) zi))) zi))) (aj 2)) (vB (xZ (zb (zF G_written c rfl (T.d 25) (zb (zR zQ) (zb (aj 1) zi))) zi)))) zi) (λa b=>Zv p7 lX lW Xe a b)))))))
abbrev wP :=zI (aB (YK (yq (ao (wE cO cO (eC (.int 1)) (aG sS (za (zc 0) zh)) (eC (.int 3))))) (yq (ao (aG jV (za (yc (aV (Rh (zc 0)) b1 xh (ze Cj (zc 0) (eC (.str "0123456789"))))) zh))))) (z9 (eC .non)) zA)
  (zI (aB (vT (ao (ze cH (aG sS (za (zc 0) zh)) (eC (.int 1)))) (ao (ze xX (ze rO (zc 0) (eC (.int 0))) (eC (.str "0"))))) (z9 (eC .non)) zA)
  (z9 (aG Dk (za (zc 0) zh))))
def wV:=aH 1 wP
def v6 (T:Txt P w K mg base ad):T.Pr 27 1 1 wV:=by
 letI:KK:=⟨K,ad.dk⟩
 refine Ws (N:=(Rw 27).N) (ps:=(Rw 27).ps) (T.d 27).fn (sc 27) (g:=wP) λd A outer s H E e=>?_
 unfold wP
 exact(zC (x8 (jZ (nM (ws (zjH gJ gJ wj wj (zw zv) (xp XG O1 rfl (T.z "len" ⋯) XO (zb (aj 0) zi)) (zw (y6 (v:=.int 3) rfl T.g_MOST_FIGURES ⟨_,rfl⟩)) (λa b c=>zjm gJ gJ a b c))) (oO (ws (wq (xp (Ql rfl) NZ rfl (T.z "all" ⋯) Lf (zb (vB (lL (L:=["sign"]) (M:=["word"]) rfl (Yt (by rfl) (by rfl) (by rfl) (by with_unfolding_all rfl) (by rfl) (by rfl) (by kernel_rfl) wU) (Sv (aj 0)) eX eV (λ_ _ _ _=>(yi (i:=0) Tf rfl (Or.inl rfl) (.inr rfl))) (λ_ _ _ _=>(Vs zix znN (by with_unfolding_all rfl) (aj 0) (zR zQ))))) zi))))))) (zO (x5 (VS lK))) z5)
  (zC (x8 (jZ (Kw (zV J1 wj (yx _) (xp XG O1 rfl (T.z "len" ⋯) XO (zb (aj 0) zi)) (zw zv)) (Nt (zV (yX e) yh (yx _) (Tr (aj 0) (zw zv) (λ_ _=>rfl)) (zR zQ))))) (zO (x5 (VS lK))) z5)
  (zO (x5 (xD zcb zje rfl (T.z "int" ⋯) Dv (zb (aj 0) zi))))))
abbrev Fj :=zI (aB (yq (ao (aF (yZ .str) (zc 0)))) aU zA)
  (zI (xa false 1 (yc (CZ uw (zc 0) (za (eC (.str " ")) zh))))
  (zI (xa false 2 (yc (aV (bz (bK eU (zc 1) (wD (eC (.int 1))) vb)) b1 xh (zq 1 wV (za (zc 0) zh)))))
  (zI (xa false 3 (mW (Xw Vn) (za (ze ak (zc 1) (eC (.int 0))) (za (mW (Xw zP) (za (ze ak (zc 1) (eC (.int 0))) (za (aF V3 (eC (.int 1))) zh))) zh))))
  (zI (aB (YK (ao (ze dZ (eC .non) (zc 2))) (ao (ze bG (aG Xb (za (zc 2) zh)) (zc 3)))) aU zA)
  (z9 (xb (za (ze ak (zc 1) (eC (.int 0))) (za (zc 2) zh))))))))
def xI:=aH 4 Fj
def WW (T:Txt P w K mg base ad):T.Pr 28 2 1 xI:=by
 letI:KK:=⟨K,ad.dk⟩
 have G_number_written:=v6 T
 refine Ws (N:=(Rw 28).N) (ps:=(Rw 28).ps) (T.d 28).fn (sc 28) (g:=Fj) λd A outer s H E c=>?_
 unfold Fj
 exact(zC (x8 (ws (wq (vZ .str rfl (T.z "isinstance" ⋯) (aj 0) (vg (v:=.ty "str") rfl (T.z "str" ⋯) Yx rfl)))) (zO vF) z5)
  (zC (xS (m:=false) (i:=1) (sc 28).nd rfl (Or.inl rfl) (vB (O4 (aj 0) (zb (zR zQ) zi) (λa b=>Zv p7 PySem.F.slot_str_split PySem.F.type_str_split Pz a b))))
  (zC (Aa (m:=false) (i:=2) (uR (L:=["part"]) (M:=["row","words","numbers","wanted"]) (sc 28).nd rfl (Or.inl rfl) rfl (Yt (by rfl) (by rfl) (by rfl) (by with_unfolding_all rfl) (by rfl) (by rfl) (by kernel_rfl) wU) (Zg (Wc (aj 1) (uP (zw zv)) uY)) eX eV (λ_ _ _ _=>(yi (i:=0) Ji rfl (Or.inl rfl) (.inr rfl))) (λ_ _ _ _=>(zF G_number_written c rfl (T.d 27) (zb (aj 0) zi)))))
  (zC (xS (m:=false) (i:=3) (sc 28).nd rfl (Or.inl rfl) (YZ T.b_DEEDS (zb (yk (aj 1) (zw zv) (λ_ _=>rfl)) (zb (YZ T.b_QUESTIONS (zb (yk (aj 1) (zw zv) (λ_ _=>rfl)) (zb (VT (zw zv)) zi)) (λa=>uM T.b_QUESTIONS rfl T.g_QUESTIONS a)) zi)) (λa=>uM T.b_DEEDS rfl T.g_DEEDS a)))
  (zC (x8 (jZ (nM (zV (uf c) tY (by with_unfolding_all rfl) (VS lK) (aj 2)) (oO (zV lq oK (yx _) (xp xP Xt rfl (T.z "len" ⋯) XO (zb (aj 2) zi)) (aj 3))))) (zO vF) z5)
  (zO (x5 (wo (zb (yk (aj 1) (zw zv) (λ_ _=>rfl)) (zb (aj 2) zi))))))))))
abbrev W5 :=ve (bA (yq (ao (aF (yZ .str) (zc 0)))) (XU 9) bc) (aB (yq (ao (aF (yZ .str) (zc 0)))) aU zA)
  (ve bc (xa false 1 (yc (CZ uw (zc 0) (za (eC (.str " ")) zh))))
  (ve bc (xa false 2 (yc (aV (bz (bK eU (zc 1) (wD (eC (.int 1))) vb)) b1 xh (zq 1 wV (za (zc 0) zh)))))
  (ve bc (xa false 3 (mW (Xw Vn) (za (ze ak (zc 1) (eC (.int 0))) (za (mW (Xw zP) (za (ze ak (zc 1) (eC (.int 0))) (za (aF V3 (eC (.int 1))) zh))) zh))))
  (bA (YK (ao (ze dZ (eC .non) (zc 2))) (ao (ze bG (aG Xb (za (zc 2) zh)) (zc 3)))) (XU 9) bc))))
def vj:=cY 4 W5
def zeS (T:Txt P w K mg base ad):T.Px 28 2 1 vj:=by
 letI:KK:=⟨K,ad.dk⟩
 have G_number_written:=v6 T
 refine v9 (cl:=aW ad) (N:=(Rw 28).N) (ps:=(Rw 28).ps) (T.d 28).fn (sc 28) (gx:=W5) λd A outer s H E c=>?_
 unfold W5
 exact(yr (YJ (ws (wq (vZ .str rfl (T.z "isinstance" ⋯) (aj 0) (vg (v:=.ty "str") rfl (T.z "str" ⋯) Yx rfl)))) (yb (Ye (cl:=aW ad) (j:=9) ⟨T.g_NoRow,T.c_NoRow⟩ rfl)) yf) (SD.nox (x8 (ws (wq (vZ .str rfl (T.z "isinstance" ⋯) (aj 0) (vg (v:=.ty "str") rfl (T.z "str" ⋯) Yx rfl)))) (zO vF) z5))
  (yr vE (SD.nox (xS (m:=false) (i:=1) (sc 28).nd rfl (Or.inl rfl) (vB (O4 (aj 0) (zb (zR zQ) zi) (λa b=>Zv p7 PySem.F.slot_str_split PySem.F.type_str_split Pz a b)))))
  (yr vE (SD.nox (Aa (m:=false) (i:=2) (uR (L:=["part"]) (M:=["row","words","numbers","wanted"]) (sc 28).nd rfl (Or.inl rfl) rfl (Yt (by rfl) (by rfl) (by rfl) (by with_unfolding_all rfl) (by rfl) (by rfl) (by kernel_rfl) wU) (Zg (Wc (aj 1) (uP (zw zv)) uY)) eX eV (λ_ _ _ _=>(yi (i:=0) Ji rfl (Or.inl rfl) (.inr rfl))) (λ_ _ _ _=>(zF G_number_written c rfl (T.d 27) (zb (aj 0) zi))))))
  (yr vE (SD.nox (xS (m:=false) (i:=3) (sc 28).nd rfl (Or.inl rfl) (YZ T.b_DEEDS (zb (yk (aj 1) (zw zv) (λ_ _=>rfl)) (zb (YZ T.b_QUESTIONS (zb (yk (aj 1) (zw zv) (λ_ _=>rfl)) (zb (VT (zw zv)) zi)) (λa=>uM T.b_QUESTIONS rfl T.g_QUESTIONS a)) zi)) (λa=>uM T.b_DEEDS rfl T.g_DEEDS a))))
  (xG (YJ (jZ (nM (zV (uf c) tY (by with_unfolding_all rfl) (VS lK) (aj 2)) (oO (zV lq oK (yx _) (xp xP Xt rfl (T.z "len" ⋯) XO (zb (aj 2) zi)) (aj 3))))) (yb (Ye (cl:=aW ad) (j:=9) ⟨T.g_NoRow,T.c_NoRow⟩ rfl)) yf))))))
abbrev Su :=z9 (xb (za (zc 0) (za (ze lr (xb (za (eC (.int 0)) zh)) (ze ak (zc 0) (eC (.int 0)))) zh)))
def ue:=aH 1 Su
def Ny (T:Txt P w K mg base ad):T.Pr 29 1 1 ue:=by
 walk_at "q"
abbrev Kh :=zI (Yd (zq 2 zp (za (zc 0) (za (zc 1) zh))))
  (zI (Yd (zq 2 zp (za (zc 0) (za (zc 2) zh))))
  (z9 (zq 2 ZU (za (ze ak (zc 0) (eC (.int 0))) (za (ze yY (yc (bJ vX (za (ze ak (zc 0) (eC (.int 1))) zh))) (yc (zK (za (xb (za (zc 1) (za (zc 2) zh))) zh)))) zh)))))
def oU:=aH 3 Kh
def M5 (T:Txt P w K mg base ad):T.Pr 30 6 3 oU:=by
 have:=z4 T
 have:=Wt T
 walk_at "p"
abbrev WV :=ve (bD (wn 2 zH (za (zc 0) (za (zc 1) zh)))) (Yd (zq 2 zp (za (zc 0) (za (zc 1) zh))))
  (ve (bD (wn 2 zH (za (zc 0) (za (zc 2) zh)))) (Yd (zq 2 zp (za (zc 0) (za (zc 2) zh))))
  (bD (wn 2 ZD (za (ze ak (zc 0) (eC (.int 0))) (za (ze yY (yc (bJ vX (za (ze ak (zc 0) (eC (.int 1))) zh))) (yc (zK (za (xb (za (zc 1) (za (zc 2) zh))) zh)))) zh)))))
def uH:=cY 3 WV
def zk5 (T:Txt P w K mg base ad):T.Px 30 6 3 uH:=by
 have:=z4 T
 have:=xu T
 have:=QT T
 walk_at "x"
abbrev JT :=zI (Yd (zq 2 zp (za (zc 0) (za (zc 1) zh))))
  (zI (Yd (zq 2 zp (za (zc 0) (za (zc 2) zh))))
  (zI (xa false 3 (zq 2 zX (za (zc 1) (za (zc 2) zh))))
  (zI (aB (ao (ze Yw (zc 3) (ze ak (zc 0) (eC (.int 1))))) aU zA)
  (z9 (xb (za (ze ak (zc 0) (eC (.int 0))) (za (aG xw (za (yc (aV (bz (ze ak (zc 0) (eC (.int 1)))) b1 (ao (ze kO (zc 0) (zc 4))) (zc 0))) zh)) zh)))))))
def nR:=aH 4 JT
def Ls (T:Txt P w K mg base ad):T.Pr 31 5 3 nR:=by
 have:=z4 T
 have:=xF T
 walk_at "p"
abbrev V0 :=ve (bD (wn 2 zH (za (zc 0) (za (zc 1) zh)))) (Yd (zq 2 zp (za (zc 0) (za (zc 1) zh))))
  (ve (bD (wn 2 zH (za (zc 0) (za (zc 2) zh)))) (Yd (zq 2 zp (za (zc 0) (za (zc 2) zh))))
  (ve bc (xa false 3 (zq 2 zX (za (zc 1) (za (zc 2) zh))))
  (bA (ao (ze Yw (zc 3) (ze ak (zc 0) (eC (.int 1))))) (fj (gB 0 1) (za (aG Xb (za (ze ak (zc 0) (eC (.int 1))) zh)) zh)) bc)))
def uo:=cY 4 V0
def znT (T:Txt P w K mg base ad):T.Px 31 5 3 uo:=by
 letI:KK:=⟨K,ad.dk⟩
 have G_must_be_place:=z4 T
 have X_must_be_place:=xu T
 have G_tie_between:=xF T
 refine v9 (cl:=aW ad) (N:=(Rw 31).N) (ps:=(Rw 31).ps) (T.d 31).fn (sc 31) (gx:=V0) λa A outer s H E b=>?_
 (first | apply tK | apply yb | apply xG) <;> walk_at "s"
 all_goals first | exact(vV (cl:=aW ad) ⟨T.g_NoWeb,T.ei_NoWeb,T.ea_NoWeb,wx T.na_NoWeb⟩ (YQ T) T.bi_NoWeb (Xh (cT ad) (show 0<16 by decide)) (b.mono ⋯) rfl (zb (xp xP Xt rfl (T.z "len" ⋯) XO (zb (yk (aj 0) (zw zv) (λ_ _=>rfl)) zi)) zi))
abbrev Jr :=zI (Yd (zq 2 zp (za (zc 0) (za (zc 2) zh))))
  (zI (xa false 4 (ze yY (ze yY (bK eU (zc 1) vb (wD (zc 2))) (xb (za (ze yY (ze ak (zc 1) (zc 2)) (zc 3)) zh))) (bK eU (zc 1) (wD (ze yY (zc 2) (eC (.int 1)))) vb)))
  (zI (aB (yq (ao (zq 2 yu (za (zc 0) (za (zc 4) zh))))) aU zA)
  (z9 (zc 4))))
def oH:=aH 5 Jr
def Lg (T:Txt P w K mg base ad):T.Pr 32 5 4 oH:=by
 have:=z4 T
 have:=w1 T
 walk_at "p"
abbrev Vr :=ve (bD (wn 2 zH (za (zc 0) (za (zc 2) zh)))) (Yd (zq 2 zp (za (zc 0) (za (zc 2) zh))))
  (ve bc (xa false 4 (ze yY (ze yY (bK eU (zc 1) vb (wD (zc 2))) (xb (za (ze yY (ze ak (zc 1) (zc 2)) (zc 3)) zh))) (bK eU (zc 1) (wD (ze yY (zc 2) (eC (.int 1)))) vb)))
  (bA (yq (ao (zq 2 yu (za (zc 0) (za (zc 4) zh))))) (XU 2) bc))
def VU:=cY 5 Vr
def zng (T:Txt P w K mg base ad):T.Px 32 5 4 VU:=by
 have G_must_be_place:=z4 T
 have X_must_be_place:=xu T
 have G_are_stones:=w1 T
 walk_at "x"
 all_goals first|exact(Ye (cl:=aW ad) (j:=2) ⟨T.g_NoHeap,T.c_NoHeap⟩ rfl)
abbrev Wq :=zI (Yd (zq 2 zp (za (zc 0) (za (zc 2) zh))))
  (zI (Yd (zq 2 zp (za (zc 0) (za (zc 3) zh))))
  (z9 (ze ak (zq 3 Gd (za (zc 0) (za (zc 1) (za (yc (zK (za (xb (za (zc 2) (za (zc 3) zh))) zh))) zh)))) (eC (.int 0)))))
def vo:=aH 4 Wq
def XH (T:Txt P w K mg base ad):T.Pr 33 9 4 vo:=by
 have:=z4 T
 have:=zhU T
 walk_at "p"
abbrev xk :=ve (bD (wn 2 zH (za (zc 0) (za (zc 2) zh)))) (Yd (zq 2 zp (za (zc 0) (za (zc 2) zh))))
  (ve (bD (wn 2 zH (za (zc 0) (za (zc 3) zh)))) (Yd (zq 2 zp (za (zc 0) (za (zc 3) zh))))
  (bD (wn 3 W2 (za (zc 0) (za (zc 1) (za (yc (zK (za (xb (za (zc 2) (za (zc 3) zh))) zh))) zh))))))
def wK:=cY 4 xk
def zaZ (T:Txt P w K mg base ad):T.Px 33 9 4 wK:=by
 letI:KK:=⟨K,ad.dk⟩
 have G_must_be_place:=z4 T
 have X_must_be_place:=xu T
 have X_walked:=ze8 T
 refine v9 (cl:=aW ad) (N:=(Rw 33).N) (ps:=(Rw 33).ps) (T.d 33).fn (sc 33) (gx:=xk) λb A outer s H E a=>?_
 unfold xk
 exact(yr (WT (wM (X_must_be_place.mono ⋯) yw a rfl (T.d 9).at_ (T.d 9).kp (T.d 9).bd (zb (aj 0) (zb (aj 2) zi)))) (SD.nox (Vm (zF G_must_be_place a rfl (T.d 9) (zb (aj 0) (zb (aj 2) zi)))))
  (yr (WT (wM (X_must_be_place.mono ⋯) yw a rfl (T.d 9).at_ (T.d 9).kp (T.d 9).bd (zb (aj 0) (zb (aj 3) zi)))) (SD.nox (Vm (zF G_must_be_place a rfl (T.d 9) (zb (aj 0) (zb (aj 3) zi)))))
  (yb (XQ (R3 (wM (X_walked.mono ⋯) yw a rfl (T.d 20).at_ (T.d 20).kp (T.d 20).bd (zb (aj 0) (zb (aj 1) (zb (vB (xZ (zb (wo (zb (aj 2) (zb (aj 3) zi))) zi))) zi)))) (zw zv) (λ_ _=>rfl))))))
abbrev Vp :=zI (aB (ao (ze xX (zc 2) (eC (.str "web")))) (z9 (zq 1 ue (za (zq 2 ZU (za (ze ak (zc 3) (eC (.int 0))) (za (yc (zK zh)) zh))) zh))) zA)
  (zI (aB (ao (ze xX (zc 2) (eC (.str "tie")))) (z9 (xb (za (zq 3 oU (za (zc 0) (za (ze ak (zc 3) (eC (.int 0))) (za (ze ak (zc 3) (eC (.int 1))) zh)))) (za (zc 1) zh)))) zA)
  (zI (aB (ao (ze xX (zc 2) (eC (.str "cut")))) (z9 (xb (za (zq 3 nR (za (zc 0) (za (ze ak (zc 3) (eC (.int 0))) (za (ze ak (zc 3) (eC (.int 1))) zh)))) (za (zc 1) zh)))) zA)
  (zI (aB (ao (ze xX (zc 2) (eC (.str "put")))) (z9 (xb (za (zc 0) (za (zq 4 oH (za (zc 0) (za (zc 1) (za (ze ak (zc 3) (eC (.int 0))) (za (ze ak (zc 3) (eC (.int 1))) zh))))) zh)))) zA)
  (zI (aB (ao (ze xX (zc 2) (eC (.str "step")))) (z9 (xb (za (zc 0) (za (zq 4 vo (za (zc 0) (za (zc 1) (za (ze ak (zc 3) (eC (.int 0))) (za (ze ak (zc 3) (eC (.int 1))) zh))))) zh)))) zA)
  (z9 (zq 1 ue (za (zq 1 W8 (za (xb (za (zc 2) (za (ze ak (zc 3) (eC (.int 0))) zh))) zh)) zh)))))))
def vN:=aH 4 Vp
def zkv (T:Txt P w K mg base ad):T.Pr 34 10 4 vN:=by
 have:=Wt T
 have:=V2 T
 have:=Ny T
 have:=M5 T
 have:=Ls T
 have:=Lg T
 have:=XH T
 walk_at "p"
abbrev x9 :=ve (bA (ao (ze xX (zc 2) (eC (.str "web")))) (bD (wn 2 ZD (za (ze ak (zc 3) (eC (.int 0))) (za (yc (zK zh)) zh)))) bc) (aB (ao (ze xX (zc 2) (eC (.str "web")))) (z9 (zq 1 ue (za (zq 2 ZU (za (ze ak (zc 3) (eC (.int 0))) (za (yc (zK zh)) zh))) zh))) zA)
  (ve (bA (ao (ze xX (zc 2) (eC (.str "tie")))) (bD (wn 3 uH (za (zc 0) (za (ze ak (zc 3) (eC (.int 0))) (za (ze ak (zc 3) (eC (.int 1))) zh))))) bc) (aB (ao (ze xX (zc 2) (eC (.str "tie")))) (z9 (xb (za (zq 3 oU (za (zc 0) (za (ze ak (zc 3) (eC (.int 0))) (za (ze ak (zc 3) (eC (.int 1))) zh)))) (za (zc 1) zh)))) zA)
  (ve (bA (ao (ze xX (zc 2) (eC (.str "cut")))) (bD (wn 3 uo (za (zc 0) (za (ze ak (zc 3) (eC (.int 0))) (za (ze ak (zc 3) (eC (.int 1))) zh))))) bc) (aB (ao (ze xX (zc 2) (eC (.str "cut")))) (z9 (xb (za (zq 3 nR (za (zc 0) (za (ze ak (zc 3) (eC (.int 0))) (za (ze ak (zc 3) (eC (.int 1))) zh)))) (za (zc 1) zh)))) zA)
  (ve (bA (ao (ze xX (zc 2) (eC (.str "put")))) (bD (tR (zc 0) (wn 4 VU (za (zc 0) (za (zc 1) (za (ze ak (zc 3) (eC (.int 0))) (za (ze ak (zc 3) (eC (.int 1))) zh))))))) bc) (aB (ao (ze xX (zc 2) (eC (.str "put")))) (z9 (xb (za (zc 0) (za (zq 4 oH (za (zc 0) (za (zc 1) (za (ze ak (zc 3) (eC (.int 0))) (za (ze ak (zc 3) (eC (.int 1))) zh))))) zh)))) zA)
  (ve (bA (ao (ze xX (zc 2) (eC (.str "step")))) (bD (tR (zc 0) (wn 4 wK (za (zc 0) (za (zc 1) (za (ze ak (zc 3) (eC (.int 0))) (za (ze ak (zc 3) (eC (.int 1))) zh))))))) bc) (aB (ao (ze xX (zc 2) (eC (.str "step")))) (z9 (xb (za (zc 0) (za (zq 4 vo (za (zc 0) (za (zc 1) (za (ze ak (zc 3) (eC (.int 0))) (za (ze ak (zc 3) (eC (.int 1))) zh))))) zh)))) zA)
  (bD (wn 1 V9 (za (xb (za (zc 2) (za (ze ak (zc 3) (eC (.int 0))) zh))) zh)))))))
def w4:=cY 4 x9
def zgr (T:Txt P w K mg base ad):T.Px 34 10 4 w4:=by
 letI:KK:=⟨K,ad.dk⟩
 have G_web_of:=Wt T
 have X_web_of:=QT T
 have X_web_for:=zde T
 have G_bare:=Ny T
 have G_tied:=M5 T
 have X_tied:=zk5 T
 have G_cut:=Ls T
 have X_cut:=znT T
 have G_put:=Lg T
 have X_put:=zng T
 have G_step_done:=XH T
 have X_step_done:=zaZ T
 refine v9 (cl:=aW ad) (N:=(Rw 34).N) (ps:=(Rw 34).ps) (T.d 34).fn (sc 34) (gx:=x9) λb A outer s H E a=>?_
 unfold x9
 exact(yr (YJ (zV (yX a) yh (yx _) (aj 2) (zR zQ)) (yb (XQ (PN (G_bare.mono ⋯) a rfl (T.d 29).at_ (T.d 29).kp (T.d 29).bd (Zl (wM (X_web_of.mono ⋯) yw a rfl (T.d 11).at_ (T.d 11).kp (T.d 11).bd (zb (yk (aj 3) (zw zv) (λ_ _=>rfl)) (zb (vB (xZ zi)) zi))))))) yf) (SD.nox (x8 (zV (yX a) yh (yx _) (aj 2) (zR zQ)) (zO (x5 (zF G_bare a rfl (T.d 29) (zb (zF G_web_of a rfl (T.d 11) (zb (yk (aj 3) (zw zv) (λ_ _=>rfl)) (zb (vB (xZ zi)) zi))) zi)))) z5))
  (yr (YJ (zV (yX a) yh (yx _) (aj 2) (zR zQ)) (yb (XQ (ux (Zl (wM (X_tied.mono ⋯) yw a rfl (T.d 30).at_ (T.d 30).kp (T.d 30).bd (zb (aj 0) (zb (yk (aj 3) (zw zv) (λ_ _=>rfl)) (zb (yk (aj 3) (zw zv) (λ_ _=>rfl)) zi)))))))) yf) (SD.nox (x8 (zV (yX a) yh (yx _) (aj 2) (zR zQ)) (zO (x5 (wo (zb (zF G_tied a rfl (T.d 30) (zb (aj 0) (zb (yk (aj 3) (zw zv) (λ_ _=>rfl)) (zb (yk (aj 3) (zw zv) (λ_ _=>rfl)) zi)))) (zb (aj 1) zi))))) z5))
  (yr (YJ (zV (yX a) yh (yx _) (aj 2) (zR zQ)) (yb (XQ (ux (Zl (wM (X_cut.mono ⋯) yw a rfl (T.d 31).at_ (T.d 31).kp (T.d 31).bd (zb (aj 0) (zb (yk (aj 3) (zw zv) (λ_ _=>rfl)) (zb (yk (aj 3) (zw zv) (λ_ _=>rfl)) zi)))))))) yf) (SD.nox (x8 (zV (yX a) yh (yx _) (aj 2) (zR zQ)) (zO (x5 (wo (zb (zF G_cut a rfl (T.d 31) (zb (aj 0) (zb (yk (aj 3) (zw zv) (λ_ _=>rfl)) (zb (yk (aj 3) (zw zv) (λ_ _=>rfl)) zi)))) (zb (aj 1) zi))))) z5))
  (yr (YJ (zV (yX a) yh (yx _) (aj 2) (zR zQ)) (yb (XQ (ux (N5 (aj 0) (Zl (wM (X_put.mono ⋯) yw a rfl (T.d 32).at_ (T.d 32).kp (T.d 32).bd (zb (aj 0) (zb (aj 1) (zb (yk (aj 3) (zw zv) (λ_ _=>rfl)) (zb (yk (aj 3) (zw zv) (λ_ _=>rfl)) zi)))))))))) yf) (SD.nox (x8 (zV (yX a) yh (yx _) (aj 2) (zR zQ)) (zO (x5 (wo (zb (aj 0) (zb (zF G_put a rfl (T.d 32) (zb (aj 0) (zb (aj 1) (zb (yk (aj 3) (zw zv) (λ_ _=>rfl)) (zb (yk (aj 3) (zw zv) (λ_ _=>rfl)) zi))))) zi))))) z5))
  (yr (YJ (zV (yX a) yh (yx _) (aj 2) (zR zQ)) (yb (XQ (ux (N5 (aj 0) (Zl (wM (X_step_done.mono ⋯) yw a rfl (T.d 33).at_ (T.d 33).kp (T.d 33).bd (zb (aj 0) (zb (aj 1) (zb (yk (aj 3) (zw zv) (λ_ _=>rfl)) (zb (yk (aj 3) (zw zv) (λ_ _=>rfl)) zi)))))))))) yf) (SD.nox (x8 (zV (yX a) yh (yx _) (aj 2) (zR zQ)) (zO (x5 (wo (zb (aj 0) (zb (zF G_step_done a rfl (T.d 33) (zb (aj 0) (zb (aj 1) (zb (yk (aj 3) (zw zv) (λ_ _=>rfl)) (zb (yk (aj 3) (zw zv) (λ_ _=>rfl)) zi))))) zi))))) z5))
  (yb (XQ (PN (G_bare.mono ⋯) a rfl (T.d 29).at_ (T.d 29).kp (T.d 29).bd (Zl (wM (X_web_for.mono ⋯) yw a rfl (T.d 24).at_ (T.d 24).kp (T.d 24).bd (zb (wo (zb (aj 2) (zb (yk (aj 3) (zw zv) (λ_ _=>rfl)) zi))) zi)))))))))))
abbrev X6 :=zI (aB (ao (ze xX (zc 2) (eC (.str "heap")))) aU zA)
  (zI (aB (ao (ze xX (zc 2) (eC (.str "ties")))) aU zA)
  (zI (aB (ao (ze xX (zc 2) (eC (.str "steps")))) aU zA)
  (zI (aB (ao (ze xX (zc 2) (eC (.str "far")))) aU zA)
  (zI (aB (ao (ze xX (zc 2) (eC (.str "most")))) aU zA)
  (zI (aB (ao (ze xX (zc 2) (eC (.str "reached")))) aU zA)
  (zI (aB (ao (ze xX (zc 2) (eC (.str "need")))) aU zA)
  (z9 (Do 2 Ew (za (zc 0) (za (zc 1) zh)) "\n" " ; "))))))))
def Y5:=aH 4 X6
def Qv (T:Txt P w K mg base ad):T.Pr 35 9 4 Y5:=by
 letI:KK:=⟨K,ad.dk⟩
 have TK_shown:=zgM T
 refine Ws (N:=(Rw 35).N) (ps:=(Rw 35).ps) (T.d 35).fn (sc 35) (g:=X6) λc A outer s H E b=>?_
 unfold X6
 exact(zC (x8 (zV (yX b) yh (yx _) (aj 2) (zR zQ)) xj z5)
  (zC (x8 (zV (yX b) yh (yx _) (aj 2) (zR zQ)) xj z5)
  (zC (x8 (zV (yX b) yh (yx _) (aj 2) (zR zQ)) xj z5)
  (zC (x8 (zV (yX b) yh (yx _) (aj 2) (zR zQ)) xj z5)
  (zC (x8 (zV (yX b) yh (yx _) (aj 2) (zR zQ)) xj z5)
  (zC (x8 (zV (yX b) yh (yx _) (aj 2) (zR zQ)) xj z5)
  (zC (x8 (zV (yX b) yh (yx _) (aj 2) (zR zQ)) xj z5)
  (zO (x5 (zoh (TK_shown.mono ⋯) b rfl (T.d 26).at_ (T.d 26).kp (T.d 26).bd (zb (aj 0) (zb (aj 1) zi)) (λa=>zmg (TK_shown.mono ⋯) b rfl (T.d 26).at_ (T.d 26).kp (T.d 26).bd gK a ⋯ ⋯)))))))))))
def zj6 (T:Txt P w K mg base ad):xt P w K mg base aM 1 ad.f_Desk___init__ ad.e_Desk___init__ ["self"] (@fD ⟨K,ad.dk⟩):=by
 letI:KK:=⟨K,ad.dk⟩
 exact U3 T.mf_Desk___init__ X2 T.dkc λa A outer s H E b=>Rx (wo (zb (zw zv) (zb (wo zi) zi))) (wo (zb (zw zv) zi)) (xZ zi) (pv 0) (pv 0) (pv 0) (λ_=>rfl) (λ_=>rfl) (λ_=>rfl)
def Yu {g h:zD}(e:g a=.nx ρ'):zI g h a=h ρ':=by unfold zI;rw[e]
def vG {f:zU}{d:D}(h:f (visG a)≈d)(b:bx d=true):aY true f a≈d:=by
 unfold aY
 rw[q4 rfl,h,k6,q4 b]
def zmn {f:zU}{a:SE}{i:Nat}{d w:D}{b:zk}(j:f (visG a)≈d)(g:bx d=true)(e:a[i]?≈(.k w h ⟨z,b⟩))(k:b.length<1000)(c:a.set i (.k w h ⟨z,b++[d]⟩)=ρ':=by rfl):oE i f a=.nx ρ':=by
 unfold oE
 rw[vG j g,e]
 dsimp only
 rw[q4 (t8 (wa (p6 k))),c]
def JD {f:zU}{a:SE}{i:Nat}{d w:D}{p:eF}(g:f (visG a)≈d)(c:bx d=true)(e:a[i]?≈(.k w h p))(b:a.set i (.k d h p)=ρ':=by rfl):mH i f a=.nx ρ':=by
 unfold mH
 rw[vG g c,e]
 exact bN bu.nx b
def Js {f:zU}{b:SE}{i:Nat}{d w:D}{p:eF}(j:f (visG b)≈d)(g:bx d=true)(e:b[i]?≈(.k w h p))(c:b.set i (.k w d p)=a:=by rfl):mJ i f b=.nx a:=by
 unfold mJ
 rw[vG j g,e]
 exact bN bu.nx c
def DQ {i n:Nat}{R:KF}{k w d:D}{g ds:zk}{f:yE}{c:SE}(e:c[i]?≈(.k w h ⟨z,g⟩))(m:f (visG c)≈ds)(q:dI ds=true)(o:ds.length+1=n)(p:R w h g ds≈(j,d,a))(l:c.set i (.k j d ⟨z,a⟩)=b:=by rfl):fY i n R k f c≈(k,b):=by
 unfold fY
 rw[e]
 dsimp only
 rw[m,k6,q4 ⟨q,o⟩,p,<- l]
 rfl
def Jp {f:SE->Option (D × SE)}{d:D}(h:f b≈(d,a)):mG f b=.nx a:=by unfold mG;rw[h]
def yL {t:vz}{g h:zD}(e:t (visG a)≈false):aB t g h a=h a:=by unfold aB;rw[e]
def wr {t:vz}{g:zD}(e:t (visG a)≈true):aB t g h a=g a:=by unfold aB;rw[e]
def MT (d:bx a=true)(c:bx b=true):bx (.tup [a,b])=true:=by
 show(bx a&&(bx b&&true))=true
 rw[d,c]
 rfl
def xo:zD :=zI (oE 0 (xb (za (aF ju (zc 0)) (za (aF jn (zc 0)) zh))))
  (zI (mH 0 (ze ak (zc 1) (eC (.int 0))))
  (mJ 0 (ze ak (zc 1) (eC (.int 1)))))
def xr:KF:=λw h a b=>match b with
 |[.tup [w',h']]=>if bx w=true/\bx h=true/\bx w'=true/\bx h'=true/\a.length<1000 then some (w',h',a++[.tup [w,h]])else none
 |_=>none
def XV:∀ z w h ps f a b c,xr w h ps f≈(a,b,c)->jr 2 xo z w h ps f≈(a,b,⟨z,c⟩):=by
 intro z w h ps f a b c e
 unfold xr at e
 split at e
 .rename_i p q
  split at e <;> cases e
  rename_i l
  obtain⟨g,m,n,j,i⟩:=l
  have k:xo [.k w h ⟨z,ps⟩,.v (.tup [a,b])]=.nx [.k a b ⟨z,ps++[.tup [w,h]]⟩,.v (.tup [a,b])]:=by
   unfold xo
   rw[Yu (zmn (ρ':=[.k w h ⟨z,ps++[.tup [w,h]]⟩,.v (.tup [a,b])]) (d:=.tup [w,h]) (x6 (ds:=[w,h]) (zd (VE (x:=.obj w h ps) rfl rfl) (zd (VE (x:=.obj w h ps) rfl rfl) zE)) (by show 2<=1000;decide)) (MT g m) rfl i)]
   rw[Yu (JD (ρ':=[.k a h ⟨z,ps++[.tup [w,h]]⟩,.v (.tup [a,b])]) (zr (x:=.tup [a,b]) (y:=.int 0) rfl rfl rfl) n rfl)]
   exact Js (zr (x:=.tup [a,b]) (y:=.int 1) rfl rfl rfl) j rfl
  show(match xo [.k w h ⟨z,ps⟩,.v (.tup [a,b])] with
   |.nx o=>(match (o:SE)[0]? with
    |some (Sl.k a b p')=>some (a,b,p')
    |_=>none)
   |_=>none)=_
  rw[k]
  rfl
 .cases e
def Zd (T:Txt P w K mg base ad):xt P w K mg base aM 1 ad.f_Desk_go_on ad.e_Desk_go_on ["self","state"] (@jO ⟨K,ad.dk⟩ 2 xr .non):=by
 letI:KK:=⟨K,ad.dk⟩
 refine CT (N6 (N:=["self","state"]) (ps:=["self","state"]) T.mf_Desk_go_on zaz (g:=xo) λc A outer s H E d=>?_) XV
 unfold xo
 exact(zC (zod (i:=0) T.dkc (pv 0) (wo (zb (oZ T.dkc (aj 0)) (zb (Wy T.dkc (aj 0)) zi))) (λa b=>Zv l6 Ha G9 WA a b))
  (zC (JW (i:=0) T.dkc (pv 0) (yk (aj 1) (zw zv) (λ_ _=>rfl)))
  (zO (JQ (i:=0) T.dkc (pv 0) (yk (aj 1) (zw zv) (λ_ _=>rfl))))))
def yJ:zD :=zI (aB (ao (ze xX (aG Xb (za (aF CG (zc 0)) zh)) (eC (.int 0)))) aU zA)
  (zI (Dd 0 1)
  (zI (mH 0 (ze ak (zc 1) (eC (.int 0))))
  (mJ 0 (ze ak (zc 1) (eC (.int 1))))))
def xf:KF:=λ_ _ a b=>match b,a.getLast? with
 |[],some (.tup [w',h'])=>if bx w'=true/\bx h' then some (w',h',a.dropLast)else none
 |_,_=>none
def ZN:∀ z w h ps i a c g,xf w h ps i≈(a,c,g)->jr 2 yJ z w h ps i≈(a,c,⟨z,g⟩):=by
 intro z w h ps i a c g e
 unfold xf at e
 split at e
 .rename_i o n l
  split at e <;> cases e
  rename_i j
  obtain⟨f,rfl⟩:=Q5.mp l
  have k:yJ [.k w h ⟨z,f++[.tup [a,c]]⟩,.no]=.nx [.k a c ⟨z,f⟩,.v (.tup [a,c])]:=by
   unfold yJ
   rw[Yu (yL (h:=zA) (ye (b:=false) (zr (x:=.int ((f++[D.tup [a,c]]).length:Nat)) (y:=.int 0) (Zu (ds:=[.lst (f++[.tup [a,c]])]) (zd (VE (x:=.obj w h (f++[.tup [a,c]])) rfl rfl) zE) rfl) rfl ?_)))]
   .rw[Yu (ρ':=[.k w h ⟨z,f⟩,.v (.tup [a,c])]) ?_]
    .rw[Yu (JD (ρ':=[.k a h ⟨z,f⟩,.v (.tup [a,c])]) (zr (x:=.tup [a,c]) (y:=.int 0) rfl rfl rfl) j.1 rfl)]
     exact Js (zr (x:=.tup [a,c]) (y:=.int 1) rfl rfl rfl) j.2 rfl
    .show(match (f++[D.tup [a,c]]).getLast? with
      |some d=>bu.nx (([.k w h ⟨z,(f++[D.tup [a,c]]).dropLast⟩,Sl.no]:SE).set 1 (.v d))
      |none=>.no)=_
     rw[List.getLast?_concat,Hs]
     rfl
   .rw[yP,t6]
    rw[k7]
    show ¬ ((f.length+1:Nat):Int)=0
    omega
  show(match yJ [.k w h ⟨z,f++[.tup [a,c]]⟩,.no] with
   |.nx m=>(match (m:SE)[0]? with
    |some (Sl.k a c p')=>some (a,c,p')
    |_=>none)
   |_=>none)=_
  rw[k,Hs]
  rfl
 .cases e
def X1 (T:Txt P w K mg base ad):xt P w K mg base aM 1 ad.f_Desk_go_back ad.e_Desk_go_back ["self"] (@jO ⟨K,ad.dk⟩ 1 xf .non):=by
 letI:KK:=⟨K,ad.dk⟩
 refine CT (N6 (N:=["self","state"]) (ps:=["self"]) T.mf_Desk_go_back vi (g:=yJ) λb A outer s H E c=>?_) ZN
 unfold yJ
 exact(zC (x8 (zV (yX c) yh (yx _) (xp xP Xt rfl (T.z "len" ⋯) XO (zb (Ot T.dkc (aj 0)) zi)) (zw zv)) xj z5)
  (zC (zmY (i:=0) (j:=1) T.dkc vi.nd rfl (Or.inl rfl) (pv 0) rfl (λa=>zpM l6 PySem.F.slot_list_pop PySem.F.type_list_pop zmo a))
  (zC (JW (i:=0) T.dkc (pv 0) (yk (aj 1) (zw zv) (λ_ _=>rfl)))
  (zO (JQ (i:=0) T.dkc (pv 0) (yk (aj 1) (zw zv) (λ_ _=>rfl)))))))
abbrev Y1 :=zI (xa false 2 (zq 1 xI (za (zc 1) zh)))
  (zI (xa false 3 (ze ak (zc 2) (eC (.int 0))))
  (zI (aB (ao (aF (oR zP) (zc 3))) (z9 (zq 4 Y5 (za (aF ju (zc 0)) (za (aF jn (zc 0)) (za (zc 3) (za (ze ak (zc 2) (eC (.int 1))) zh)))))) zA)
  aU))
def xT:=aH 4 Y1
def WK (T:Txt P w K mg base ad):xt P w K mg base aM 11 ad.f_Desk_say ad.e_Desk_say ["self","row"] (@bW ⟨K,ad.dk⟩ 2 xT):=by
 letI:KK:=⟨K,ad.dk⟩
 have G_parsed:=WW T
 have G_answer:=Qv T
 refine Ws (N:=["self","row","told","word"]) (ps:=["self","row"]) T.mf_Desk_say yH (g:=Y1) λb A outer s H E a=>?_
 unfold Y1
 exact(zC (xS (m:=false) (i:=2) yH.nd rfl (Or.inl rfl) (zF G_parsed a rfl (T.d 28) (zb (aj 1) zi)))
  (zC (xS (m:=false) (i:=3) yH.nd rfl (Or.inl rfl) (yk (aj 2) (zw zv) (λ_ _=>rfl)))
  (zC (x8 (Vd T.b_QUESTIONS rfl T.g_QUESTIONS (aj 3)) (zO (x5 (zF G_answer a rfl (T.d 35) (zb (oZ T.dkc (aj 0)) (zb (Wy T.dkc (aj 0)) (zb (aj 3) (zb (yk (aj 2) (zw zv) (λ_ _=>rfl)) zi))))))) z5)
  xj)))
abbrev vk :=bA (ao (ze xX (aG Xb (za (aF CG (zc 0)) zh)) (eC (.int 0)))) (XU 9) bc
def YM:=cY 2 vk
def XX (T:Txt P w K mg base ad):xt P w K mg base (aR P w) 1 ad.f_Desk_go_back ad.e_Desk_go_back ["self"] (@iY ⟨K,ad.dk⟩ (aW ad) 1 YM):=by
 letI:KK:=⟨K,ad.dk⟩
 refine v9 (cl:=aW ad) (N:=["self","state"]) (ps:=["self"]) T.mf_Desk_go_back vi (gx:=vk) λa A outer s H E b=>?_
 unfold vk
 exact(xG (YJ (zV (yX b) yh (yx _) (xp xP Xt rfl (T.z "len" ⋯) XO (zb (Ot T.dkc (aj 0)) zi)) (zw zv)) (yb (Ye (cl:=aW ad) (j:=9) ⟨T.g_NoRow,T.c_NoRow⟩ rfl)) yf))
abbrev xK :=ve (bD (wn 1 vj (za (zc 1) zh))) (xa false 2 (zq 1 xI (za (zc 1) zh)))
  (ve bc (xa false 3 (ze ak (zc 2) (eC (.int 0))))
  (ve bc (aB (ao (aF (oR zP) (zc 3))) (z9 (zq 4 Y5 (za (aF ju (zc 0)) (za (aF jn (zc 0)) (za (zc 3) (za (ze ak (zc 2) (eC (.int 1))) zh)))))) zA)
  (bA (ao (ze xX (zc 3) (eC (.str "back")))) (bD (kE 1 YM (zc 0) (λ_=>some []))) (bD (tL (zc 0) (wn 4 w4 (za (aF ju (zc 0)) (za (aF jn (zc 0)) (za (zc 3) (za (ze ak (zc 2) (eC (.int 1))) zh))))))))))
def xO:=cY 4 xK
def zbI (T:Txt P w K mg base ad):xt P w K mg base (aR P w) 11 ad.f_Desk_say ad.e_Desk_say ["self","row"] (@iY ⟨K,ad.dk⟩ (aW ad) 2 xO):=by
 letI:KK:=⟨K,ad.dk⟩
 have G_parsed:=WW T
 have X_parsed:=zeS T
 have X_after:=zgr T
 have G_answer:=Qv T
 have K_Desk_go_on:=Zd T
 have X_Desk_go_back:=XX T
 refine v9 (cl:=aW ad) (N:=["self","row","told","word"]) (ps:=["self","row"]) T.mf_Desk_say yH (gx:=xK) λb A outer s H E a=>?_
 unfold xK
 exact(yr (K7 (i:=2) yH.nd rfl (Or.inl rfl) (wM (X_parsed.mono ⋯) yw a rfl (T.d 28).at_ (T.d 28).kp (T.d 28).bd (zb (aj 1) zi))) (SD.nox (xS (m:=false) (i:=2) yH.nd rfl (Or.inl rfl) (zF G_parsed a rfl (T.d 28) (zb (aj 1) zi))))
  (yr vE (SD.nox (xS (m:=false) (i:=3) yH.nd rfl (Or.inl rfl) (yk (aj 2) (zw zv) (λ_ _=>rfl))))
  (yr vE (SD.nox (x8 (Vd T.b_QUESTIONS rfl T.g_QUESTIONS (aj 3)) (zO (x5 (zF G_answer a rfl (T.d 35) (zb (oZ T.dkc (aj 0)) (zb (Wy T.dkc (aj 0)) (zb (aj 3) (zb (yk (aj 2) (zw zv) (λ_ _=>rfl)) zi))))))) z5))
  (xG (YJ (zV (yX a) yh (yx _) (aj 3) (zR zQ)) (yb (WT (zmw T.dkc.cl T.mm_Desk_go_back (X_Desk_go_back.mono ⋯) yw a T.mb_Desk_go_back (aj 0)))) (yb (WT (zmL T.dkc.cl T.mm_Desk_go_on (K_Desk_go_on.mono ⋯) a T.mb_Desk_go_on (aj 0) (Zl (wM (X_after.mono ⋯) yw a rfl (T.d 34).at_ (T.d 34).kp (T.d 34).bd (zb (oZ T.dkc (aj 0)) (zb (Wy T.dkc (aj 0)) (zb (aj 3) (zb (yk (aj 2) (zw zv) (λ_ _=>rfl)) zi))))))))))))))
def wv:zD :=zI (xa false 2 (zq 1 xI (za (zc 1) zh)))
  (zI (xa false 3 (ze ak (zc 2) (eC (.int 0))))
  (zI (aB (ao (aF (oR zP) (zc 3))) aU zA)
  (zI (aB (ao (ze xX (zc 3) (eC (.str "back")))) (mG (fY 0 1 xf .non (λ_=>some []))) (mG (fY 0 2 xr .non (za (zq 4 vN (za (aF ju (zc 0)) (za (aF jn (zc 0)) (za (zc 3) (za (ze ak (zc 2) (eC (.int 1))) zh))))) zh))))
  zA)))
def xl:KF:=λw h a ds=>match ds with
 |[row]=>(match xI [row] with
  | some (.tup [.str x,.lst ns])=>if (wz zP x).isSome then none else if x="back" then xf w h a []else match vN [w,h,.str x,.lst ns] with
   |some s=>if bx s then xr w h a [s]else none
   |none=>none
  |_=>none)
 |_=>none
def VJ:∀ z w h ps g f d c,xl w h ps g≈(f,d,c)->jr 4 wv z w h ps g≈(f,d,⟨z,c⟩):=by
 intro z w h ps g f d c e
 unfold xl at e
 split at e
 .rename_i a
  split at e
  .rename_i x ns k
   have m:wv [.k w h ⟨z,ps⟩,.v a,.no,.no]=.nx [.k f d ⟨z,c⟩,.v a,.v (.tup [.str x,.lst ns]),.v (.str x)]:=by
    unfold wv
    rw[Yu (xY (σ':=[.k w h ⟨z,ps⟩,.v a,.v (.tup [.str x,.lst ns]),.no]) (zu (ds:=[a]) rfl k)),
     Yu (xY (σ':=[.k w h ⟨z,ps⟩,.v a,.v (.tup [.str x,.lst ns]),.v (.str x)]) (zr (x:=.tup [.str x,.lst ns]) (y:=.int 0) rfl rfl rfl))]
    cases j:(wz zP x).isSome with
    |true=>rw[j,q4 rfl]at e;cases e
    |false =>
     rw[j,j4 u7]at e
     rw[Yu (yL (h:=zA) (ye (b:=false) (VE (x:=.str x) rfl (by show some (D.bl _)=_;rw[j]))))]
     by_cases i:x="back"
     .rw[q4 i]at e
      refine Yu ((wr (ye (b:=true) (zr (x:=.str x) (y:=.str "back") rfl rfl (by rw[yp,t8 i])))).trans (Jp (DQ rfl rfl rfl rfl e)))
     .rw[j4 i]at e
      split at e
      .rename_i s l
       split at e
       .rename_i n
        refine Yu ((yL (ye (b:=false) (zr (x:=.str x) (y:=.str "back") rfl rfl (by rw[yp,t6 i])))).trans (Jp (DQ (ds:=[s]) rfl (zd (zu (ds:=[w,h,.str x,.lst ns]) rfl l) zE) (by show(bx s&&true)=true;rw[n];rfl) rfl e)))
       .cases e
      .cases e
   show(match wv [.k w h ⟨z,ps⟩,.v a,.no,.no] with
    |.nx o=>(match (o:SE)[0]? with
     |some (Sl.k f d p')=>some (f,d,p')
     |_=>none)
    |_=>none)=_
   rw[m]
   rfl
  .cases e
 .cases e
def zcz (T:Txt P w K mg base ad):xt P w K mg base aM 11 ad.f_Desk_say ad.e_Desk_say ["self","row"] (@jO ⟨K,ad.dk⟩ 2 xl (.str "ok")):=by
 letI:KK:=⟨K,ad.dk⟩
 have G_parsed:=WW T
 have G_after:=zkv T
 have K_Desk_go_on:=Zd T
 have K_Desk_go_back:=X1 T
 refine CT (zm4 (N:=["self","row","told","word"]) (ps:=["self","row"]) T.mf_Desk_say yH (g:=wv) λb A outer s H E a=>?_) VJ
 unfold wv
 exact(Wn (xS (m:=false) (i:=2) yH.nd rfl (Or.inl rfl) (zF G_parsed a rfl (T.d 28) (zb (aj 1) zi)))
  (Wn (xS (m:=false) (i:=3) yH.nd rfl (Or.inl rfl) (yk (aj 2) (zw zv) (λ_ _=>rfl)))
  (Wn (x8 (Vd T.b_QUESTIONS rfl T.g_QUESTIONS (aj 3)) xj z5)
  (Wn (x8 (zV (yX a) yh (yx _) (aj 3) (zR zQ)) (zO (JM (zmU T.dkc.cl T.mm_Desk_go_back (K_Desk_go_back.mono ⋯) a T.mb_Desk_go_back (pv 0)))) (zO (JM (Ka T.dkc.cl T.mm_Desk_go_on (K_Desk_go_on.mono ⋯) a T.mb_Desk_go_on (pv 0) (zb (zF G_after a rfl (T.d 34) (zb (oZ T.dkc (aj 0)) (zb (Wy T.dkc (aj 0)) (zb (aj 3) (zb (yk (aj 2) (zw zv) (λ_ _=>rfl)) zi))))) zi)))))
  zmf))))
section
variable {m:Int}{ts:yg}{h:Hl}{a b:Int}
def Di {t:vz}{g:yW}{a:SE}(e:t (visG a)≈false):bA t g bc a=none:=by
 unfold bA
 rw[e]
 rfl
def lz {t:vz}{g h:yW}{a:SE}(e:t (visG a)≈true)(b:g a≈j):bA t g h a≈j:=by
 unfold bA
 rw[e]
 exact b
def ph {a:yW}{g:zD}{b:SE}(e:a b≈j):ve a g c b≈j:=by
 unfold ve
 rw[e]
def v7 {n:Nat}{r:fU}{a:yE}{b:Ev}{ds:zk}(d:a b≈ds)(c:r ds=j)(e:ds.length=n:=by rfl):wn n r a b=j:=by
 unfold wn
 rw[d,k6,q4 e]
 exact c
def M7 {p:Int}(d:decide (0<=p/\p<m)=c):yA [.int m,.int p]≈(.bl c):=by
 show some (D.bl (bB m p))=_
 unfold bB
 rw[<-d]
 congr 2
 by_cases b:0<=p/\p<m
 .rw[t8 b]
  simp only[j7,j8]
  omega
 .rw[t6 b]
  by_cases a:0<=p
  .rw[t8 a,Bool.true_and]
   exact t6 ∅
  .rw[t6 a,Gi]
def uW {p:Int}(a:¬ (0<=p/\p<m)):zH [zJ m ts,.int p]≈3:=by
 show yj [.v (zJ m ts),.v (.int p)]=_
 unfold yj
 exact lz (wh (b:=false) (ye (zu (ds:=[.int m,.int p]) rfl (M7 (t6 a))))) rfl
def WG {p:Int}(a:0<=p/\p<m):zH [zJ m ts,.int p]=none:=by
 show yj [.v (zJ m ts),.v (.int p)]=_
 unfold yj
 exact Di (wh (b:=true) (ye (zu (ds:=[.int m,.int p]) rfl (M7 (t8 a)))))
def xy.hp (A:xy m ts h):qY m h:=⟨A.len,A.nn,A.sum⟩
def R4 (ok:wA m ts):vO [zJ m ts]=none:=by
 have e:Yk [zJ m ts]≈(.bl true):=by
  show(if bf (zJ m ts) then some (D.bl (Yv (zJ m ts)))else none)=_
  rw[q4 (Om m ts),(Yb _).mpr ⟨_,_,rfl,ok⟩]
 show xH [.v (zJ m ts)]=_
 unfold xH
 exact Di (wh (b:=true) (ye (zu (ds:=[zJ m ts]) rfl e)))
def X9 (ok:wA m ts){g:Hl}(a:vq m (hD g)=c):yu [zJ m ts,hD g]≈(.bl c):=by
 show(if (bf (.tup (g.map .int))&&decide (m<=1000)) then some (D.bl (vq m (hD g)))else none)=_
 rw[Fl,Vv ok,a]
 rfl
def zoS (A:xy m ts h):vv [zJ m ts,hD h]=none:=by
 show xn [.v (zJ m ts),.v (hD h)]=_
 unfold xn
 exact Di (wh (b:=true) (ye (zu (ds:=[zJ m ts,hD h]) rfl (X9 A.ok (Y4 A.len A.nn A.sum)))))
def CW {k:yW}(h0:zc 0 (visG c)≈(zJ m ts))(f:zc i (visG c)≈(.int a))(l:zc j (visG c)≈(.int b))(h:¬ ((0<=a/\a<m)/\(0<=b/\b<m))) :
 ve (bD (wn 2 zH (za (zc 0) (za (zc i) zh)))) (Yd (zq 2 zp (za (zc 0) (za (zc i) zh)))) (ve (bD (wn 2 zH (za (zc 0) (za (zc j) zh)))) (Yd (zq 2 zp (za (zc 0) (za (zc j) zh)))) k) c≈3:=by
 by_cases e:0<=a/\a<m
 .have g:¬ (0<=b/\b<m):=λg=>h ⟨e,g⟩
  refine yS (ρ':=c) (v7 (zd h0 (zd f zE)) (WG e)) (y8 (d:=.non) (zu (zd h0 (zd f zE)) (yC e))) ?_
  exact ph (v7 (zd h0 (zd l zE)) (uW g))
 .exact ph (v7 (zd h0 (zd f zE)) (uW e))
def DY {h:yW}{k:Nat}(h0:zc 0 (visG c)≈(zJ m ts))(g:zc i (visG c)≈(.int a))(l:zc j (visG c)≈(.int b))(f:0<=a/\a<m)(n:0<=b/\b<m)(e:h c≈k) :
 ve (bD (wn 2 zH (za (zc 0) (za (zc i) zh)))) (Yd (zq 2 zp (za (zc 0) (za (zc i) zh)))) (ve (bD (wn 2 zH (za (zc 0) (za (zc j) zh)))) (Yd (zq 2 zp (za (zc 0) (za (zc j) zh)))) h) c≈k :=
 yS (ρ':=c) (v7 (zd h0 (zd g zE)) (WG f)) (y8 (d:=.non) (zu (zd h0 (zd g zE)) (yC f)))
  (yS (ρ':=c) (v7 (zd h0 (zd l zE)) (WG n)) (y8 (d:=.non) (zu (zd h0 (zd l zE)) (yC n))) e)
def Qg (f:ts.length<=28)(h0:zc 0 c≈(zJ m ts))(e:zc 1 c≈(.int a))(d:zc 2 c≈(.int b)):za (ze ak (zc 0) (eC (.int 0))) (za (ze yY (yc (bJ vX (za (ze ak (zc 0) (eC (.int 1))) zh))) (yc (zK (za (xb (za (zc 1) (za (zc 2) zh))) zh)))) zh) c≈[.int m,.lst ((ts++[(a,b)]).map zg)]:=by
 refine zd (zr (x:=zJ m ts) (y:=.int 0) h0 rfl rfl) (zd (zr (x:=.lst (ts.map zg)) (y:=.lst [zg (a,b)]) (xE (Dy (ds:=[.tup (ts.map zg)]) (zd (zr (x:=zJ m ts) (y:=.int 1) h0 rfl rfl) zE) rfl)) (xE (wN (zd (x6 (zd e (zd d zE)) (by show 2<=1000;decide)) zE) (by show 1<=1000;decide))) ?_) zE)
 rw[w8 (by rw[u8];show ts.length+1<=1000;omega),g5]
 rfl
def Jj (ok:wA m ts):∀ s∈ts,kI m s:=λs a=>by
 have:=ok.rng s a
 exact⟨⟨this.1,by omega⟩,⟨by omega,this.2.2⟩,by omega⟩
def znh (h:s.1<s.2):zZ s.1 s.2=s:=by
 unfold zZ
 rw[j4 ∅,q4 ∅]
def Fw (ok:wA m ts):ts.map (λs=>zZ s.1 s.2)=ts:=(Gy λs a=>znh (ok.rng s a).2.1).trans (List.map_id ts)
def uc (ok:wA m ts):ts.Nodup:=ok.srt.imp λ{a b} h e=>by
 subst e
 unfold cF at h
 omega
def zp4 (ok:wA m ts)(g:ts.length<=28)(d:0<=a/\a<m)(c:0<=b/\b<m)(f:a=b\/zZ a b∈ts):uH [zJ m ts,.int a,.int b]≈(16+64*(ts.length+1)):=by
 show WV [.v (zJ m ts),.v (.int a),.v (.int b)]=_
 unfold WV
 refine DY rfl rfl rfl d c (v7 (Qg g rfl rfl rfl) ?_)
 rw[g5]
 refine zho ⟨ok.lo,ok.hi⟩ (Jj ok) (by rw[Fw ok];exact uc ok) ∅ ?_
 by_cases e:a=b
 .refine .inl ?_
  show some (D.bl (bB m a&&bB m b&&!decide (a=b)))=_
  rw[t8 e]
  simp
 .refine .inr ⟨(a,b),rfl,⟨d,c,e⟩,?_⟩
  rw[Fw ok]
  exact f.resolve_left e
def rA (ts:yg)(t:aZ):yg:=X4 (ts++[t])
def Ou (ok:wA m ts)(k:0<=a/\a<m)(l:0<=b/\b<m)(j:a≠b)(g:zZ a b∉ts):wA m (rA ts (zZ a b)):=by
 have f:=Xc (ts++[zZ a b])
 refine⟨ok.lo,ok.hi,λt i=>?_,zbX ?_⟩
 .rcases lQ.mp (f.mem_iff.mp i)with h|h
  .exact ok.rng t h
  .rw[j6.mp h]
   unfold zZ
   dsimp only
   split <;> split <;> omega
 .rw[GF]
  exact⟨uc ok,Hm _ _,λx d y c e=>g (by rw[<-j6.mp c,<- e];exact d)⟩
def Ac (ok:wA m ts):(ts.map pl).Pairwise λa b=>HT.lexLt b a=false:=by
 rw[List.pairwise_map]
 refine ok.srt.imp λ{a b} h=>?_
 unfold cF at h
 show HT.lexLt [b.1,b.2] [a.1,a.2]=false
 unfold HT.lexLt HT.lexLt HT.lexLt
 split
 .split
  .rfl
  .exact t6 ∅
 .exact t6 ∅
def zne (ok:wA m ts)(o:ts.length<=28)(c:0<=a/\a<m)(f:0<=b/\b<m)(g:a≠b)(j:zZ a b∉ts):oU [zJ m ts,.int a,.int b]≈(zJ m (rA ts (zZ a b))):=by
 refine YB (ρ:=[.v (zJ m ts),.v (.int a),.v (.int b)]) rfl ?_
 unfold Kh
 refine zt (y8 (d:=.non) (zu (ds:=[zJ m ts,.int a]) rfl (yC c))) ?_
 refine zt (y8 (d:=.non) (zu (ds:=[zJ m ts,.int b]) rfl (yC f))) ?_
 have i:(ts++[(a,b)]).map (λs=>zZ s.1 s.2)=ts++[zZ a b]:=by
  rw[g5,Fw ok]
  rfl
 refine vP (d:=zJ m (rA ts (zZ a b))) (zY (zu (Qg o rfl rfl rfl) (zgJ ⟨ok.lo,ok.hi⟩ (λs k=>?_) ?_ ?_ ?_ (Ac (Ou ok c f g j))))) rfl
 .rcases lQ.mp k with h|h
  .exact Jj ok s h
  .rw[j6.mp h]
   exact⟨c,f,g⟩
 .rw[i,GF]
  exact⟨uc ok,Hm _ _,λx n y l e=>j (by rw[<-j6.mp l,<- e];exact n)⟩
 .rw[k7]
  show ts.length+1<64
  omega
 .rw[i]
  exact(Xc _).symm
def Zy (t:aZ)(ts:yg):Yw (zg t) (.tup (ts.map zg))≈(.bl (!decide (t∈ts))):=by
 have e:=Wj t ts
 show(dR (zg t) (ts.map zg)).map (λb=>D.bl (!b))=_
 have d:(dR (zg t) (ts.map zg)).map D.bl≈(.bl (decide (t∈ts))):=e
 obtain⟨b,c,a⟩:=t4.mp d
 injection a with a
 rw[c,<- a]
 rfl
def RL (d:0<=a/\a<m)(c:0<=b/\b<m)(e:zZ a b∉ts):uo [zJ m ts,.int a,.int b]≈(16+64*(ts.length+1)):=by
 show V0 [.v (zJ m ts),.v (.int a),.v (.int b),.no]=_
 unfold V0
 refine DY rfl rfl rfl d c ?_
 refine yS (ρ':=[.v (zJ m ts),.v (.int a),.v (.int b),.v (zg (zZ a b))]) rfl (xY (zu (ds:=[.int a,.int b]) rfl rfl)) ?_
 refine lz (ye (b:=true) (zr (x:=zg (zZ a b)) (y:=.tup (ts.map zg)) rfl rfl (by rw[Zy,t6 e];rfl))) ?_
 unfold fj
 rw[show za (aG Xb (za (ze ak (zc 0) (eC (.int 1))) zh)) zh (visG [.v (zJ m ts),.v (.int a),.v (.int b),.v (zg (zZ a b))])≈[.int ((ts.map zg).length:Nat)]from rfl,k6,u8]
 show(if -1<=((ts.length:Nat):Int)then some (0+16*1+64*(((ts.length:Nat):Int)+1).toNat)else none)=_
 rw[q4 ∅,show(((ts.length:Nat):Int)+1).toNat=ts.length+1 by omega]
def znY (s t:aZ):kO (zg s) (zg t)≈(.bl (!decide (s=t))):=by
 show(if (aL 20 (zg s)&&aL 20 (zg t)) then some (D.bl (!aO 20 (zg s) (zg t)))else none)=_
 rw[Fz]
 rfl
def Kp (t:aZ){a:Ev}(h0:zc i0 a≈(zJ m ts))(c:zc i3 a≈(zg t))(e:ts.length<=28):aV (bz (ze ak (zc i0) (eC (.int 1)))) b1 (ao (ze kO (zc 0) (zc (i3+1)))) (zc 0) a≈((ts.filter λs=>!decide (s=t)).map zg):=by
 unfold aV
 rw[lH (ds:=ts.map zg) (d:=.tup (ts.map zg)) (zr (x:=zJ m ts) (y:=.int 1) h0 rfl rfl) rfl,k6,q4 (Z1 (by rw[u8];omega))]
 refine QS zg (λs=>!decide (s=t)) zg ts λs _=>⟨[some (zg s)],rfl,?_,λ_=>rfl⟩
 have b:zc (i3+1) ([some (zg s)]++a)≈(zg t):=c
 exact ye (zr (x:=zg s) (y:=zg t) rfl b (znY s t))
def zog (ok:wA m ts)(t:aZ):wA m (ts.filter λs=>!decide (s=t)):=⟨ok.lo,ok.hi,λs a=>ok.rng s (Gj.mp a).1,ok.srt.filter _⟩
def T5 (g:ts.length<=28)(c:0<=a/\a<m)(f:0<=b/\b<m)(e:zZ a b∈ts):nR [zJ m ts,.int a,.int b]≈(zJ m (ts.filter λs=>!decide (s=zZ a b))):=by
 refine YB (ρ:=[.v (zJ m ts),.v (.int a),.v (.int b),.no]) rfl ?_
 unfold JT
 refine zt (y8 (d:=.non) (zu (ds:=[zJ m ts,.int a]) rfl (yC c))) ?_
 refine zt (y8 (d:=.non) (zu (ds:=[zJ m ts,.int b]) rfl (yC f))) ?_
 refine zt (xY (σ':=[.v (zJ m ts),.v (.int a),.v (.int b),.v (zg (zZ a b))]) (zu (ds:=[.int a,.int b]) rfl rfl)) ?_
 refine zt ((yL (ye (b:=false) (zr (x:=zg (zZ a b)) (y:=.tup (ts.map zg)) rfl rfl (by rw[Zy,t8 e];rfl)))).trans rfl) ?_
 exact vP (d:=zJ m (ts.filter λs=>!decide (s=zZ a b))) (zY (x6 (zd rfl (zd (Zu (ds:=[.lst ((ts.filter λs=>!decide (s=zZ a b)).map zg)]) (zd (xE (Kp (i3:=3) (zZ a b) rfl rfl g)) zE) rfl) zE)) (by show 2<=1000;decide))) rfl
def Ww (ok:wA m ts):Vk ts (zg (a,b))=if decide (zZ a b∈ts) then some (a,b)else none:=W9 ts a b
def K8:∀ e∈[zg (a,b)],dU e:=λe c=>by
 rw[j6.mp c]
 exact .pair a b
def zgu (A:xy m ts h)(g:zZ a b∈ts)(i:2<=aN h a):Gd [zJ m ts,hD h,.lst [zg (a,b)]]≈(.lst [hD (wf h (a,b))]):=by
 have e:Vk ts (zg (a,b))≈(a,b):=by rw[Ww A.ok,q4 (t8 g)]
 have f:=NT A.ok A.len (K8 (a:=a) (b:=b)) (by show 1<=900;decide)
 have c:¬ aN h (a,b).1<2:=by show ¬ aN h a<2;omega
 rw[Qp e c,Wp e c]at f
 refine YB (ρ:=[.v (zJ m ts),.v (hD h),.v (.lst [zg (a,b)]),.no,.no]) rfl ?_
 unfold Pj
 refine zt (y8 (d:=.non) (zu (ds:=[zJ m ts]) rfl (Kv A.ok))) (zt (y8 (d:=.non) (zu (ds:=[zJ m ts,hD h]) rfl (Nj A.ok A.hp))) ?_)
 refine zt (xY (σ':=[.v (zJ m ts),.v (hD h),.v (.lst [zg (a,b)]),.v (.tup [.lst [hD (wf h (a,b))],.non]),.no]) (zu (ds:=[_,_,_]) rfl f)) ?_
 refine zt (xY (σ':=[.v (zJ m ts),.v (hD h),.v (.lst [zg (a,b)]),.v (.tup [.lst [hD (wf h (a,b))],.non]),.v .non]) rfl) ?_
 refine zt ((yL (ye (b:=false) rfl)).trans rfl) ?_
 exact vP (zY rfl) rfl
def zkp (A:xy m ts h)(k:zZ a b∉ts\/aN h a<2):W2 [zJ m ts,hD h,.lst [zg (a,b)]]≈90:=by
 have e:=NT A.ok A.len (K8 (a:=a) (b:=b)) (by show 1<=900;decide)
 obtain⟨s,i,e⟩:∃ s:Str,s≠"list"/\V7 [zJ m ts,hD h,.lst [zg (a,b)]]≈(.tup [.lst [],.tup [.str s,.int ((0:Nat):Int)]]):=by
  by_cases g:zZ a b∈ts
  .have f:Vk ts (zg (a,b))≈(a,b):=by rw[Ww A.ok,q4 (t8 g)]
   have c:aN h (a,b).1<2:=k.resolve_left λz=>z g
   rw[W0 f c,Zp f c]at e
   exact⟨"bare",by decide,e⟩
  .have f:Vk ts (zg (a,b))=none:=by rw[Ww A.ok,j4 (by rw[t6 g];exact u7)]
   rw[WL f,Zz f]at e
   exact⟨"form",by decide,e⟩
 show ZL [.v (zJ m ts),.v (hD h),.v (.lst [zg (a,b)]),.no,.no]=_
 unfold ZL
 refine yS (ρ':=[.v (zJ m ts),.v (hD h),.v (.lst [zg (a,b)]),.no,.no]) (v7 (ds:=[zJ m ts]) rfl (R4 A.ok)) (y8 (d:=.non) (zu (ds:=[zJ m ts]) rfl (Kv A.ok))) (yS (ρ':=[.v (zJ m ts),.v (hD h),.v (.lst [zg (a,b)]),.no,.no]) (v7 (ds:=[zJ m ts,hD h]) rfl (zoS A)) (y8 (d:=.non) (zu (ds:=[zJ m ts,hD h]) rfl (Nj A.ok A.hp))) ?_)
 refine yS (ρ':=[.v (zJ m ts),.v (hD h),.v (.lst [zg (a,b)]),.v (.tup [.lst [],.tup [.str s,.int ((0:Nat):Int)]]),.no]) rfl (xY (zu (ds:=[_,_,_]) rfl e)) ?_
 refine yS (ρ':=[.v (zJ m ts),.v (hD h),.v (.lst [zg (a,b)]),.v (.tup [.lst [],.tup [.str s,.int ((0:Nat):Int)]]),.v (.tup [.str s,.int ((0:Nat):Int)])]) rfl (xY (zr (x:=.tup [.lst [],.tup [.str s,.int ((0:Nat):Int)]]) (y:=.int 1) rfl rfl rfl)) ?_
 refine lz (ye (zr (x:=.tup [.str s,.int ((0:Nat):Int)]) (y:=.non) rfl rfl rfl)) ?_
 have l:ao (ze xX (ze ak (zc 4) (eC (.int 0))) (eC (.str "list"))) (visG [.v (zJ m ts),.v (hD h),.v (.lst [zg (a,b)]),.v (.tup [.lst [],.tup [.str s,.int ((0:Nat):Int)]]),.v (.tup [.str s,.int ((0:Nat):Int)])])≈false :=
  ye (zr (x:=.str s) (y:=.str "list") (zr (x:=.tup [.str s,.int ((0:Nat):Int)]) (y:=.int 0) rfl rfl rfl) rfl (by rw[yp,t6 i]))
 have j:za (cZ (ao (ze xX (ze ak (zc 4) (eC (.int 0))) (eC (.str "list")))) (aF V3 (eC (.int 1))) (ze ak (zc 4) (eC (.int 1)))) zh (visG [.v (zJ m ts),.v (hD h),.v (.lst [zg (a,b)]),.v (.tup [.lst [],.tup [.str s,.int ((0:Nat):Int)]]),.v (.tup [.str s,.int ((0:Nat):Int)])])≈[.int 0]:=by
  refine zd ?_ zE
  unfold cZ
  rw[l]
  rfl
 unfold fj
 rw[j]
 rfl
def cu (h:Hl)(a b:Int):Hl:=cj h a (aN h a+b)
def Kg {g:D->yG->yG->Option D}{f:zU}{l h:Ev->Option yG}{a:Ev}{b:yG}(j:f a≈x)(d:l a≈b)(i:h a≈c)(e:g x b c≈z):bK g f l h a≈z:=by
 unfold bK
 rw[j,d,i]
 exact e
def K1 {f:zU}{a:Ev}(h:f a≈(.int i)):wD f a≈(some i):=by
 unfold wD
 rw[h]
 rfl
def uy (A:xy m ts h)(j:0<=a/\a<m){d:Nat}(g:zc c e≈(hD h))(f:zc d e≈(.int a))(p:zc l e≈(.int b)) :
 ze yY (ze yY (bK eU (zc c) vb (wD (zc d))) (xb (za (ze yY (ze ak (zc c) (zc d)) (zc l)) zh))) (bK eU (zc c) (wD (ze yY (zc d) (eC (.int 1)))) vb) e≈(hD (cu h a b)):=by
 have r:=A.len
 have q:=A.ok.hi
 obtain⟨k,rfl⟩:=Bl j.1
 have o:k<h.length:=by omega
 have n:=Z7 (ns:=h) (i:=(k:Int)) j.1 ∅
 refine zr (x:=.tup ((h.map .int).take k++[.int (aN h k+b)])) (y:=.tup ((h.map .int).drop (k+1))) (zr (x:=.tup ((h.map .int).take k)) (y:=.tup [.int (aN h k+b)]) (Kg g rfl (K1 f) ?_) (x6 (zd (zr (x:=.int (aN h k)) (y:=.int b) (zr (x:=hD h) (y:=.int (k:Int)) g f n) p rfl) zE) (by show 1<=1000;decide)) (O9 ?_)) (Kg g (K1 (i:=((k+1:Nat):Int)) (zr f rfl rfl)) rfl ?_) ?_
 .show some (D.tup (VI (h.map .int) none (some (k:Int))))=_
  rw[ziV]
 .rw[gW,u8]
  show min k h.length+1<=1000
  omega
 .show some (D.tup (VI (h.map .int) (some ((k+1:Nat):Int)) none))=_
  rw[zgG]
 .rw[O9 (by rw[k7,gW,pK,u8];show min k h.length+1+(h.length-(k+1))<=1000;omega)]
  unfold hD cu cj
  rw[List.set_eq_take_append_cons_drop,q4 (by show k<h.length;exact o),g5,o4,List.map_take,List.map_drop,pN]
  rfl
def znb (h:Hl)(a b:Int):(cu h a b).length=h.length:=Z0 h a _
def Nz (d:(h.length:Int)=m)(c:0<=a/\a<m):(cu h a b).sum=h.sum+b:=by
 unfold cu
 rw[Fq c.1 ∅]
 omega
def Ub (A:xy m ts h)(d:0<=a/\a<m)(e:0<=b):∀ v∈cu h a b,0<=v:=λv c=>by
 have:=A.nn _ (NQ d.1 (show a<(h.length:Int) by rw[A.len];exact d.2))
 rcases Fv c with rfl|c
 .omega
 .exact A.nn v c
def Mu (A:xy m ts h)(c:0<=a/\a<m)(e:0<=b)(d:h.sum+b<=300):xy m ts (cu h a b):=⟨A.ok,A.few,by rw[znb];exact A.len,Ub A c e,by rw[Nz A.len c];exact d⟩
def PX (A:xy m ts h)(d:0<=a/\a<m)(e:0<=b)(c:¬ h.sum+b<=300):vq m (hD (cu h a b))=false:=by
 show(xC m (.tup ((cu h a b).map .int))&&decide ((((cu h a b).map D.int).map jl).sum<=300))=false
 rw[vU,Nz A.len d,t6 c,iR]
def zn6 (A:xy m ts h)(c:0<=a/\a<m)(f:0<=b)(e:h.sum+b<=300):oH [zJ m ts,hD h,.int a,.int b]≈(hD (cu h a b)):=by
 refine YB (ρ:=[.v (zJ m ts),.v (hD h),.v (.int a),.v (.int b),.no]) rfl ?_
 unfold Jr
 refine zt (y8 (d:=.non) (zu (ds:=[zJ m ts,.int a]) rfl (yC c))) ?_
 refine zt (xY (σ':=[.v (zJ m ts),.v (hD h),.v (.int a),.v (.int b),.v (hD (cu h a b))]) (uy A c rfl rfl rfl)) ?_
 have B:=Mu A c f e
 refine zt ((yL (wh (b:=true) (ye (zu (ds:=[zJ m ts,hD (cu h a b)]) rfl (X9 B.ok (Y4 B.len B.nn B.sum)))))).trans rfl) ?_
 exact vP (zY rfl) rfl
def Rz (A:xy m ts h)(f:0<=b)(e:¬ ((0<=a/\a<m)/\h.sum+b<=300)):∃ j,VU [zJ m ts,hD h,.int a,.int b]≈j/\(j=2\/j=3):=by
 show ∃ j,Vr [.v (zJ m ts),.v (hD h),.v (.int a),.v (.int b),.no]≈j/\(j=2\/j=3)
 unfold Vr
 by_cases c:0<=a/\a<m
 .refine⟨2,?_,.inl rfl⟩
  refine yS (ρ':=[.v (zJ m ts),.v (hD h),.v (.int a),.v (.int b),.no]) (v7 (ds:=[zJ m ts,.int a]) rfl (WG c)) (y8 (d:=.non) (zu (ds:=[zJ m ts,.int a]) rfl (yC c))) ?_
  refine yS (ρ':=[.v (zJ m ts),.v (hD h),.v (.int a),.v (.int b),.v (hD (cu h a b))]) rfl (xY (uy A c rfl rfl rfl)) ?_
  exact lz (wh (b:=false) (ye (zu (ds:=[zJ m ts,hD (cu h a b)]) rfl (X9 A.ok (PX A c f λz=>e ⟨c,z⟩))))) rfl
 .exact⟨3,ph (v7 (ds:=[zJ m ts,.int a]) rfl (uW c)),.inr rfl⟩
def zf1 (A:xy m ts h)(e:zZ a b∈ts)(d:2<=aN h a):xy m ts (wf h (a,b)):=by
 have c:Ve h.length (a,b):=Eg A.len (Yo A.ok e)
 refine⟨A.ok,A.few,by rw[Qu];exact A.len,zkJ c A.nn d,?_⟩
 rw[zhZ c]
 have:=A.sum
 omega
def zle (A:xy m ts h)(c:zZ a b∈ts)(e:2<=aN h a):vo [zJ m ts,hD h,.int a,.int b]≈(hD (wf h (a,b))):=by
 obtain⟨g,f,_⟩:=Yo A.ok c
 refine YB (ρ:=[.v (zJ m ts),.v (hD h),.v (.int a),.v (.int b)]) rfl ?_
 unfold Wq
 refine zt (y8 (d:=.non) (zu (ds:=[zJ m ts,.int a]) rfl (yC g))) ?_
 refine zt (y8 (d:=.non) (zu (ds:=[zJ m ts,.int b]) rfl (yC f))) ?_
 exact vP (zY (zr (x:=.lst [hD (wf h (a,b))]) (y:=.int 0) (zu (ds:=[zJ m ts,hD h,.lst [zg (a,b)]]) (zd rfl (zd rfl (zd (xE (wN (zd (x6 (zd rfl (zd rfl zE)) (by show 2<=1000;decide)) zE) (by show 1<=1000;decide))) zE))) (zgu A c e)) rfl rfl)) rfl
end
def zaA:bootBuiltins "ValueError"≈(.type "ValueError"):=by decide +kernel
def sV {n:Nat}(h:n<=13):n<=sizeLine:=by rw[fC];omega
def Zk (T:Txt P w K mg base ad):DG P w K mg base 1 (ad.f 36) (ad.e 36) (Rw 36).ps (N7 (aW ad) (λj=>j<13/\oX K (fO ad) ad.x_StoneError (aW ad j) j)):=by
 letI:KK:=⟨K,ad.dk⟩
 refine znx (N:=(Rw 36).N) (ps:=(Rw 36).ps) (T.d 36).fn (sc 36) (λe H Q E h=>by obtain⟨a,j,g,rfl,_⟩:=h;rfl) λm A outer s H e Q E t u c=>?_
 obtain⟨a,j,g,rfl,r,⟨k,b⟩,q⟩:=c
 refine⟨_,(yV (Yq (i:=1) (sc 36).nd rfl (Or.inl rfl) (ZV (zo (yy y9 rfl (T.z "isinstance" ⋯) zL (zo (pv 0) (zo (y6 (v:=.ref ad.x_NoWeb) rfl T.g_NoWeb rfl) z3))) (zo (yy y9 rfl (T.z "isinstance" ⋯) zL (zo (pv 0) (zo (y6 (v:=.ref ad.x_NoKind) rfl T.g_NoKind rfl) z3))) (zo (yy y9 rfl (T.z "isinstance" ⋯) zL (zo (pv 0) (zo (y6 (v:=.ref ad.x_NoHeap) rfl T.g_NoHeap rfl) z3))) (zo (yy y9 rfl (T.z "isinstance" ⋯) zL (zo (pv 0) (zo (y6 (v:=.ref ad.x_NoPlace) rfl T.g_NoPlace rfl) z3))) z3))))))
  (yV (Yq (i:=1) (sc 36).nd rfl (Or.inl rfl) (oh ug (pv 1) (ZV (zo (yy y9 rfl (T.z "isinstance" ⋯) zL (zo (pv 0) (zo (y6 (v:=.ref ad.x_NoNumber) rfl T.g_NoNumber rfl) z3))) (zo (yy y9 rfl (T.z "isinstance" ⋯) zL (zo (pv 0) (zo (y6 (v:=.ref ad.x_NoTally) rfl T.g_NoTally rfl) z3))) (zo (yy y9 rfl (T.z "isinstance" ⋯) zL (zo (pv 0) (zo (y6 (v:=.ref ad.x_NotTree) rfl T.g_NotTree rfl) z3))) (zo (yy y9 rfl (T.z "isinstance" ⋯) zL (zo (pv 0) (zo (y6 (v:=.ref ad.x_NotJoined) rfl T.g_NotJoined rfl) z3))) z3)))))))
  (yV (Yq (i:=1) (sc 36).nd rfl (Or.inl rfl) (oh ug (pv 1) (ZV (zo (yy y9 rfl (T.z "isinstance" ⋯) zL (zo (pv 0) (zo (y6 (v:=.ref ad.x_NoWeights) rfl T.g_NoWeights rfl) z3))) (zo (yy y9 rfl (T.z "isinstance" ⋯) zL (zo (pv 0) (zo (y6 (v:=.ref ad.x_NoRow) rfl T.g_NoRow rfl) z3))) (zo (yy y9 rfl (T.z "isinstance" ⋯) zL (zo (pv 0) (zo (y6 (v:=.ref ad.x_NoSteps) rfl T.g_NoSteps rfl) z3))) (zo (yy y9 rfl (T.z "isinstance" ⋯) zL (zo (pv 0) (zo (y6 (v:=.ref ad.x_NoText) rfl T.g_NoText rfl) z3))) z3)))))))
  (yV (Yq (i:=1) (sc 36).nd rfl (Or.inl rfl) (oh ug (pv 1) (ZV (zo (yy y9 rfl (T.z "isinstance" ⋯) zL (zo (pv 0) (zo (y6 (v:=.ref ad.x_TooGreat) rfl T.g_TooGreat rfl) z3))) z3))))
  (yV (lG (PW.pt (Jk (Lb (KQ (yy y9 rfl (T.z "isinstance" ⋯) zL (zo (pv 0) (zo (vg (v:=.ty "ValueError") rfl (T.z "ValueError" ⋯) zaA rfl) z3))))) (Kq (Vg lq (Zv l6 PySem.F.slot_list_count PySem.F.type_list_count zgQ (pv 1) (zo lE z3)) zv (yx _))))) (x4 (Ys (J3 Ke zv))) WX) (x4 (Ys (Zv l6 Bk PySem.F.type_list_index zgh (pv 1) (zo lE z3))))))))),?_⟩
 refine zhK (cs:=[ad.x_NoWeb,ad.x_NoKind,ad.x_NoHeap,ad.x_NoPlace]) (bs:=[0 == j,1 == j,2 == j,3 == j]) b.look (bN (λl=>(l.drop 0).take 4) b.hot) (sV (n:=4) ⋯) rfl rfl r λo H1 S1=>?_
 refine FJ (cs:=[ad.x_NoNumber,ad.x_NoTally,ad.x_NotTree,ad.x_NotJoined]) (bs:=[4 == j,5 == j,6 == j,7 == j]) b.look (bN (λl=>(l.drop 4).take 4) b.hot) (by exact sV (n:=8) ⋯) S1 λp H2 S2=>?_
 refine FJ (cs:=[ad.x_NoWeights,ad.x_NoRow,ad.x_NoSteps,ad.x_NoText]) (bs:=[8 == j,9 == j,10 == j,11 == j]) b.look (bN (λl=>(l.drop 8).take 4) b.hot) (by exact sV (n:=12) ⋯) S2 λd H3 S3=>?_
 refine FJ (cs:=[ad.x_TooGreat]) (bs:=[12 == j]) b.look (bN (λl=>(l.drop 12).take 1) b.hot) (by exact sV (n:=13) ⋯) S3 λf H4 S4=>?_
 exact zna b.val b.look k S4 (q _ S4.same)
abbrev Yh :=zI (jk (bD (kE 2 xO (zc 0) (za (zc 1) zh))) (xa false 3 (kJ 2 xT (zc 0) (za (zc 1) zh))) (gn [0,1,2,3,9,10] (nJ (fK [0,1,2,3,9,10]) (Zb (λ_=>some (.int 0)) (Zb (λ_=>some (.int 10)) (λ_=>some []))) (jt (Zb (fK [0,1,2,3,9,10]) (Zb (fA "at" [0,10]) (λ_=>some [])))) (jt (Zb (fK [0,1,2,3,9,10]) (λ_=>some []))))))
  (z9 (zc 3))
def Yi:=aH 4 Yh
def zbW (T:Txt P w K mg base ad):T.Pr 44 12 2 Yi:=by
 letI:KK:=⟨K,ad.dk⟩
 have H_kinds:=Zk T
 have b:∀ j,j∈[0,1,2,3,9,10]->j<13/\oX K (fO ad) ad.x_StoneError (aW ad j) j:=by
  intro j c
  simp only[q5,n0,bT]at c
  rcases c with rfl|rfl|rfl|rfl|rfl|rfl
  .exact⟨by decide,.of T.y_NoWeb⟩
  .exact⟨by decide,.of T.y_NoKind⟩
  .exact⟨by decide,.of T.y_NoHeap⟩
  .exact⟨by decide,.of T.y_NoPlace⟩
  .exact⟨by decide,.of T.y_NoRow⟩
  .exact⟨by decide,.of T.y_NoSteps⟩
 have k:∀ (h:Nat->Option D) j d,gn [0,1,2,3,9,10] h j≈d->PySem.W.exmOne K (.ref (aW ad j)) (.ref ad.x_StoneError)≈true:=λh j d e=>by rw[cT ad j];exact(b _ (Mp e)).2.exm
 have a:∀ j,j%16∈[0,10]->Yc K (aW ad j)/\wX K (aW ad j) "at":=by
  intro j c
  rw[cT ad j]
  generalize j%16=m at c ⊢
  simp only[q5,n0,bT]at c
  rcases c with rfl|rfl
  .exact⟨.of T.ea_NoWeb,wx T.na_NoWeb _ ⋯⟩
  .exact⟨.of T.ea_NoSteps,wx T.na_NoSteps _ ⋯⟩
 have G_Desk_say:=WK T
 have X_Desk_say:=zbI T
 refine Ws (N:=(Rw 44).N) (ps:=(Rw 44).ps) (T.d 44).fn (sc 44) (g:=Yh) λo A outer s H E f=>?_
 unfold Yh
 exact(zC (Kd (i:=2) rfl rfl rfl (sc 44).nd rfl rfl rfl T.g_StoneError (λl W E0 n=>(yb (K7 (i:=3) (sc 44).nd rfl (Or.inl rfl) (Tp T.dkc.cl T.mm_Desk_say (X_Desk_say.mono ⋯) n f T.mb_Desk_say (aj 0) (zb (aj 1) zi))))) (λl W=>(zO (xS (m:=false) (i:=3) (sc 44).nd rfl (Or.inl rfl) (Ly T.dkc.cl T.mm_Desk_say (G_Desk_say.mono ⋯) f T.mb_Desk_say (aj 0) (zb (aj 1) zi))))) (k _) (λok p=>(yV (lG (Vg (Ld f.units) (Y3 (E:=λ_ _ _=>False) H_kinds (f.mono ⋯) rfl (T.d 36).at_ (T.d 36).kp (T.d 36).bd ok (zo (pv 2) z3)) (lJ (zo zv (zo zv z3))) (by with_unfolding_all rfl)) (x4 (Ys (ZV (zo (Y3 (E:=λ_ _ _=>False) H_kinds (f.mono ⋯) rfl (T.d 36).at_ (T.d 36).kp (T.d 36).bd ok (zo (pv 2) z3)) (zo (JL (pv 2) rfl) z3))))) WX) (x4 (Ys (ZV (zo (Y3 (E:=λ_ _ _=>False) H_kinds (f.mono ⋯) rfl (T.d 36).at_ (T.d 36).kp (T.d 36).bd ok (zo (pv 2) z3)) z3)))))) (Lj (Nq (YW (ok:=_) (cT ad) b) (wC uB (wC uB Xo)) (uq (wC (YW (ok:=_) (cT ad) b) (wC (Mi a) Xo))) (uq (wC (YW (ok:=_) (cT ad) b) Xo)))))
  (zO (x5 (aj 3))))
def HY (x:Str)(ns:zk):Bool:=match ns with
 | [.int a]=>decide (1<=a)&&decide (a<=8)&&(!decide (x="ring")||decide (3<=a))&&(!decide (x="star")||decide (a<=7))
 |_=>false
def vQ {t:vz}{d:yW}(e:t (visG c)≈false):ve (bA t a bc) (aB t b zA) d c=d c:=by
 unfold ve bA aB
 rw[e]
 rfl
def uO {t:vz}{a:yW}{g:zD}(e:t (visG b)≈true)(h:a b≈j):ve (bA t a bc) g c b≈j:=ph (lz e h)
def tw (c:Bool)(h:zc i a≈(.str x))(b:decide (x=y)=c:=by decide):ao (ze xX (zc i) (eC (.str y))) a≈c:=ye (zr h rfl (by rw[yp,b]))
def JZ {f:zU}{b:cg}{d:D}(h:f a≈d)(c:b a=r):tR f b a=r:=by
 unfold tR
 rw[h]
 exact c
section
variable {w hh w' h':D}{a b:Int}{j:Nat}
def YD (d:zc 3 c≈(.lst [.int a,.int b])):za (ze ak (zc 3) (eC (.int 0))) (za (ze ak (zc 3) (eC (.int 1))) zh) c≈[.int a,.int b]:=zd (zr d rfl rfl) (zd (zr d rfl rfl) zE)
def zcI (e:oU [w,.int a,.int b]≈w'):vN [w,hh,.str "tie",.lst [.int a,.int b]]≈(.tup [w',hh]):=by
 refine YB (ρ:=[.v w,.v hh,.v (.str "tie"),.v (.lst [.int a,.int b])]) rfl ?_
 unfold Vp
 refine zt ((yL (tw false rfl)).trans rfl) ?_
 refine xz ?_
 rw[wr (tw true rfl)]
 exact vP (zY (x6 (zd (zu (ds:=[w,.int a,.int b]) (zd rfl (YD rfl)) e) (zd rfl zE)) (by show 2<=1000;decide))) rfl
def zck (e:nR [w,.int a,.int b]≈w'):vN [w,hh,.str "cut",.lst [.int a,.int b]]≈(.tup [w',hh]):=by
 refine YB (ρ:=[.v w,.v hh,.v (.str "cut"),.v (.lst [.int a,.int b])]) rfl ?_
 unfold Vp
 refine zt ((yL (tw false rfl)).trans rfl) (zt ((yL (tw false rfl)).trans rfl) (xz ?_))
 rw[wr (tw true rfl)]
 exact vP (zY (x6 (zd (zu (ds:=[w,.int a,.int b]) (zd rfl (YD rfl)) e) (zd rfl zE)) (by show 2<=1000;decide))) rfl
def zbA (e:oH [w,hh,.int a,.int b]≈h'):vN [w,hh,.str "put",.lst [.int a,.int b]]≈(.tup [w,h']):=by
 refine YB (ρ:=[.v w,.v hh,.v (.str "put"),.v (.lst [.int a,.int b])]) rfl ?_
 unfold Vp
 refine zt ((yL (tw false rfl)).trans rfl) (zt ((yL (tw false rfl)).trans rfl) (zt ((yL (tw false rfl)).trans rfl) (xz ?_)))
 rw[wr (tw true rfl)]
 exact vP (zY (x6 (zd rfl (zd (zu (ds:=[w,hh,.int a,.int b]) (zd rfl (zd rfl (YD rfl))) e) zE)) (by show 2<=1000;decide))) rfl
def zbf (e:vo [w,hh,.int a,.int b]≈h'):vN [w,hh,.str "step",.lst [.int a,.int b]]≈(.tup [w,h']):=by
 refine YB (ρ:=[.v w,.v hh,.v (.str "step"),.v (.lst [.int a,.int b])]) rfl ?_
 unfold Vp
 refine zt ((yL (tw false rfl)).trans rfl) (zt ((yL (tw false rfl)).trans rfl) (zt ((yL (tw false rfl)).trans rfl) (zt ((yL (tw false rfl)).trans rfl) (xz ?_))))
 rw[wr (tw true rfl)]
 exact vP (zY (x6 (zd rfl (zd (zu (ds:=[w,hh,.int a,.int b]) (zd rfl (zd rfl (YD rfl))) e) zE)) (by show 2<=1000;decide))) rfl
def WH (e:uH [w,.int a,.int b]≈j):w4 [w,hh,.str "tie",.lst [.int a,.int b]]≈j:=by
 show x9 [.v w,.v hh,.v (.str "tie"),.v (.lst [.int a,.int b])]=_
 unfold x9
 rw[vQ (tw false rfl)]
 exact uO (tw true rfl) (v7 (ds:=[w,.int a,.int b]) (zd rfl (YD rfl)) e)
def Vo (e:uo [w,.int a,.int b]≈j):w4 [w,hh,.str "cut",.lst [.int a,.int b]]≈j:=by
 show x9 [.v w,.v hh,.v (.str "cut"),.v (.lst [.int a,.int b])]=_
 unfold x9
 rw[vQ (tw false rfl),vQ (tw false rfl)]
 exact uO (tw true rfl) (v7 (ds:=[w,.int a,.int b]) (zd rfl (YD rfl)) e)
def Va (e:VU [w,hh,.int a,.int b]≈j):w4 [w,hh,.str "put",.lst [.int a,.int b]]≈j:=by
 show x9 [.v w,.v hh,.v (.str "put"),.v (.lst [.int a,.int b])]=_
 unfold x9
 rw[vQ (tw false rfl),vQ (tw false rfl),vQ (tw false rfl)]
 exact uO (tw true rfl) (JZ (d:=w) rfl (v7 (ds:=[w,hh,.int a,.int b]) (zd rfl (zd rfl (YD rfl))) e))
def XT (e:wK [w,hh,.int a,.int b]≈j):w4 [w,hh,.str "step",.lst [.int a,.int b]]≈j:=by
 show x9 [.v w,.v hh,.v (.str "step"),.v (.lst [.int a,.int b])]=_
 unfold x9
 rw[vQ (tw false rfl),vQ (tw false rfl),vQ (tw false rfl),vQ (tw false rfl)]
 exact uO (tw true rfl) (JZ (d:=w) rfl (v7 (ds:=[w,hh,.int a,.int b]) (zd rfl (zd rfl (YD rfl))) e))
end
def P8:yg:=(List.range 8).flatMap λa:Nat=>(List.range a).map λb:Nat=>((b:Int),(a:Int))
def Pa {a:yg}(ok:wA m a):a.length<=28:=by
 have c:=ok.hi
 refine r6 ((uc ok).length_le_of_subset (l₂:=P8) λt b=>?_) (by decide +kernel)
 have r:=ok.rng t b
 unfold P8
 rw[List.mem_flatMap]
 refine⟨t.2.toNat,iQ.mpr ∅,dX.mpr ⟨t.1.toNat,iQ.mpr ∅,gQ ?_ ?_⟩⟩
 .show((t.1.toNat:Nat):Int)=t.1
  omega
 .show((t.2.toNat:Nat):Int)=t.2
  omega
structure bL where
 m:Int
 ts:yg
 h:Hl
def bL.wd (s:bL):D:=zJ s.m s.ts
def bL.d (s:bL):D:=hD s.h
def bL.Ok (s:bL):Prop:=xy s.m s.ts s.h
def bL.p (s:bL):D:=.tup [s.wd,s.d]
def JN:D->zB
 |.tup a=>a.map jl
 |_=>[]
def jd (w h:D)(x:Str)(ns:zk):Bool:=match ns with
 | [.int a,.int b]=>(if x="tie" then decide ((0<=a/\a<WJ w)/\(0<=b/\b<WJ w))&&!(decide (a=b)||decide (zZ a b∈jy w))
  else if x="cut" then decide ((0<=a/\a<WJ w)/\(0<=b/\b<WJ w))&&decide (zZ a b∈jy w)
  else if x="put" then decide ((0<=a/\a<WJ w)/\(JN h).sum+b<=300)
  else decide (zZ a b∈jy w/\2<=aN (JN h) a))
 |_=>HY x ns
section
variable {s:bL}{a b:Int}
def znj:jd s.wd s.d "tie" [.int a,.int b]=(decide ((0<=a/\a<s.m)/\(0<=b/\b<s.m))&&!(decide (a=b)||decide (zZ a b∈s.ts))):=by
 show(decide ((0<=a/\a<WJ (zJ s.m s.ts))/\(0<=b/\b<WJ (zJ s.m s.ts)))&&!(decide (a=b)||decide (zZ a b∈jy (zJ s.m s.ts))))=_
 rw[Vc,WC]
def zmM:jd s.wd s.d "cut" [.int a,.int b]=(decide ((0<=a/\a<s.m)/\(0<=b/\b<s.m))&&decide (zZ a b∈s.ts)):=by
 show(decide ((0<=a/\a<WJ (zJ s.m s.ts))/\(0<=b/\b<WJ (zJ s.m s.ts)))&&decide (zZ a b∈jy (zJ s.m s.ts)))=_
 rw[Vc,WC]
def Fe:jd s.wd s.d "put" [.int a,.int b]=decide ((0<=a/\a<s.m)/\s.h.sum+b<=300):=by
 show decide ((0<=a/\a<WJ (zJ s.m s.ts))/\((s.h.map D.int).map jl).sum+b<=300)=_
 rw[Vc,vU]
def zka:jd s.wd s.d "step" [.int a,.int b]=decide (zZ a b∈s.ts/\2<=aN s.h a):=by
 show decide (zZ a b∈jy (zJ s.m s.ts)/\2<=aN ((s.h.map D.int).map jl) a)=_
 rw[WC,vU]
end
def CQ (m:Int)(a:yg)(h:Hl):Bool:=decide (1<=m)&&decide (m<=8)&&a.all (λt=>decide (0<=t.1)&&decide (t.1<t.2)&&decide (t.2<m))&&decide (a.Pairwise cF)&&decide (a.length<=28)&&decide ((h.length:Int)=m)&&h.all (λx=>decide (0<=x))&&decide (h.sum<=300)
def Nm (e:CQ m c h=true):xy m c h:=by
 unfold CQ at e
 simp only[j7,j8,o5]at e
 obtain⟨⟨⟨⟨⟨⟨⟨d,g⟩,a⟩,k⟩,f⟩,i⟩,l⟩,j⟩:=e
 exact⟨⟨d,g,λt b=>⟨(a t b).1.1,(a t b).1.2,(a t b).2⟩,k⟩,f,i,l,j⟩
section
variable {w hh row w' h':D}{x:Str}{ns ps:zk}{j:Nat}
def O5 (ns:zB):bx (.tup (ns.map .int))=true:=by
 show dI (ns.map .int)=true
 induction ns with
 |nil=>rfl
 |cons n ns a=>exact a
def My (m:Int)(a:yg):bx (zJ m a)=true:=by
 have:dI (a.map zg)=true:=by
  induction a with
  |nil=>rfl
  |cons t a b=>exact b
 show(true&&(dI (a.map zg)&&true))=true
 rw[this]
 rfl
def Tt (g:xI [row]≈(.tup [.str x,.lst ns])) (h:(wz zP x).isSome=false) (f:x≠"back") (c:vN [w,hh,.str x,.lst ns]≈(.tup [w',h'])) (e:bx w=true) (d:bx hh=true) (a:bx w'=true) (b:bx h'=true) (i:ps.length<1000) :
 xl w hh ps [row]≈(w',h',ps++[.tup [w,hh]]):=by
 unfold xl
 dsimp only
 rw[g]
 dsimp only
 rw[h,j4 u7,j4 f,c]
 dsimp only
 rw[q4 (MT a b)]
 unfold xr
 dsimp only
 rw[q4 ⟨e,d,a,b,i⟩]
def R5 (e:xI [row]≈(.tup [.str x,.lst ns])) (d:vj [row]=none) (f:(wz zP x).isSome=false) (a:x≠"back") (c:w4 [w,hh,.str x,.lst ns]≈j):xO [.obj w hh ps,row]≈j:=by
 show xK [.v (.obj w hh ps),.v row,.no,.no]=_
 unfold xK
 refine yS (ρ':=[.v (.obj w hh ps),.v row,.v (.tup [.str x,.lst ns]),.no]) (v7 (ds:=[row]) rfl d) (xY (zu (ds:=[row]) rfl e)) ?_
 refine yS (ρ':=[.v (.obj w hh ps),.v row,.v (.tup [.str x,.lst ns]),.v (.str x)]) rfl (xY (zr (x:=.tup [.str x,.lst ns]) (y:=.int 0) rfl rfl rfl)) ?_
 refine yS (ρ':=[.v (.obj w hh ps),.v row,.v (.tup [.str x,.lst ns]),.v (.str x)]) rfl ((yL (ye (b:=false) (VE (x:=.str x) rfl (by show some (D.bl _)=_;rw[f])))).trans rfl) ?_
 unfold bA
 rw[tw false rfl (t6 a)]
 show(tL (zc 0) _ _)=_
 unfold tL
 rw[show zc 0 (visG [.v (.obj w hh ps),.v row,.v (.tup [.str x,.lst ns]),.v (.str x)])≈(.obj w hh ps)from rfl,k6]
 exact v7 (ds:=[w,hh,.str x,.lst ns]) rfl c
def RN {t:D}(i:xI [row]≈(.tup [.str x,.lst ns]))(h:vj [row]=none)(j:(wz zP x).isSome=true)(e:Y5 [w,hh,.str x,.lst ns]≈t):xO [.obj w hh ps,row]=none/\xT [.obj w hh ps,row]≈t:=by
 have c:xa false 2 (zq 1 xI (za (zc 1) zh)) [.v (.obj w hh ps),.v row,.no,.no]=.nx [.v (.obj w hh ps),.v row,.v (.tup [.str x,.lst ns]),.no]:=xY (zu (ds:=[row]) rfl i)
 have d:xa false 3 (ze ak (zc 2) (eC (.int 0))) [.v (.obj w hh ps),.v row,.v (.tup [.str x,.lst ns]),.no]=.nx [.v (.obj w hh ps),.v row,.v (.tup [.str x,.lst ns]),.v (.str x)]:=xY (zr (x:=.tup [.str x,.lst ns]) (y:=.int 0) rfl rfl rfl)
 have a:∀ g:zD,aB (ao (aF (oR zP) (zc 3))) (z9 (zq 4 Y5 (za (aF ju (zc 0)) (za (aF jn (zc 0)) (za (zc 3) (za (ze ak (zc 2) (eC (.int 1))) zh)))))) g [.v (.obj w hh ps),.v row,.v (.tup [.str x,.lst ns]),.v (.str x)]=.rt t:=λg=>by
  rw[wr (ye (b:=true) (VE (x:=.str x) rfl (by show some (D.bl _)=_;rw[j])))]
  exact zY (zu (ds:=[w,hh,.str x,.lst ns]) (zd (VE (x:=.obj w hh ps) rfl rfl) (zd (VE (x:=.obj w hh ps) rfl rfl) (zd rfl (zd rfl zE)))) e)
 refine⟨?_,?_⟩
 .show xK [.v (.obj w hh ps),.v row,.no,.no]=_
  unfold xK
  have f:bD (wn 1 vj (za (zc 1) zh)) [.v (.obj w hh ps),.v row,.no,.no]=none:=v7 (ds:=[row]) rfl h
  unfold ve
  rw[f,c]
  dsimp only
  rw[show bc [.v (.obj w hh ps),.v row,.v (.tup [.str x,.lst ns]),.no]=none from rfl,d]
  dsimp only
  rw[show bc [.v (.obj w hh ps),.v row,.v (.tup [.str x,.lst ns]),.v (.str x)]=none from rfl,a]
 .refine YB (ρ:=[.v (.obj w hh ps),.v row,.no,.no]) rfl ?_
  unfold Y1
  exact zt c (zt d (xz (vP (a _) rfl)))
end
def Wd {a b:Str}(h:a.length+b.length<=1000):yY (.str a) (.str b)≈(.str (a++b)):=by
 show(if bI (a.length+b.length) then _ else none)=_
 rw[q4 (Z1 h)]
def Ep (a b:Str):(a++b).length=a.length+b.length:=by
 show(a.cps++b.cps).size=_
 rw[Array.size_append]
 rfl
def Od:(Str.ofString " ").length=1:=by decide
def lw (m:Int) (a:yg) (h:zB):Str:=Txt.replace (iG m a h) "\n" " ; "
def zch {h:zB} (A:xy m a h):Y5 [zJ m a,.tup (h.map .int),.str "shown",.lst []]≈(.str (lw m a h)):=by
 refine YB (ρ:=[.v (zJ m a),.v (.tup (h.map .int)),.v (.str "shown"),.v (.lst [])]) rfl ?_
 unfold X6
 refine zt ((yL (tw false rfl)).trans rfl) (zt ((yL (tw false rfl)).trans rfl) (zt ((yL (tw false rfl)).trans rfl) (zt ((yL (tw false rfl)).trans rfl) (zt ((yL (tw false rfl)).trans rfl) (zt ((yL (tw false rfl)).trans rfl) (zt ((yL (tw false rfl)).trans rfl) ?_))))))
 refine vP (d:=.str (lw m a h)) (zY ?_) rfl
 unfold Do
 rw[zu (ds:=[zJ m a,.tup (h.map .int)]) rfl (zjy A),k6]
 dsimp only
 rw[q4 (r6 A.short ⋯)]
 rfl
def zh5 {h:zB} (A:xy m a h):xT [.obj (zJ m a) (.tup (h.map .int)) b,.str "shown"]≈(.str (lw m a h)) :=
 (RN (x:="shown") (ns:=[]) (by kernel_rfl) (by kernel_rfl) (by kernel_rfl) (zch A)).2
def xV:zD :=zI (jk bc (iZ 3 (fY 0 2 xl (.str "ok") (za (zc 1) zh))) (gn [0,1,2,3,9,10] (nJ (fK [0,1,2,3,9,10]) (Zb (λ_=>some (.int 0)) (Zb (λ_=>some (.int 10)) (λ_=>some []))) (jt (Zb (fK [0,1,2,3,9,10]) (Zb (fA "at" [0,10]) (λ_=>some [])))) (jt (Zb (fK [0,1,2,3,9,10]) (λ_=>some [])))))) zA
def vM:SE->Option D:=(aY true (zc 3))
def xQ:KV:=λw h a b=>match b with
 | [row]=>if bx row then (xl w h a [row]).map λr=>(.str "ok",r)else none
 |_=>none
def WP:∀ z w h ps i d f c b,xQ w h ps i≈(d,f,c,b)->Dg 4 xV vM z w h ps i≈(d,f,c,⟨z,b⟩):=by
 intro z w h ps i d f c b e
 unfold xQ at e
 split at e
 .rename_i a
  split at e
  .rename_i l
   obtain⟨⟨q,r,o⟩,k,m⟩:=t4.mp e
   cases m
   have n:xV [.k w h ⟨z,ps⟩,.v a,.no,.no]=.nx [.k f c ⟨z,b⟩,.v a,.no,.v (.str "ok")]:=by
    unfold xV
    refine Yu (g:=jk _ _ _) (h:=zA) ?_
    show iZ 3 _ _=_
    unfold iZ
    have p:fY 0 2 xl (.str "ok") (za (zc 1) zh) [.k w h ⟨z,ps⟩,.v a,.no,.no]≈(.str "ok",[.k f c ⟨z,b⟩,.v a,.no,.no]):=DQ (ds:=[a]) rfl rfl (by show(bx a&&true)=true;rw[l];rfl) rfl k
    rw[p]
    rfl
   show(match xV [.k w h ⟨z,ps⟩,.v a,.no,.no] with
    |.nx j=>(match (j:SE)[0]?,vM j with
     |some (Sl.k f c p'),some d=>some (d,f,c,p')
     |_,_=>none)
    |_=>none)=_
   rw[n]
   rfl
  .cases e
 .cases e
def zal (T:Txt P w K mg base ad):xt P w K mg base aM 12 (ad.f 44) (ad.e 44) (Rw 44).ps (@CP ⟨K,ad.dk⟩ 2 xQ):=by
 letI:KK:=⟨K,ad.dk⟩
 have H_kinds:=Zk T
 have b:∀ j,j∈[0,1,2,3,9,10]->j<13/\oX K (fO ad) ad.x_StoneError (aW ad j) j:=by
  intro j c
  simp only[q5,n0,bT]at c
  rcases c with rfl|rfl|rfl|rfl|rfl|rfl
  .exact⟨by decide,.of T.y_NoWeb⟩
  .exact⟨by decide,.of T.y_NoKind⟩
  .exact⟨by decide,.of T.y_NoHeap⟩
  .exact⟨by decide,.of T.y_NoPlace⟩
  .exact⟨by decide,.of T.y_NoRow⟩
  .exact⟨by decide,.of T.y_NoSteps⟩
 have k:∀ (h:Nat->Option D) j d,gn [0,1,2,3,9,10] h j≈d->PySem.W.exmOne K (.ref (aW ad j)) (.ref ad.x_StoneError)≈true:=λh j d e=>by rw[cT ad j];exact(b _ (Mp e)).2.exm
 have a:∀ j,j%16∈[0,10]->Yc K (aW ad j)/\wX K (aW ad j) "at":=by
  intro j c
  rw[cT ad j]
  generalize j%16=m at c ⊢
  simp only[q5,n0,bT]at c
  rcases c with rfl|rfl
  .exact⟨.of T.ea_NoWeb,wx T.na_NoWeb _ ⋯⟩
  .exact⟨.of T.ea_NoSteps,wx T.na_NoSteps _ ⋯⟩
 have K_Desk_say:=zcz T
 refine S8 (znL (N:=(Rw 44).N) (ps:=(Rw 44).ps) (T.d 44).fn (sc 44) (g:=xV) (fv:=vM) λn A outer s H E f=>?_) WP
 unfold xV vM
 exact(zj8 (Kd (i:=2) rfl rfl rfl (sc 44).nd rfl rfl rfl T.g_StoneError (λl W E0 p=>yf) (λl W=>(zO (J2 (i:=3) (sc 44).nd rfl (Or.inl rfl) (Ka T.dkc.cl T.mm_Desk_say (K_Desk_say.mono ⋯) f T.mb_Desk_say (pv 0) (zb (aj 1) zi))))) (k _) (λok o=>(yV (lG (Vg (Ld f.units) (Y3 (E:=λ_ _ _=>False) H_kinds (f.mono ⋯) rfl (T.d 36).at_ (T.d 36).kp (T.d 36).bd ok (zo (pv 2) z3)) (lJ (zo zv (zo zv z3))) (by with_unfolding_all rfl)) (x4 (Ys (ZV (zo (Y3 (E:=λ_ _ _=>False) H_kinds (f.mono ⋯) rfl (T.d 36).at_ (T.d 36).kp (T.d 36).bd ok (zo (pv 2) z3)) (zo (JL (pv 2) rfl) z3))))) WX) (x4 (Ys (ZV (zo (Y3 (E:=λ_ _ _=>False) H_kinds (f.mono ⋯) rfl (T.d 36).at_ (T.d 36).kp (T.d 36).bd ok (zo (pv 2) z3)) z3)))))) (Lj (Nq (YW (ok:=_) (cT ad) b) (wC uB (wC uB Xo)) (uq (wC (YW (ok:=_) (cT ad) b) (wC (Mi a) Xo))) (uq (wC (YW (ok:=_) (cT ad) b) Xo))))) (znU (aj 3)))
def YN (w h:D)(a b:zk):Bool:=match b with
 |[row]=>(match xI [row] with
  | some (.tup [.str x,.lst ns])=>if x="back" then !a.isEmpty else if (wz zP x).isSome then false else jd w h x ns
  |_=>false)
 |_=>false
abbrev Ym :=bV false 3 (ze yY (ze yY (ze yY (eC (.str "tie ")) (aG VC (za (zc 4) zh))) (eC (.str " "))) (aG VC (za (zc 5) zh)))
abbrev Yl :=zI (Wl 3 (zK (za (ze yY (eC (.str "web ")) (aG VC (za (ze ak (zc 0) (eC (.int 0))) zh))) zh)))
  (zI (Wh (bz (ze ak (zc 0) (eC (.int 1)))) (VB 2 (xB (xg 4) (xB (xg 5) Vz))) Ym)
  (jb 3 (z9 (YC ZR (zc 2) (za (ze yY (zc 3) (yc (zK (za (YC ZR (eC (.str " ")) (za (ze yY (yc (zK (za (eC (.str "heap")) zh))) (yc (aV (bz (zc 1)) b1 xh (aG VC (za (zc 0) zh))))) zh)) zh)))) zh)))))
def vx:=aH 6 Yl
def cB (t:aZ):Str:=wB (Str.ofString "tie") [t.1,t.2]
def zkD {a:Str}(A:xy m b h)(c:a.length<=3):ZR (.str a) (.lst ((wZ m b h).map .str))≈(.str (Txt.join a (wZ m b h))):=by
 show(XR ((wZ m b h).map .str)).bind _=_
 rw[Xv,k6,q4 (EY (λr e=>(A.rows r e).1) ?_)]
 have d:=A.count.2
 have f:(wZ m b h).length*a.length<=30*3:=Nat.mul_le_mul d c
 omega
def znD (w:Str) (n:Int):wB w [n]=w++Str.ofString " "++nS n:=jH _ _
def zmN (w:Str) (a b:Int):wB w [a,b]=w++Str.ofString " "++(nS a++Str.ofString " "++nS b):=jH _ _
def U9:Str.ofString "web "=Str.ofString "web"++Str.ofString " ":=by decide
def TQ:Str.ofString "tie "=Str.ofString "tie"++Str.ofString " ":=by decide
def FT:(Str.ofString "tie ").length=4:=by decide
def zhi:(Str.ofString "web ").length=4:=by decide
def zi9 {t:aZ} (g:v0 [t.1,t.2]) (i:zc 4 c≈(.int t.1)) (l:zc 5 c≈(.int t.2)):ze yY (ze yY (ze yY (eC (.str "tie ")) (aG VC (za (zc 4) zh))) (eC (.str " "))) (aG VC (za (zc 5) zh)) c≈(.str (cB t)):=by
 have d:=g.rng t.1 (.head _)
 have f:=g.rng t.2 (.tail _ (.head _))
 have o:=(oJ d.1 d.2).2
 have p:=(oJ f.1 f.2).2
 have j:aG VC (za (zc 4) zh) c≈(.str (nS t.1)):=Zu (ds:=[.int t.1]) (zd i zE) (uV d.1 d.2)
 have n:aG VC (za (zc 5) zh) c≈(.str (nS t.2)):=Zu (ds:=[.int t.2]) (zd l zE) (uV f.1 f.2)
 have m:=Wd (a:=Str.ofString "tie ") (b:=nS t.1) (by rw[FT];omega)
 have h:=Wd (a:=Str.ofString "tie "++nS t.1) (b:=Str.ofString " ") (by rw[Ep,FT,Od];omega)
 have k:=Wd (a:=Str.ofString "tie "++nS t.1++Str.ofString " ") (b:=nS t.2) (by rw[Ep,Ep,FT,Od];omega)
 have e:cB t=Str.ofString "tie "++nS t.1++Str.ofString " "++nS t.2:=by
  unfold cB
  rw[zmN,TQ]
  simp only[Str.append_assoc]
 rw[e]
 exact zr (zr (zr (x:=.str (Str.ofString "tie ")) rfl j m) (y:=.str (Str.ofString " ")) rfl h) n k
def zm6 {h:zB}{f:Str}(A:xy m c h)(u:f.length<=3):vx [zJ m c,.tup (h.map .int),.str f]≈(.str (Txt.join f (wZ m c h))):=by
 have G:=A.few
 have l:=A.nW.rng m (.head _)
 have F:=(oJ l.1 l.2).2
 refine YB (ρ:=[.v (zJ m c),.v (.tup (h.map .int)),.v (.str f),.no,.no,.no]) rfl ?_
 unfold Yl
 have w:ze yY (eC (.str "web ")) (aG VC (za (ze ak (zc 0) (eC (.int 0))) zh)) (visF [.v (zJ m c),.v (.tup (h.map .int)),.v (.str f),.no,.no,.no])≈(.str (wB (Str.ofString "web") [m])):=by
  have z:=Wd (a:=Str.ofString "web ") (b:=nS m) (by rw[zhi];omega)
  rw[znD,<- U9]
  exact zr (x:=.str (Str.ofString "web ")) rfl (Zu (ds:=[.int m]) rfl (uV l.1 l.2)) z
 refine zt (ρ':=[.v (zJ m c),.v (.tup (h.map .int)),.v (.str f),.o ((wB (Str.ofString "web") [m]::(c.take 0).map cB).map .str),.no,.no]) (znZ (wN (zd w zE) (by show 1<=1000;decide))) ?_
 refine xz (nO (ds:=c.map zg) (λi n=>∃ g j,n=[.v (zJ m c),.v (.tup (h.map .int)),.v (.str f),.o ((wB (Str.ofString "web") [m]::(c.take i).map cB).map .str),g,j]) rfl ⟨_,_,rfl⟩ ?_ ?_)
 .rintro i d n p ⟨g,j,rfl⟩
  rw[k8]at p
  obtain⟨t,r,rfl⟩:=t4.mp p
  have k:=o0 r
  refine⟨[.v (zJ m c),.v (.tup (h.map .int)),.v (.str f),.o ((wB (Str.ofString "web") [m]::(c.take i).map cB).map .str),.v (.int t.1),.v (.int t.2)],rfl,?_⟩
  unfold Ym
  refine dH (J7 (m:=false) (i:=3) (d:=.str (cB t)) (ds:=(wB (Str.ofString "web") [m]::(c.take i).map cB).map .str) (by unfold aY;rw[j4 u7];exact zi9 (A.nT k) rfl rfl) rfl (by rw[u8,r4,u8,gW];omega)) ⟨.v (.int t.1),.v (.int t.2),?_⟩
  have o:c.take (i+1)=c.take i++[t]:=by rw[List.take_add_one,r];rfl
  have e:(wB (Str.ofString "web") [m]::(c.take (i+1)).map cB).map D.str=(wB (Str.ofString "web") [m]::(c.take i).map cB).map D.str++[.str (cB t)]:=by
   rw[o,g5,<- List.cons_append,g5]
   rfl
  rw[e]
  rfl
 .rintro n ⟨g,j,rfl⟩
  rw[u8,pJ]
  refine Ck (ρ':=[.v (zJ m c),.v (.tup (h.map .int)),.v (.str f),.v (.lst ((wB (Str.ofString "web") [m]::c.map cB).map .str)),g,j]) rfl (vP (d:=.str (Txt.join f (wZ m c h))) (zY ?_) rfl)
  have B:ze yY (yc (zK (za (eC (.str "heap")) zh))) (yc (aV (bz (zc 1)) b1 xh (aG VC (za (zc 0) zh)))) (visG [.v (zJ m c),.v (.tup (h.map .int)),.v (.str f),.v (.lst ((wB (Str.ofString "web") [m]::c.map cB).map .str)),g,j])≈(.lst ((Str.ofString "heap"::h.map nS).map .str)):=by
   refine zr (x:=.lst [.str (Str.ofString "heap")]) (y:=.lst ((h.map nS).map .str)) rfl (xE (Ei (lH (d:=.tup (h.map .int)) rfl rfl) A.nH)) ?_
   rw[w8 (by rw[u8,u8];have:=A.nH.few;show 1+_<=1000;omega)]
   rfl
  have q:YC ZR (eC (.str " ")) (za (ze yY (yc (zK (za (eC (.str "heap")) zh))) (yc (aV (bz (zc 1)) b1 xh (aG VC (za (zc 0) zh))))) zh) (visG [.v (zJ m c),.v (.tup (h.map .int)),.v (.str f),.v (.lst ((wB (Str.ofString "web") [m]::c.map cB).map .str)),g,j])≈(.str (wB (Str.ofString "heap") h)):=by
   unfold YC
   rw[zd B zE]
   exact FP uA A.nH
  generalize s:visG [.v (zJ m c),.v (.tup (h.map .int)),.v (.str f),.v (.lst ((wB (Str.ofString "web") [m]::c.map cB).map .str)),g,j]=E0 at q
  have v:zc 3 E0≈(.lst ((wB (Str.ofString "web") [m]::c.map cB).map .str)):=by rw[<-s];rfl
  have E:zc 2 E0≈(.str f):=by rw[<-s];rfl
  have C:yY (.lst ((wB (Str.ofString "web") [m]::c.map cB).map .str)) (.lst [.str (wB (Str.ofString "heap") h)])≈(.lst ((wZ m c h).map .str)):=by
   rw[w8 (by rw[u8,r4,u8];show _+1<=1000;omega)]
   congr 2
   show(wB (Str.ofString "web") [m]::c.map cB).map D.str++[wB (Str.ofString "heap") h].map D.str=_
   rw[<-g5]
   rfl
  exact Nb E (zd (zr v (xE (wN (zd q zE) (by show 1<=1000;decide))) C) zE) (zkD A u)
def zkB (A:xy m a h):lw m a h=Txt.join " ; " (wZ m a h):=by
 unfold lw
 rw[show(Str.ofString "\n")=⟨#[10]⟩from El,StrLaws.replace_one,<- El,A.split]
 exact(jH _ _).symm
def zcl (T:Txt P w K mg base ad):T.Pr 40 1 3 vx:=by
 letI:KK:=⟨K,ad.dk⟩
 refine Ws (N:=(Rw 40).N) (ps:=(Rw 40).ps) (T.d 40).fn (sc 40) (g:=Yl) λc A outer s H E d=>?_
 unfold Yl Ym
 exact(zC (DX (i:=3) (sc 40).nd rfl (Or.inl rfl) (xZ (zb (vD (zR zQ) (xD xi Zr rfl (T.z "str" ⋯) Yx (zb (yk (aj 0) (zw zv) (λ_ _=>rfl)) zi))) zi)))
  (zC (Dw Ag rfl (Zg (yk (aj 0) (zw zv) (λ_ _=>rfl))) (V5 rfl (wk (wR (yi (i:=4) (sc 40).nd rfl (Or.inl rfl))) (wk (wR (yi (i:=5) (sc 40).nd rfl (Or.inl rfl))) Xj))) (zO (Kl (m:=false) (pv 3) (vD (vD (vD (zR zQ) (xD xi Zr rfl (T.z "str" ⋯) Yx (zb (aj 4) zi))) (zR zQ)) (xD xi Zr rfl (T.z "str" ⋯) Yx (zb (aj 5) zi))) (λa b=>Zv l6 Ha G9 WA a b))))
  (Ea 3 (zO (x5 (Xs (aj 2) (zb (vD (aj 3) (vB (xZ (zb (Xs (zR zQ) (zb (vD (vB (xZ (zb (zR zQ) zi))) (vB (lL (L:=["stones"]) (M:=["web","heap","between","rows","a","b"]) rfl (Yt (by rfl) (by rfl) (by rfl) (by with_unfolding_all rfl) (by rfl) (by rfl) (by kernel_rfl) wU) (Zg (aj 1)) eX eV (λ_ _ _ _=>(yi (i:=0) Tv rfl (Or.inl rfl) (.inr rfl))) (λ_ _ _ _=>(xD xi Zr rfl (T.z "str" ⋯) Yx (zb (aj 0) zi)))))) zi) (λa b=>Zv p7 lX lW Xe a b)) zi)))) zi) (λa b=>Zv p7 lX lW Xe a b)))))))
abbrev Zt :=zI (aB (ao (ze xX (zc 0) (eC (.str "web")))) (zI (aB (YK (ao (ze cG (zc 1) (eC (.int 1)))) (ao (ze cH (zc 1) (eC (.int 8))))) (z9 (yc (zK (za (eC (.int 0)) (za (aF V3 (eC (.int 1))) zh))))) zA)
  (z9 (xb (za (xb (za (zc 1) (za (xb zh) zh))) (za (ze lr (xb (za (eC (.int 0)) zh)) (zc 1)) zh))))) zA)
  (zI (xa false 2 (YC Cd (yc (zK (za (eC (.str "row")) (za (eC (.str "ring")) (za (eC (.str "star")) zh))))) (za (zc 0) zh)))
  (zI (aB (YK (ao (ze cG (zc 1) (ze ak (yc (zK (za (eC (.int 1)) (za (eC (.int 3)) (za (eC (.int 1)) zh))))) (zc 2)))) (ao (ze cH (zc 1) (ze ak (yc (zK (za (eC (.int 8)) (za (eC (.int 8)) (za (eC (.int 7)) zh))))) (zc 2))))) (z9 (yc (zK (za (eC (.int 1)) zh)))) zA)
  (zI (xa false 3 (zq 1 W8 (za (xb (za (zc 0) (za (zc 1) zh))) zh)))
  (z9 (xb (za (zc 3) (za (ze lr (xb (za (eC (.int 0)) zh)) (ze ak (zc 3) (eC (.int 0)))) zh)))))))
def ZA:=aH 4 Zt
def zcr (T:Txt P w K mg base ad):T.Pr 42 5 2 ZA:=by
 letI:KK:=⟨K,ad.dk⟩
 have G_web_for:=V2 T
 refine Ws (N:=(Rw 42).N) (ps:=(Rw 42).ps) (T.d 42).fn (sc 42) (g:=Zt) λc A outer s H E d=>?_
 unfold Zt
 apply zC <;> walk_at "s"
 all_goals first|exact(zkE (vB (xZ (zb (zR zQ) (zb (zR zQ) (zb (zR zQ) zi))))) (zb (aj 0) zi) (λa b=>Zv l6 Bk PySem.F.type_list_index (zh9 d) a b))
abbrev yF :=zI (aB (ao (ze Yw (zc 0) (yc (zK (za (eC (.str "tie")) (za (eC (.str "cut")) (za (eC (.str "put")) (za (eC (.str "step")) zh)))))))) (z9 (zq 2 ZA (za (zc 0) (za (ze ak (zc 1) (eC (.int 0))) zh)))) zA)
  (zI (cz false (zc 1) (rK 2 (xB (xg 4) (xB (xg 5) Vz))))
  (zI (aB (YK (ao (ze bO (zc 4) (ze ak (zc 2) (eC (.int 0))))) (vT (ao (ze bG (zc 0) (eC (.str "put")))) (ao (ze bO (zc 5) (ze ak (zc 2) (eC (.int 0))))))) (z9 (yc (zK (za (eC (.int 3)) zh)))) zA)
  (zI (aB (ao (ze xX (zc 0) (eC (.str "put")))) (zI (aB (ao (ze cH (ze yY (aG mX (za (zc 3) zh)) (zc 5)) (eC (.int 300)))) (z9 (yc (zK (za (eC (.int 2)) zh)))) zA)
  (z9 (xb (za (zc 2) (za (ze yY (ze yY (bK eU (zc 3) vb (wD (zc 4))) (xb (za (ze yY (ze ak (zc 3) (zc 4)) (zc 5)) zh))) (bK eU (zc 3) (wD (ze yY (zc 4) (eC (.int 1)))) vb)) zh))))) zA)
  (zI (xa false 6 (xb (za (aG tG (za (zc 4) (za (zc 5) zh))) (za (aG lD (za (zc 4) (za (zc 5) zh))) zh))))
  (zI (aB (ao (ze xX (zc 0) (eC (.str "step")))) (zI (aB (YK (ao (ze Yw (zc 6) (ze ak (zc 2) (eC (.int 1))))) (ao (ze cG (ze ak (zc 3) (zc 4)) (eC (.int 2))))) (z9 (yc (zK (za (eC (.int 10)) (za (eC (.int 0)) zh))))) zA)
  (z9 (xb (za (zc 2) (za (zq 2 YV (za (zc 3) (za (xb (za (zc 4) (za (zc 5) zh))) zh))) zh))))) zA)
  (zI (aB (YK (ao (ze xX (zc 4) (zc 5))) (ao (ze bG (ze dZ (zc 6) (ze ak (zc 2) (eC (.int 1)))) (ze xX (zc 0) (eC (.str "cut")))))) (z9 (yc (zK (za (eC (.int 0)) (za (aG Xb (za (ze ak (zc 2) (eC (.int 1))) zh)) zh))))) zA)
  (zI (xa false 7 (yc (aV (bz (ze ak (zc 2) (eC (.int 1)))) b1 (ao (ze kO (zc 0) (zc 7))) (zc 0))))
  (z9 (xb (za (xb (za (ze ak (zc 2) (eC (.int 0))) (za (aG xw (za (yc (bJ jA (za (ze yY (zc 7) (yc (nG gk (yc (zK (za (zc 6) zh))) (aG rC (za (ze xX (zc 0) (eC (.str "tie"))) zh))))) zh))) zh)) zh))) (za (zc 3) zh)))))))))))
def yU:=aH 8 yF
def QQ (ns:zB):mX [.tup (ns.map .int)]≈(.int ns.sum):=by
 show((iz (ns.map .int)).bind λns=>some (D.int ns.sum))=_
 rw[O7]
 rfl
def hS:Nat->Option D:=gn [0,1,2,3,9,10] (nJ (fK [0,1,2,3,9,10]) (Zb (λ_=>some (.int 0)) (Zb (λ_=>some (.int 10)) (λ_=>some []))) (jt (Zb (fK [0,1,2,3,9,10]) (Zb (fA "at" [0,10]) (λ_=>some [])))) (jt (Zb (fK [0,1,2,3,9,10]) (λ_=>some []))))
def zoD {w d:D}(h:xO [.obj w c b,a]≈j)(f:hS j≈d):Yi [.obj w c b,a]≈d:=by
 refine YB (ρ:=[.v (.obj w c b),.v a,.no,.no]) rfl ?_
 unfold Yh
 refine xz (vP (d:=d) (zk0 (j:=j) ?_ f) rfl)
 show kE 2 xO (zc 0) (za (zc 1) zh) _=_
 unfold kE
 rw[show zc 0 (visG [.v (.obj w c b),.v a,.no,.no])≈(.obj w c b)from rfl,k6]
 show((some [a]).bind λe=>if e.length+1=2 then xO (.obj w c b::e)else none)=_
 rw[k6,q4 (show [a].length+1=2 from rfl)]
 exact h
structure jg (j:Nat) (ds:zk):Prop where
 h:hS j≈(.lst ds)
 s:xM [.lst ds,.lst ds]≈(.bl true)
 i:sO ds=true
def qM (n:Nat):Bool:=match hS (16+64*(n+1)),xM [.lst [.int 0,.int (n:Int)],.lst [.int 0,.int (n:Int)]] with
 |some (.lst [.int a,.int b]),some (.bl c)=>decide (a=0)&&decide (b=(n:Int))&&c
 |_,_=>false
def zjs:(List.range 29).all qM=true:=by kernel_rfl
def NK {n:Nat}(f:n<=28):jg (16+64*(n+1)) [.int 0,.int (n:Int)]:=by
 have h:=o5.mp zjs n (iQ.mpr ∅)
 unfold qM at h
 split at h
 .rename_i a b c d e
  simp only[j7,j8]at h
  obtain⟨⟨rfl,rfl⟩,rfl⟩:=h
  exact⟨d,e,rfl⟩
 .cases h
def S9:jg 1 [.int 1]:=⟨by kernel_rfl,by kernel_rfl,rfl⟩
def Rv:jg 2 [.int 2]:=⟨by kernel_rfl,by kernel_rfl,rfl⟩
def tW:jg 3 [.int 3]:=⟨by kernel_rfl,by kernel_rfl,rfl⟩
def Sd:jg 16 [.int 0,.int (-1)]:=⟨by kernel_rfl,by kernel_rfl,rfl⟩
def zoU:jg 90 [.int 10,.int 0]:=⟨by kernel_rfl,by kernel_rfl,rfl⟩
def Nx (s:bL)(x:Str)(ns:zk):Prop:=(jd s.wd s.d x ns=true/\∃ a:bL,a.Ok/\vN [s.wd,s.d,.str x,.lst ns]≈a.p/\yU [.str x,.lst ns,s.wd,s.d]≈a.p) \/
 (jd s.wd s.d x ns=false/\∃ j b,w4 [s.wd,s.d,.str x,.lst ns]≈j/\jg j b/\yU [.str x,.lst ns,s.wd,s.d]≈(.lst b))
section
variable {s:bL}{a b:Int}{x:Str}
theorem ZK {d:D} {g:zD} {w:D} (hx:Yw (.str x) (.lst [.str "tie",.str "cut",.str "put",.str "step"])≈(.bl false)) (hg:(g [.v (.str x),.v (.lst [.int a,.int b]),.v w,.v h,.v (.int a),.v (.int b),.no,.no]).w (fun _=>d=.non) cC cC (fun e=>e=d)) :
    ((zI (aB (ao (ze Yw (zc 0) (yc (zK (za (eC (.str "tie")) (za (eC (.str "cut")) (za (eC (.str "put")) (za (eC (.str "step")) zh)))))))) (z9 (zq 2 ZA (za (zc 0) (za (ze ak (zc 1) (eC (.int 0))) zh)))) zA)
      (zI (cz false (zc 1) (rK 2 (xB (xg 4) (xB (xg 5) Vz)))) g)) [.v (.str x),.v (.lst [.int a,.int b]),.v w,.v h,.no,.no,.no,.no]).w (fun _=>d=.non) cC cC (fun e=>e=d) :=
  zt ((yL (ye (b:=false) (zr (x:=.str x) (y:=.lst [.str "tie",.str "cut",.str "put",.str "step"]) rfl rfl hx))).trans rfl) (zt (ρ':=[.v (.str x),.v (.lst [.int a,.int b]),.v w,.v h,.v (.int a),.v (.int b),.no,.no]) rfl hg)
def tQ {b:yg}{a:Ev}(h:zc i a≈(.int v))(c:zc 2 a≈(zJ m b)):ao (ze bO (zc i) (ze ak (zc 2) (eC (.int 0)))) a≈(decide (m<=v)) :=
 ye (zr (x:=.int v) (y:=.int m) h (zr (x:=zJ m b) (y:=.int 0) c rfl rfl) rfl)
def Jl {a:Ev}(c:Bool)(h:zc i a≈(.str x))(b:bG (.str x) (.str y)≈(.bl c):=by kernel_rfl):ao (ze bG (zc i) (eC (.str y))) a≈c:=ye (zr h rfl b)
def Eu {g:zD} {d:SE} {k:yg} {N:YH} (c:Bool) (h0:zc 0 (visG d)≈(.str x)) (f:zc 2 (visG d)≈(zJ m k)) (j:zc 4 (visG d)≈(.int a)) (l:zc 5 (visG d)≈(.int b)) (i:bG (.str x) (.str "put")≈(.bl c)) (n:m<=a\/(c=true/\m<=b)) :
 ((zI (aB (YK (ao (ze bO (zc 4) (ze ak (zc 2) (eC (.int 0))))) (vT (ao (ze bG (zc 0) (eC (.str "put")))) (ao (ze bO (zc 5) (ze ak (zc 2) (eC (.int 0))))))) (z9 (yc (zK (za (eC (.int 3)) zh)))) zA) g) d).w N cC cC (λe=>e=.lst [.int 3]):=by
 refine xz ?_
 rw[wr ((lF (tQ j f) (Lx (Jl c h0 i) (tQ l f))).trans ?_)]
 .exact vP (zY rfl) rfl
 .rcases n with h|⟨rfl,h⟩
  .rw[t8 h]
   rfl
  .rw[t8 h]
   exact bN some (pD _)
def VV {g:zD} {d:SE} {N:YH} (c:Bool) (h0:zc 0 (visG d)≈(.str x)) (e:zc 2 (visG d)≈(zJ m h)) (k:zc 4 (visG d)≈(.int a)) (i:zc 5 (visG d)≈(.int b)) (j:bG (.str x) (.str "put")≈(.bl c)) (n:a<m) (l:c=true->b<m) (f:(g d).w N B C R) :
 ((zI (aB (YK (ao (ze bO (zc 4) (ze ak (zc 2) (eC (.int 0))))) (vT (ao (ze bG (zc 0) (eC (.str "put")))) (ao (ze bO (zc 5) (ze ak (zc 2) (eC (.int 0))))))) (z9 (yc (zK (za (eC (.int 3)) zh)))) zA) g) d).w N B C R:=by
 refine zt ((yL ((lF (tQ k e) (Lx (Jl c h0 j) (tQ i e))).trans ?_)).trans rfl) f
 rw[t6 ∅,Bool.false_or]
 cases c with
 |false=>rfl
 |true=>rw[t6 (by have:=l rfl;omega)];rfl
variable (A:s.Ok)
include A
theorem S5 (c:¬ (0<=a/\a<s.m)):VU [s.wd,s.d,.int a,.int b]≈3:=by
 show Vr [.v (zJ s.m s.ts),.v (hD s.h),.v (.int a),.v (.int b),.no]=_
 unfold Vr
 exact ph (v7 (ds:=[zJ s.m s.ts,.int a]) rfl (uW c))
theorem R1 (c:0<=a/\a<s.m)(g:0<=b)(f:¬ s.h.sum+b<=300):VU [s.wd,s.d,.int a,.int b]≈2:=by
 obtain⟨j,e,i⟩:=Rz A g (a:=a) λz=>f z.2
 rcases i with rfl|rfl
 .exact e
 .have h:Vr [.v (zJ s.m s.ts),.v (hD s.h),.v (.int a),.v (.int b),.no]≈2:=by
   unfold Vr
   refine yS (ρ':=[.v (zJ s.m s.ts),.v (hD s.h),.v (.int a),.v (.int b),.no]) (v7 (ds:=[zJ s.m s.ts,.int a]) rfl (WG c)) (y8 (d:=.non) (zu (ds:=[zJ s.m s.ts,.int a]) rfl (yC c))) ?_
   refine yS (ρ':=[.v (zJ s.m s.ts),.v (hD s.h),.v (.int a),.v (.int b),.v (hD (cu s.h a b))]) rfl (xY (uy A c rfl rfl rfl)) ?_
   exact lz (wh (b:=false) (ye (zu (ds:=[zJ s.m s.ts,hD (cu s.h a b)]) rfl (X9 A.ok (PX A c g f))))) rfl
  exact h
theorem zoV (f:0<=a) (g:0<=b):Nx s "put" [.int a,.int b]:=by
 by_cases c:a<s.m
 .by_cases e:s.h.sum+b<=300
  .refine .inl ⟨by rw[Fe,t8 ⟨⟨f,c⟩,e⟩],⟨s.m,s.ts,cu s.h a b⟩,Mu A ⟨f,c⟩ g e,zbA (zn6 A ⟨f,c⟩ g e),?_⟩
   refine YB (ρ:=[.v (.str "put"),.v (.lst [.int a,.int b]),.v (zJ s.m s.ts),.v (hD s.h),.no,.no,.no,.no]) rfl ?_
   unfold yF
   refine ZK (by kernel_rfl) (VV false rfl rfl rfl rfl (by kernel_rfl) c (λz=>by cases z) ?_)
   refine xz ?_
   rw[wr (tw true rfl)]
   refine zt ((yL (ye (b:=false) (zr (x:=.int (s.h.sum+b)) (y:=.int 300) (zr (x:=.int s.h.sum) (y:=.int b) (Zu (ds:=[hD s.h]) rfl (QQ s.h)) rfl rfl) rfl ?_))).trans rfl) ?_
   .show some (D.bl (decide ((300:Int)<s.h.sum+b)))=_
    rw[t6 ∅]
   .exact vP (d:=.tup [zJ s.m s.ts,hD (cu s.h a b)]) (zY (x6 (zd rfl (zd (uy A ⟨f,c⟩ rfl rfl rfl) zE)) (by show 2<=1000;decide))) rfl
  .refine .inr ⟨by rw[Fe,t6 (λz=>e z.2)],_,_,Va (R1 A ⟨f,c⟩ g e),Rv,?_⟩
   refine YB (ρ:=[.v (.str "put"),.v (.lst [.int a,.int b]),.v (zJ s.m s.ts),.v (hD s.h),.no,.no,.no,.no]) rfl ?_
   unfold yF
   refine ZK (by kernel_rfl) (VV false rfl rfl rfl rfl (by kernel_rfl) c (λz=>by cases z) ?_)
   refine xz ?_
   rw[wr (tw true rfl)]
   refine xz ?_
   rw[wr (ye (b:=true) (zr (x:=.int (s.h.sum+b)) (y:=.int 300) (zr (x:=.int s.h.sum) (y:=.int b) (Zu (ds:=[hD s.h]) rfl (QQ s.h)) rfl rfl) rfl ?_))]
   .exact vP (zY rfl) rfl
   .show some (D.bl (decide ((300:Int)<s.h.sum+b)))=_
    rw[t8 ∅]
 .refine .inr ⟨by rw[Fe,t6 (λz=>c z.1.2)],_,_,Va (S5 A λz=>c z.2),tW,?_⟩
  refine YB (ρ:=[.v (.str "put"),.v (.lst [.int a,.int b]),.v (zJ s.m s.ts),.v (hD s.h),.no,.no,.no,.no]) rfl ?_
  unfold yF
  exact ZK (by kernel_rfl) (Eu false rfl rfl rfl rfl (by kernel_rfl) (.inl ∅))
theorem T4 (c:¬ ((0<=a/\a<s.m)/\(0<=b/\b<s.m))):wK [s.wd,s.d,.int a,.int b]≈3:=by
 show xk [.v (zJ s.m s.ts),.v (hD s.h),.v (.int a),.v (.int b)]=_
 unfold xk
 exact CW rfl rfl rfl c
theorem znd (c:(0<=a/\a<s.m)/\(0<=b/\b<s.m))(d:zZ a b∉s.ts\/aN s.h a<2):wK [s.wd,s.d,.int a,.int b]≈90:=by
 show xk [.v (zJ s.m s.ts),.v (hD s.h),.v (.int a),.v (.int b)]=_
 unfold xk
 exact DY rfl rfl rfl c.1 c.2 (v7 (ds:=[zJ s.m s.ts,hD s.h,.lst [zg (a,b)]]) (zd rfl (zd rfl (zd (xE (wN (zd (x6 (zd rfl (zd rfl zE)) (by show 2<=1000;decide)) zE) (by show 1<=1000;decide))) zE))) (zkp A d))
omit A in
theorem tV {e:SE}(g:zc 4 (visF e)≈(.int a))(f:zc 5 (visF e)≈(.int b))(h:e.set 6 (.v (zg (zZ a b)))=c):xa false 6 (xb (za (aG tG (za (zc 4) (za (zc 5) zh))) (za (aG lD (za (zc 4) (za (zc 5) zh))) zh))) e=.nx c :=
 xY (d:=zg (zZ a b)) (x6 (zd (Zu (d:=.int (zZ a b).1) (zd g (zd f zE)) rfl) (zd (Zu (d:=.int (zZ a b).2) (zd g (zd f zE)) rfl) zE)) (by show 2<=1000;decide)) h
theorem Lr {b:Ev}(d:0<=a/\a<s.m)(e:zc 3 b≈(hD s.h))(c:zc 4 b≈(.int a)):ao (ze cG (ze ak (zc 3) (zc 4)) (eC (.int 2))) b≈(decide (aN s.h a<2)) :=
 ye (zr (x:=.int (aN s.h a)) (y:=.int 2) (zr (x:=hD s.h) (y:=.int a) e c (Z7 d.1 (by have:=A.len;omega))) rfl rfl)
theorem zmm (i:0<=a) (n:0<=b):Nx s "step" [.int a,.int b]:=by
 have j:=zka (s:=s) (a:=a) (b:=b)
 by_cases e:a<s.m/\b<s.m
 .have k:∀ f:Ev,zc 2 f≈(zJ s.m s.ts)->zc 6 f≈(zg (zZ a b))->ao (ze Yw (zc 6) (ze ak (zc 2) (eC (.int 1)))) f≈(!decide (zZ a b∈s.ts)):=λf g o=>ye (zr (x:=zg (zZ a b)) (y:=.tup (s.ts.map zg)) o (zr (x:=zJ s.m s.ts) (y:=.int 1) g rfl rfl) (Zy _ _))
  by_cases c:zZ a b∈s.ts/\2<=aN s.h a
  .refine .inl ⟨by rw[j,t8 c],⟨s.m,s.ts,wf s.h (a,b)⟩,zf1 A c.1 c.2,zbf (zle A c.1 c.2),?_⟩
   refine YB (ρ:=[.v (.str "step"),.v (.lst [.int a,.int b]),.v (zJ s.m s.ts),.v (hD s.h),.no,.no,.no,.no]) rfl ?_
   unfold yF
   refine ZK (by kernel_rfl) (VV true rfl rfl rfl rfl (by kernel_rfl) e.1 (λ_=>e.2) ?_)
   refine zt ((yL (tw false rfl)).trans rfl) (zt (tV rfl rfl rfl) (xz ?_))
   rw[wr (tw true rfl)]
   refine zt ((yL ((lF (k _ rfl rfl) (Lr A ⟨i,e.1⟩ rfl rfl)).trans ?_)).trans rfl) ?_
   .rw[t8 c.1,t6 ∅]
    rfl
   .exact vP (d:=.tup [zJ s.m s.ts,hD (wf s.h (a,b))]) (zY (x6 (zd rfl (zd (zu (ds:=[hD s.h,zg (a,b)]) (zd rfl (zd (x6 (zd rfl (zd rfl zE)) (by show 2<=1000;decide)) zE)) (zbL (Eg A.len (Yo A.ok c.1)))) zE)) (by show 2<=1000;decide))) rfl
  .have l:zZ a b∉s.ts\/aN s.h a<2:=by
    by_cases m:zZ a b∈s.ts
    .exact .inr (Int.not_le.mp λz=>c ⟨m,z⟩)
    .exact .inl m
   refine .inr ⟨by rw[j,t6 c],_,_,XT (znd A ⟨⟨i,e.1⟩,⟨n,e.2⟩⟩ l),zoU,?_⟩
   refine YB (ρ:=[.v (.str "step"),.v (.lst [.int a,.int b]),.v (zJ s.m s.ts),.v (hD s.h),.no,.no,.no,.no]) rfl ?_
   unfold yF
   refine ZK (by kernel_rfl) (VV true rfl rfl rfl rfl (by kernel_rfl) e.1 (λ_=>e.2) ?_)
   refine zt ((yL (tw false rfl)).trans rfl) (zt (tV rfl rfl rfl) (xz ?_))
   rw[wr (tw true rfl)]
   refine xz ?_
   rw[wr ((lF (k _ rfl rfl) (Lr A ⟨i,e.1⟩ rfl rfl)).trans ?_)]
   .exact vP (zY rfl) rfl
   .rcases l with h|h
    .rw[t6 h]
     rfl
    .rw[t8 h]
     exact bN some (pD _)
 .have c:¬ ((0<=a/\a<s.m)/\(0<=b/\b<s.m)):=λz=>e ⟨z.1.2,z.2.2⟩
  refine .inr ⟨?_,_,_,XT (T4 A c),tW,?_⟩
  .rw[j,t6 λz=>c (by obtain⟨p,g,_⟩:=Yo A.ok z.1;exact⟨p,g⟩)]
  .refine YB (ρ:=[.v (.str "step"),.v (.lst [.int a,.int b]),.v (zJ s.m s.ts),.v (hD s.h),.no,.no,.no,.no]) rfl ?_
   unfold yF
   exact ZK (by kernel_rfl) (Eu true rfl rfl rfl rfl (by kernel_rfl) (by by_cases h:a<s.m;exact .inr ⟨rfl,Ae.mp λz=>e ⟨h,z⟩⟩;exact .inl (Ae.mp h)))
omit A in
theorem zeZ {a:yg}(h:a.length<64):jA [.lst (a.map zg)]≈((X4 a).map zg):=by
 show(if (a.map zg).length<64 then _ else none)=_
 rw[q4 (by rw[u8];exact h),QG,Qy]
 rfl
omit A in
theorem zfZ (ok:wA m c):X4 c=c:=by
 symm
 refine VR (Aq _) (ok.srt.imp λ{a b} h=>?_)
 unfold OwnSort.bltP
 unfold cF at h
 exact t6 ∅
omit A in
theorem zmQ {b:yg}{k:Nat}{t:aZ}{a:Ev}{f:zU}(hw:zc 2 a≈(zJ m ts))(n:zc 3 a≈h)(g:zc 7 a≈(.lst (b.map zg)))(l:zc 6 a≈(zg t))(e:f a≈(.int (k:Nat)))(i:k<=1)(o:b.length<=28) :
 xb (za (xb (za (ze ak (zc 2) (eC (.int 0))) (za (aG xw (za (yc (bJ jA (za (ze yY (zc 7) (yc (nG gk (yc (zK (za (zc 6) zh))) f))) zh))) zh)) zh))) (za (zc 3) zh)) a≈(.tup [zJ m (X4 (b++List.replicate k t)),h]):=by
 have j:gk (.lst [zg t]) (.int (k:Nat))≈((List.replicate k t).map zg):=by
  match k,i with
  |0,_=>rfl
  |1,_=>rfl
 have c:yY (.lst (b.map zg)) (.lst ((List.replicate k t).map zg))≈(.lst ((b++List.replicate k t).map zg)):=by
  rw[w8 (by rw[u8,u8,Br];omega),g5]
 have d:nG gk (yc (zK (za (zc 6) zh))) f a≈((List.replicate k t).map zg):=by
  unfold nG
  rw[xE (wN (zd l zE) (by show 1<=1000;decide)),k6,e,k6,j]
 exact x6 (zd (x6 (zd (zr (x:=zJ m ts) (y:=.int 0) hw rfl rfl) (zd (Zu (ds:=[.lst ((X4 (b++List.replicate k t)).map zg)]) (zd (xE (Dy (ds:=[.lst ((b++List.replicate k t).map zg)]) (zd (zr g (xE d) c) zE) (zeZ (by rw[k7,Br];omega)))) zE) rfl) zE)) (by show 2<=1000;decide)) (zd n zE)) (by show 2<=1000;decide)
theorem Li (c:Bool) (e:0<=a/\a<s.m) (j:0<=b/\b<s.m) (k:Yw (.str x) (.lst [.str "tie",.str "cut",.str "put",.str "step"])≈(.bl false)) (d:bG (.str x) (.str "put")≈(.bl true)) (i:decide (x="put")=false) (g:decide (x="step")=false) (l:decide (x="cut")=c) (f:a=b\/decide (zZ a b∈s.ts)≠c) :
 yU [.str x,.lst [.int a,.int b],s.wd,s.d]≈(.lst [.int 0,.int (s.ts.length:Nat)]):=by
 refine YB (ρ:=[.v (.str x),.v (.lst [.int a,.int b]),.v (zJ s.m s.ts),.v (hD s.h),.no,.no,.no,.no]) rfl ?_
 unfold yF
 refine ZK k (VV true rfl rfl rfl rfl d e.2 (λ_=>j.2) ?_)
 refine zt ((yL (tw false rfl i)).trans rfl) (zt (tV rfl rfl rfl) (zt ((yL (tw false rfl g)).trans rfl) (xz ?_)))
 rw[wr ((lF (b:=decide (a=b)) (c:=decide (decide (zZ a b∈s.ts)≠c)) (ye (zr (x:=.int a) (y:=.int b) rfl rfl yP)) (ye (zr (x:=.bl (decide (zZ a b∈s.ts))) (y:=.bl c) (zr (x:=zg (zZ a b)) (y:=.tup (s.ts.map zg)) rfl rfl (Wj _ _)) (zr (x:=.str x) (y:=.str "cut") rfl rfl (by rw[yp,l])) ?_))).trans ?_)]
 .refine vP (zY (xE (wN (zd rfl (zd (Zu (ds:=[.tup (s.ts.map zg)]) rfl ?_) zE)) (by show 2<=1000;decide)))) rfl
  show some (D.int ((s.ts.map zg).length:Nat))=_
  rw[u8]
 .cases decide (zZ a b∈s.ts) <;> cases c <;> rfl
 .rcases f with h|h
  .rw[t8 h]
   rfl
  .rw[t8 h]
   exact bN some (pD _)
theorem La (c:Bool) (k:Nat) (f:0<=a/\a<s.m) (l:0<=b/\b<s.m) (n:Yw (.str x) (.lst [.str "tie",.str "cut",.str "put",.str "step"])≈(.bl false)) (e:bG (.str x) (.str "put")≈(.bl true)) (j:decide (x="put")=false) (h:decide (x="step")=false) (o:decide (x="cut")=c) (i:rC [.bl (decide (x="tie"))]≈(.int (k:Nat))) (d:k<=1) (g:a≠b) (p:decide (zZ a b∈s.ts)=c) :
 yU [.str x,.lst [.int a,.int b],s.wd,s.d]≈(.tup [zJ s.m (X4 ((s.ts.filter λt=>!decide (t=zZ a b))++List.replicate k (zZ a b))),s.d]):=by
 refine YB (ρ:=[.v (.str x),.v (.lst [.int a,.int b]),.v (zJ s.m s.ts),.v (hD s.h),.no,.no,.no,.no]) rfl ?_
 unfold yF
 refine ZK n (VV true rfl rfl rfl rfl e f.2 (λ_=>l.2) ?_)
 refine zt ((yL (tw false rfl j)).trans rfl) (zt (tV rfl rfl rfl) (zt ((yL (tw false rfl h)).trans rfl) ?_))
 refine zt ((yL ((lF (b:=decide (a=b)) (c:=decide (decide (zZ a b∈s.ts)≠c)) (ye (zr (x:=.int a) (y:=.int b) rfl rfl yP)) (ye (zr (x:=.bl (decide (zZ a b∈s.ts))) (y:=.bl c) (zr (x:=zg (zZ a b)) (y:=.tup (s.ts.map zg)) rfl rfl (Wj _ _)) (zr (x:=.str x) (y:=.str "cut") rfl rfl (by rw[yp,o])) ?_))).trans ?_)).trans rfl) ?_
 .cases decide (zZ a b∈s.ts) <;> cases c <;> rfl
 .rw[t6 g,t6 (λz=>z p)]
  rfl
 .refine zt (xY (σ':=[.v (.str x),.v (.lst [.int a,.int b]),.v (zJ s.m s.ts),.v (hD s.h),.v (.int a),.v (.int b),.v (zg (zZ a b)),.v (.lst ((s.ts.filter λt=>!decide (t=zZ a b)).map zg))]) (xE (Kp (i0:=2) (i3:=6) (zZ a b) rfl rfl A.few))) ?_
  exact vP (zY (zmQ (k:=k) (m:=s.m) (ts:=s.ts) rfl rfl rfl rfl (Zu (ds:=[.bl (decide (x="tie"))]) (zd (zr (x:=.str x) (y:=.str "tie") rfl rfl yp) zE) i) d (r6 (List.length_filter_le _ _) A.few))) rfl
theorem Jt (e:¬ (a<s.m/\b<s.m)) (d:Yw (.str x) (.lst [.str "tie",.str "cut",.str "put",.str "step"])≈(.bl false)) (c:bG (.str x) (.str "put")≈(.bl true)):yU [.str x,.lst [.int a,.int b],s.wd,s.d]≈(.lst [.int 3]):=by
 refine YB (ρ:=[.v (.str x),.v (.lst [.int a,.int b]),.v (zJ s.m s.ts),.v (hD s.h),.no,.no,.no,.no]) rfl ?_
 unfold yF
 exact ZK d (Eu true rfl rfl rfl rfl c (by by_cases h:a<s.m;exact .inr ⟨rfl,Ae.mp λz=>e ⟨h,z⟩⟩;exact .inl (Ae.mp h)))
theorem Uw (j:0<=a) (k:0<=b):Nx s "tie" [.int a,.int b]:=by
 have i:=znj (s:=s) (a:=a) (b:=b)
 by_cases g:a<s.m/\b<s.m
 .have d:0<=a/\a<s.m:=⟨j,g.1⟩
  have e:0<=b/\b<s.m:=⟨k,g.2⟩
  by_cases c:a=b\/zZ a b∈s.ts
  .refine .inr ⟨?_,_,_,WH (zp4 A.ok A.few d e c),NK A.few,Li A false d e (by kernel_rfl) (by kernel_rfl) ⋯ ⋯ ⋯ (c.imp id λz w=>by rw[t8 z]at w;cases w)⟩
   rw[i,<- Bool.decide_or,t8 c]
   simp
  .have h:a≠b:=λz=>c (.inl z)
   have f:zZ a b∉s.ts:=λz=>c (.inr z)
   have ok:=Ou A.ok d e h f
   refine .inl ⟨?_,⟨s.m,rA s.ts (zZ a b),s.h⟩,⟨ok,Pa ok,A.len,A.nn,A.sum⟩,zcI (zne A.ok A.few d e h f),?_⟩
   .rw[i,<- Bool.decide_or,t6 c,t8 ⟨d,e⟩]
    rfl
   .rw[La A false 1 d e (by kernel_rfl) (by kernel_rfl) ⋯ ⋯ ⋯ (by kernel_rfl) (t7 _) h (t6 f),List.filter_eq_self.mpr λt l=>by rw[t6 λz:t=zZ a b=>f (z ▸ l)];rfl]
    rfl
 .have c:¬ ((0<=a/\a<s.m)/\(0<=b/\b<s.m)):=λz=>g ⟨z.1.2,z.2.2⟩
  refine .inr ⟨?_,3,_,WH (by show WV [.v (zJ s.m s.ts),.v (.int a),.v (.int b)]=_;unfold WV;exact CW rfl rfl rfl c),tW,Jt A g (by kernel_rfl) (by kernel_rfl)⟩
  rw[i,t6 c]
  rfl
theorem U8 (h:0<=a) (i:0<=b):Nx s "cut" [.int a,.int b]:=by
 have g:=zmM (s:=s) (a:=a) (b:=b)
 by_cases f:a<s.m/\b<s.m
 .have d:0<=a/\a<s.m:=⟨h,f.1⟩
  have e:0<=b/\b<s.m:=⟨i,f.2⟩
  by_cases c:zZ a b∈s.ts
  .have ok:=zog A.ok (zZ a b)
   refine .inl ⟨?_,⟨s.m,s.ts.filter λt=>!decide (t=zZ a b),s.h⟩,⟨ok,Pa ok,A.len,A.nn,A.sum⟩,zck (T5 A.few d e c),?_⟩
   .rw[g,t8 c,t8 ⟨d,e⟩]
    rfl
   .rw[La A true 0 d e (by kernel_rfl) (by kernel_rfl) ⋯ ⋯ ⋯ (by kernel_rfl) ⋯ (Yo A.ok c).2.2 (t8 c),show List.replicate 0 (zZ a b)=[]from rfl,r9,zfZ ok]
    rfl
  .refine .inr ⟨?_,_,_,Vo (RL d e c),NK A.few,Li A true d e (by kernel_rfl) (by kernel_rfl) ⋯ ⋯ ⋯ (.inr λw=>by rw[t6 c]at w;cases w)⟩
   rw[g,t6 c,iR]
 .have c:¬ ((0<=a/\a<s.m)/\(0<=b/\b<s.m)):=λz=>f ⟨z.1.2,z.2.2⟩
  refine .inr ⟨?_,3,_,Vo (by show V0 [.v (zJ s.m s.ts),.v (.int a),.v (.int b),.no]=_;unfold V0;exact CW rfl rfl rfl c),tW,Jt A f (by kernel_rfl) (by kernel_rfl)⟩
  rw[g,t6 c]
  rfl
end
def tZ (n:Nat):Hl:=List.replicate n 0
def lg (x:Str) (n:Nat):bL:=if x="web" then ⟨n,[],tZ n⟩else if x="row" then ⟨n,(List.range (n-1)).map λi:Nat=>((i:Int),((i+1:Nat):Int)),tZ n⟩else if x="ring" then ⟨n,(0,1)::(0,(n:Int)-1)::(List.range (n-2)).map λi:Nat=>(((i+1:Nat):Int),((i+2:Nat):Int)),tZ n⟩else ⟨((n+1:Nat):Int),(List.range n).map λi:Nat=>((0:Int),((i+1:Nat):Int)),tZ (n+1)⟩
def Ku {s:bL}{n:Nat}(c:HY x [.int (n:Nat)]=true)(a:CQ (lg x n).m (lg x n).ts (lg x n).h=true)(b:vN [s.wd,s.d,.str x,.lst [.int (n:Nat)]]≈(lg x n).p)(d:yU [.str x,.lst [.int (n:Nat)],s.wd,s.d]≈(lg x n).p):Nx s x [.int (n:Nat)]:=.inl ⟨c,lg x n,Nm a,b,d⟩
def K6 {s:bL}{n:Nat}(R:jg j a)(d:HY x [.int (n:Nat)]=false)(c:w4 [s.wd,s.d,.str x,.lst [.int (n:Nat)]]≈j)(b:yU [.str x,.lst [.int (n:Nat)],s.wd,s.d]≈(.lst a)):Nx s x [.int (n:Nat)]:=.inr ⟨d,j,a,c,R,b⟩
def qg {n:Nat}(h:n<=9):n=0\/n=1\/n=2\/n=3\/n=4\/n=5\/n=6\/n=7\/n=8\/n=9:=by omega
def TF {n:Nat} {x:Str} (a:x="web"\/x="row"\/x="ring"\/x="star") (h:n<=9):Nx s x [.int (n:Nat)]:=by
 rcases a with rfl|rfl|rfl|rfl
 .rcases qg h with rfl|rfl|rfl|rfl|rfl|rfl|rfl|rfl|rfl|rfl <;> first
   |exact Ku (by decide +kernel) (by decide +kernel) (by kernel_rfl) (by kernel_rfl)
   |exact K6 Sd (by decide +kernel) (by kernel_rfl) (by kernel_rfl)
 all_goals
  rcases qg h with rfl|rfl|rfl|rfl|rfl|rfl|rfl|rfl|rfl|rfl <;> first
   |exact Ku (by decide +kernel) (by decide +kernel) (by kernel_rfl) (by kernel_rfl)
   |exact K6 S9 (by decide +kernel) (by kernel_rfl) (by kernel_rfl)
def zcp (T:Txt P w K mg base ad):T.Pr 43 6 4 yU:=by
 have:=zbm T
 have:=zcr T
 walk_at "p"
def Two (x:Str) (ns:zB):Prop:=∃ a b:Nat,ns=[(a:Int),(b:Int)]/\a<=8/\((b<=8/\(x="tie"\/x="cut"\/x="step"))\/(x="put"/\(b=1\/b=2\/b=5\/b=90\/b=300)))
def One (x:Str) (ns:zB):Prop:=∃ n:Nat,ns=[(n:Int)]/\n<=9/\(x="web"\/x="row"\/x="ring"\/x="star")
def rH:zk->zB->Bool
 |.int a::r,b::q=>decide (a=b)&&rH r q
 |[],[]=>true
 |_,_=>false
def zoc:∀ {c:zk} {ns:zB},rH c ns=true->c=ns.map .int:=by
 intro c
 induction c with
 |nil=>intro ns h;cases ns with
  |nil=>rfl
  |cons a r=>cases h
 |cons d c f =>
  intro ns h
  cases d with
  |int a =>
   cases ns with
   |nil=>cases h
   |cons b r =>
    have e:(decide (a=b)&&rH c r)=true:=h
    rw[j7,j8]at e
    rw[e.1,f e.2]
    rfl
  |_=>cases h
def ni (x:Str)(ns:zB):Bool:=match xI [.str (wB x ns)],vj [.str (wB x ns)] with
 |some (.tup [.str y,.lst ds]),none=>decide (y=x)&&rH ds ns
 |_,_=>false
structure Cz (x:Str) (ns:zB):Prop where
 p:xI [.str (wB x ns)]≈(.tup [.str x,.lst (ns.map .int)])
 q:vj [.str (wB x ns)]=none
def Er (h:ni x ns=true):Cz x ns:=by
 unfold ni at h
 split at h
 .rename_i y d a c
  rw[j7,j8]at h
  obtain⟨rfl,b⟩:=h
  rw[zoc b]at a
  exact⟨a,c⟩
 .cases h
def zjl:([(Str.ofString "tie"),"cut","step"]:zG).all (λx=>(List.range 9).all λa=>(List.range 9).all λb=>ni x [(a:Int),(b:Int)])=true:=by kernel_rfl
def zjT:(List.range 9).all (λa=>([1,2,5,90,300]:Zx).all λb=>ni "put" [(a:Int),(b:Int)])=true:=by kernel_rfl
def zkk:([(Str.ofString "web"),"row","ring","star"]:zG).all (λx=>(List.range 10).all λn=>ni x [(n:Int)])=true:=by kernel_rfl
structure nU (x:Str) (ns:zB):Prop where
 t:Cz x ns
 w:ZI x
 n:v0 ns
 q:(wz zP x).isSome=false
 b:x≠"back"
 nx:∀ s:bL,s.Ok->Nx s x (ns.map .int)
def Nr (h:Two x ns):nU x ns:=by
 obtain⟨a,b,rfl,j,h⟩:=h
 have c:b<=300->v0 [(a:Int),(b:Int)]:=λi=>⟨by show 2<=8;decide,λn d=>by
  rcases q5.mp d with rfl|d
  .omega
  .rw[j6.mp d]
   omega⟩
 have f:=iQ.mpr (show a<9 by omega)
 rcases h with ⟨i,h⟩|⟨rfl,h⟩
 .have e:=iQ.mpr (show b<9 by omega)
  have key:∀ x∈([(Str.ofString "tie"),"cut","step"]:zG),Cz x [(a:Int),(b:Int)]:=λx g=>Er (o5.mp (o5.mp (o5.mp zjl x g) a f) b e)
  rcases h with rfl|rfl|rfl
  .exact⟨key _ (.head _),sI,c ∅,by kernel_rfl,by decide,λs A=>Uw A ∅ ∅⟩
  .exact⟨key _ (.tail _ (.head _)),⟨by decide,by decide⟩,c ∅,by kernel_rfl,by decide,λs A=>U8 A ∅ ∅⟩
  .exact⟨key _ (.tail _ (.tail _ (.head _))),⟨by decide,by decide⟩,c ∅,by kernel_rfl,by decide,λs A=>zmm A ∅ ∅⟩
 .have e:b∈([1,2,5,90,300]:Zx):=by
   rcases h with rfl|rfl|rfl|rfl|rfl <;> decide
  exact⟨Er (o5.mp (o5.mp zjT a f) b e),⟨by decide,by decide⟩,c ∅,by kernel_rfl,by decide,λs A=>zoV A ∅ ∅⟩
def zn7 (h:One x ns):nU x ns:=by
 obtain⟨n,rfl,e,a⟩:=h
 have c:=iQ.mpr (show n<10 by omega)
 have d:v0 [(n:Int)]:=⟨by show 1<=8;decide,λk f=>by rw[j6.mp f];omega⟩
 have b:x∈([(Str.ofString "web"),"row","ring","star"]:zG):=by
  rcases a with rfl|rfl|rfl|rfl <;> decide
 have T:=Er (o5.mp (o5.mp zkk x b) n c)
 refine⟨T,?_,d,?_,?_,λs _=>TF a e⟩
 .rcases a with rfl|rfl|rfl|rfl <;> exact⟨by decide,by decide⟩
 .rcases a with rfl|rfl|rfl|rfl <;> kernel_rfl
 .rcases a with rfl|rfl|rfl|rfl <;> decide
abbrev Xi :=zI (xa false 2 (zq 2 Yp (za (zc 1) (za (eC (.int 0)) zh))))
  (zI (xa false 3 (ze Yj (ze w6 (zc 2) (eC (.int 64))) (ze yY (zc 0) (eC (.int 1)))))
  (zI (xa false 4 (ze Yj (ze w6 (zc 2) (eC (.int 1024))) (ze yY (zc 0) (eC (.int 1)))))
  (zI (aB (ao (ze cG (ze Yj (zc 2) (eC (.int 16))) (eC (.int 9)))) (zI (xa false 3 (ze Yj (zc 3) (zc 0)))
  (xa false 4 (ze Yj (ze yY (ze yY (zc 3) (eC (.int 1))) (ze Yj (zc 4) (aG lD (za (eC (.int 1)) (za (ze VM (zc 0) (eC (.int 1))) zh))))) (zc 0)))) zA)
  (zI (xa false 5 (ze ak (yc (zK (za (eC (.str "web")) (za (eC (.str "row")) (za (eC (.str "tie")) (za (eC (.str "tie")) (za (eC (.str "tie")) (za (eC (.str "put")) (za (eC (.str "put")) (za (eC (.str "step")) (za (eC (.str "step")) (za (eC (.str "cut")) (za (eC (.str "ring")) (za (eC (.str "star")) zh)))))))))))))) (ze Yj (ze w6 (zc 2) (eC (.int 16))) (eC (.int 12)))))
  (zI (aB (ao (ze dZ (zc 5) (yc (zK (za (eC (.str "tie")) (za (eC (.str "cut")) (za (eC (.str "step")) zh))))))) (z9 (xb (za (zc 5) (za (yc (zK (za (zc 3) (za (zc 4) zh)))) zh)))) zA)
  (zI (aB (ao (ze xX (zc 5) (eC (.str "put")))) (z9 (xb (za (zc 5) (za (yc (zK (za (zc 3) (za (ze ak (yc (zK (za (eC (.int 1)) (za (eC (.int 2)) (za (eC (.int 5)) (za (eC (.int 90)) (za (eC (.int 300)) zh))))))) (ze Yj (zc 4) (eC (.int 5)))) zh)))) zh)))) zA)
  (z9 (xb (za (zc 5) (za (yc (zK (za (ze Yj (ze w6 (zc 2) (eC (.int 64))) (eC (.int 10))) zh))) zh))))))))))
def Xm:=aH 6 Xi
def WR:zk:=[.str "web",.str "row",.str "tie",.str "tie",.str "tie",.str "put",.str "put",.str "step",.str "step",.str "cut",.str "ring",.str "star"]
def znc {ds:zk}{i:Int}(h0:0<=i)(a:i<(ds.length:Int)):∃ d,L2.atI ds i≈d/\d∈ds:=by
 have e:L2.atI ds i≈(ds[i.toNat]'∅):=Uc h0 (o6 ∅)
 exact⟨_,e,jK _⟩
def uD {a b:Int}(h:zc i c≈(.int n))(d:0<a)(f:a<2000)(j:0<b){g:zU}(e:g c≈(.int b)):ze Yj (ze w6 (zc i) (eC (.int a))) g c≈(.int (n/a%b)) :=
 zr (x:=.int (n/a)) (y:=.int b) (zr (x:=.int n) (y:=.int a) h rfl (O8 d ∅)) e (by rw[vp j])
def nA (d:D):Prop:=∃ x ns,d=.tup [.str x,.lst (ns.map .int)]/\nU x ns
def zm8 {k:Int}(h0:0<=k)(a:k<5):∃ c:Nat,L2.atI [D.int 1,.int 2,.int 5,.int 90,.int 300] k≈(.int (c:Int))/\(c=1\/c=2\/c=5\/c=90\/c=300):=by
 have:k=0\/k=1\/k=2\/k=3\/k=4:=by omega
 rcases this with rfl|rfl|rfl|rfl|rfl
 .exact⟨1,rfl,by decide⟩
 .exact⟨2,rfl,by decide⟩
 .exact⟨5,rfl,by decide⟩
 .exact⟨90,rfl,by decide⟩
 .exact⟨300,rfl,by decide⟩
def zoN (l:zG):dZ (.str x) (.lst (l.map .str))≈(.bl (decide (x∈l))):=by
 show(dR (.str x) (l.map .str)).map D.bl=_
 have b:(l.map D.str).all (aL 20)=true:=by
  rw[o5]
  intro d g
  obtain⟨y,_,rfl⟩:=dX.mp g
  rfl
 have f:((l.map D.str).any λe=>aO 20 e (.str x))=decide (x∈l):=by
  induction l with
  |nil=>rfl
  |cons y l h =>
   have c:(l.map D.str).all (aL 20)=true:=by
    rw[o4,jD,j7]at b
    exact b.2
   rw[o4,lO,h c,show aO 20 (.str y) (.str x)=decide (y=x)from rfl]
   by_cases a:y=x
   .subst a
    simp
   .rw[t6 a]
    simp[a,bw a]
 unfold dR
 rw[q4 ⟨rfl,b⟩,f]
 rfl
def zof {a b:Nat}(p:a<=8)(s:b<=8)(o:D.str x∈WR){N:YH} :
 ((zI (aB (ao (ze dZ (zc 5) (yc (zK (za (eC (.str "tie")) (za (eC (.str "cut")) (za (eC (.str "step")) zh))))))) (z9 (xb (za (zc 5) (za (yc (zK (za (zc 3) (za (zc 4) zh)))) zh)))) zA)
 (zI (aB (ao (ze xX (zc 5) (eC (.str "put")))) (z9 (xb (za (zc 5) (za (yc (zK (za (zc 3) (za (ze ak (yc (zK (za (eC (.int 1)) (za (eC (.int 2)) (za (eC (.int 5)) (za (eC (.int 90)) (za (eC (.int 300)) zh))))))) (ze Yj (zc 4) (eC (.int 5)))) zh)))) zh)))) zA)
 (z9 (xb (za (zc 5) (za (yc (zK (za (ze Yj (ze w6 (zc 2) (eC (.int 64))) (eC (.int 10))) zh))) zh)))))) [.v (.int m),.v (.int c),.v (.int n),.v (.int (a:Int)),.v (.int (b:Int)),.v (.str x)]).w N cC cC nA:=by
 have l:=zoN (x:=x) [Str.ofString "tie","cut","step"]
 have g:∀ k:Bool,decide (x∈[Str.ofString "tie","cut","step"])=k->ao (ze dZ (zc 5) (yc (zK (za (eC (.str "tie")) (za (eC (.str "cut")) (za (eC (.str "step")) zh)))))) (visG [.v (.int m),.v (.int c),.v (.int n),.v (.int (a:Int)),.v (.int (b:Int)),.v (.str x)])≈k:=λk f=>ye (zr (x:=.str x) (y:=.lst ([Str.ofString "tie","cut","step"].map .str)) rfl rfl (by rw[l,f]))
 by_cases e:x="tie"\/x="cut"\/x="step"
 .refine xz ?_
  rw[wr (g true (by rcases e with rfl|rfl|rfl <;> decide))]
  exact vP (d:=.tup [.str x,.lst ([(a:Int),(b:Int)].map .int)]) (zY rfl) ⟨x,_,rfl,Nr ⟨a,b,rfl,p,.inl ⟨s,e⟩⟩⟩
 .refine zt ((yL (g false (t6 λz=>e (by simpa using z)))).trans rfl) ?_
  by_cases h:x="put"
  .refine xz ?_
   rw[wr (tw true rfl (t8 h))]
   obtain⟨k,f⟩:∃ k:Int,(b:Int)%5=k:=⟨_,rfl⟩
   obtain⟨v,r,q⟩:=zm8 (k:=k) ∅ ∅
   refine vP (d:=.tup [.str x,.lst ([(a:Int),(v:Int)].map .int)]) (zY (x6 (zd rfl (zd (xE (wN (zd rfl (zd (zr (x:=.lst [.int 1,.int 2,.int 5,.int 90,.int 300]) (y:=.int k) rfl (zr (x:=.int (b:Int)) (y:=.int 5) rfl rfl (by rw[vp ⋯,f])) r) zE)) (by show 2<=1000;decide))) zE)) (by show 2<=1000;decide))) ⟨x,_,rfl,Nr ⟨a,v,rfl,p,.inr ⟨h,q⟩⟩⟩
  .refine zt ((yL (tw false rfl (t6 h))).trans rfl) ?_
   obtain⟨k,f⟩:∃ k:Int,n/64%10=k:=⟨_,rfl⟩
   have t:0<=k:=by omega
   obtain⟨j,rfl⟩:=Bl t
   refine vP (d:=.tup [.str x,.lst ([(j:Int)].map .int)]) (zY (x6 (zd rfl (zd (xE (wN (zd ((uD rfl ⋯ ⋯ ⋯ rfl).trans (by rw[f])) zE) (by show 1<=1000;decide))) zE)) (by show 2<=1000;decide))) ⟨x,_,rfl,zn7 ⟨j,rfl,by omega,?_⟩⟩
   have i:x="web"\/x="row"\/x="ring"\/x="star":=by
    unfold WR at o
    simp only[q5,D.str.injEq,n0,bT]at o
    rcases o with rfl|rfl|rfl|rfl|rfl|rfl|rfl|rfl|rfl|rfl|rfl|rfl <;> first|exact .inl rfl|exact .inr (.inl rfl)|exact .inr (.inr (.inl rfl))|exact .inr (.inr (.inr rfl))|exact absurd rfl h|exact absurd (.inl rfl) e|exact absurd (.inr (.inl rfl)) e|exact absurd (.inr (.inr rfl)) e
   exact i
def zpF {m:Int}(c:Int)(J:1<=m)(O:m<=8):∃ x ns,Xm [.int m,.int c]≈(.tup [.str x,.lst (ns.map .int)])/\nU x ns:=by
 obtain⟨n,K⟩:∃ n,CJ c 0=n:=⟨_,rfl⟩
 have H:Yp [.int c,.int 0]≈(.int n):=by rw[<-K];rfl
 have key:=SJ (m:=6) (g:=Xi) (ds:=[.int m,.int c]) (R:=nA) (ρ:=[.v (.int m),.v (.int c),.no,.no,.no,.no]) rfl ?_
 .obtain⟨d,e,x,ns,rfl,R⟩:=key
  exact⟨x,ns,e,R⟩
 .unfold Xi
  refine zt (xY (σ':=[.v (.int m),.v (.int c),.v (.int n),.no,.no,.no]) (zu (ds:=[.int c,.int 0]) rfl H)) ?_
  obtain⟨a,t⟩:∃ a,n/64%(m+1)=a:=⟨_,rfl⟩
  obtain⟨b,A⟩:∃ b,n/1024%(m+1)=b:=⟨_,rfl⟩
  obtain⟨u,Q⟩:=Wo ∅ t
  obtain⟨B,b1⟩:=Wo ∅ A
  refine zt (xY (σ':=[.v (.int m),.v (.int c),.v (.int n),.v (.int a),.no,.no]) ((uD (b:=m+1) rfl ⋯ ⋯ ∅ rfl).trans (by rw[t]))) ?_
  refine zt (xY (σ':=[.v (.int m),.v (.int c),.v (.int n),.v (.int a),.v (.int b),.no]) ((uD (b:=m+1) rfl ⋯ ⋯ ∅ rfl).trans (by rw[A]))) ?_
  have h:∀ a b:Int,0<=a->a<=8->0<=b->b<=8->∀ (N:YH) (g:zD),(∀ x,D.str x∈WR->(g [.v (.int m),.v (.int c),.v (.int n),.v (.int a),.v (.int b),.v (.str x)]).w N cC cC nA)->((zI (xa false 5 (ze ak (yc (zK (za (eC (.str "web")) (za (eC (.str "row")) (za (eC (.str "tie")) (za (eC (.str "tie")) (za (eC (.str "tie")) (za (eC (.str "put")) (za (eC (.str "put")) (za (eC (.str "step")) (za (eC (.str "step")) (za (eC (.str "cut")) (za (eC (.str "ring")) (za (eC (.str "star")) zh)))))))))))))) (ze Yj (ze w6 (zc 2) (eC (.int 16))) (eC (.int 12))))) g) [.v (.int m),.v (.int c),.v (.int n),.v (.int a),.v (.int b),.no]).w N cC cC nA:=λa b _ _ _ _ N g C=>by
   obtain⟨k,G⟩:∃ k:Int,n/16%12=k:=⟨_,rfl⟩
   obtain⟨d,e,r⟩:=znc (ds:=WR) (i:=k) ∅ (by show k<12;omega)
   have E:∃ x,d=.str x:=by
    unfold WR at r
    simp only[q5,n0,bT]at r
    rcases r with rfl|rfl|rfl|rfl|rfl|rfl|rfl|rfl|rfl|rfl|rfl|rfl <;> exact⟨_,rfl⟩
   obtain⟨x,rfl⟩:=E
   exact zt (xY (σ':=[.v (.int m),.v (.int c),.v (.int n),.v (.int a),.v (.int b),.v (.str x)]) (zr (x:=.lst WR) (y:=.int k) rfl ((uD (b:=12) rfl ⋯ ⋯ ⋯ rfl).trans (by rw[G])) e)) (C x r)
  have fin:∀ a b:Int,0<=a->a<=8->0<=b->b<=8->∀ (N:YH) (x:Str),D.str x∈WR->((zI (aB (ao (ze dZ (zc 5) (yc (zK (za (eC (.str "tie")) (za (eC (.str "cut")) (za (eC (.str "step")) zh))))))) (z9 (xb (za (zc 5) (za (yc (zK (za (zc 3) (za (zc 4) zh)))) zh)))) zA)
   (zI (aB (ao (ze xX (zc 5) (eC (.str "put")))) (z9 (xb (za (zc 5) (za (yc (zK (za (zc 3) (za (ze ak (yc (zK (za (eC (.int 1)) (za (eC (.int 2)) (za (eC (.int 5)) (za (eC (.int 90)) (za (eC (.int 300)) zh))))))) (ze Yj (zc 4) (eC (.int 5)))) zh)))) zh)))) zA)
   (z9 (xb (za (zc 5) (za (yc (zK (za (ze Yj (ze w6 (zc 2) (eC (.int 64))) (eC (.int 10))) zh))) zh)))))) [.v (.int m),.v (.int c),.v (.int n),.v (.int a),.v (.int b),.v (.str x)]).w N cC cC nA:=λa b h0 J F P N x o=>by
   obtain⟨a,rfl⟩:=Bl h0
   obtain⟨b,rfl⟩:=Bl F
   exact zof ∅ ∅ o
  by_cases z:n%16<9
  .refine xz ?_
   rw[wr (ye (b:=true) (zr (x:=.int (n%16)) (y:=.int 9) (zr (x:=.int n) (y:=.int 16) rfl rfl (by rw[vp ⋯])) rfl (by show some (D.bl (decide (n%16<9)))=_;rw[t8 z])))]
   obtain⟨f,j⟩:∃ f,a%m=f:=⟨_,rfl⟩
   obtain⟨q,v⟩:∃ q:Int,(if m-1>1 then m-1 else 1)=q:=⟨_,rfl⟩
   have S:1<=q:=by rw[<-v];split <;> omega
   obtain⟨p,l⟩:∃ p,(f+1+b%q)%m=p:=⟨_,rfl⟩
   obtain⟨s,M⟩:=Wo ∅ j
   obtain⟨w,L⟩:=Wo ∅ l
   refine zt (xY (σ':=[.v (.int m),.v (.int c),.v (.int n),.v (.int f),.v (.int b),.no]) (zr (x:=.int a) (y:=.int m) rfl rfl (by rw[vp ∅,j]))) ?_
   have I:lD [.int 1,.int (m-1)]≈(.int q):=by rw[<-v];rfl
   refine dH (ρ':=[.v (.int m),.v (.int c),.v (.int n),.v (.int f),.v (.int p),.no]) (xY (zr (x:=.int (f+1+b%q)) (y:=.int m) (zr (x:=.int (f+1)) (y:=.int (b%q)) rfl (zr (x:=.int b) (y:=.int q) rfl (Zu (ds:=[.int 1,.int (m-1)]) rfl I) (by rw[vp ∅])) rfl) rfl (by rw[vp ∅,l]))) ?_
   exact h f p s ∅ w ∅ _ _ λx o=>fin f p s ∅ w ∅ _ x o
  .refine zt ((yL (ye (b:=false) (zr (x:=.int (n%16)) (y:=.int 9) (zr (x:=.int n) (y:=.int 16) rfl rfl (by rw[vp ⋯])) rfl (by show some (D.bl (decide (n%16<9)))=_;rw[t6 z])))).trans rfl) ?_
   exact h a b u ∅ B ∅ _ _ λx o=>fin a b u ∅ B ∅ _ x o
def zdF (T:Txt P w K mg base ad):T.Pr 41 2 2 Xm:=by
 have:=zcm T
 walk_at "p"
abbrev uI :=zI (cz false (zq 2 Xm (za (ze ak (zc 2) (eC (.int 0))) (za (zc 4) zh))) (VB 2 (xB (xg 5) (xB (xg 6) Vz))))
  (zI (xa false 7 (zq 4 yU (za (zc 5) (za (zc 6) (za (zc 2) (za (zc 3) zh))))))
  (zI (iZ 8 (jq 1 YN (za (YC ZR (eC (.str " ")) (za (ze yY (yc (zK (za (zc 5) zh))) (yc (aV (bz (zc 6)) b1 xh (aG VC (za (zc 0) zh))))) zh)) zh) (nD 1 2 xQ (za (YC ZR (eC (.str " ")) (za (ze yY (yc (zK (za (zc 5) zh))) (yc (aV (bz (zc 6)) b1 xh (aG VC (za (zc 0) zh))))) zh)) zh)) (nF (zq 2 Yi (za (zc 1) (za (YC ZR (eC (.str " ")) (za (ze yY (yc (zK (za (zc 5) zh))) (yc (aV (bz (zc 6)) b1 xh (aG VC (za (zc 0) zh))))) zh)) zh))))))
  (zI (aB (ao (aF (yZ .tuple) (zc 7))) (zI (cz false (zc 7) (VB 2 (xB (xg 2) (xB (xg 3) Vz))))
  (xa false 7 (eC (.str "ok")))) zA)
  (aB (YK (yq (ao (zq 2 xM (za (zc 8) (za (zc 7) zh))))) (ao (ze bG (kJ 2 xT (zc 1) (za (eC (.str "shown")) zh)) (zq 3 vx (za (zc 2) (za (zc 3) (za (eC (.str " ; ")) zh))))))) (z9 (eC (.bl false))) zA))))
abbrev sX :=zI (Dh 1)
  (zI (xa false 2 (xb (za (eC (.int 1)) (za (xb zh) zh))))
  (zI (xa false 3 (xb (za (eC (.int 0)) zh)))
  (zI (Wh (bz (ze yY (ze yY (yc (zK (za (eC (.int 1)) (za (eC (.int 2)) (za (eC (.int 3)) zh))))) (bK eU (zc 0) vb (wD (eC (.int 30))))) (yc (zK (za (eC (.int 0)) (za (eC (.int 5)) (za (eC (.int 6)) zh))))))) (xg 4) uI)
  (z9 (eC (.bl true))))))
def Jw:=aH 9 sX
def qe (s:bL):D:=.str (lw s.m s.ts s.h)
def sh {s:bL} (A:s.Ok) (e:zc 1 a≈(.obj s.wd s.d ps)):kJ 2 xT (zc 1) (za (eC (.str "shown")) zh) a≈(qe s):=by
 unfold kJ
 rw[e,k6]
 show((some [D.str "shown"]).bind λds=>if ds.length+1=2 then xT (.obj s.wd s.d ps::ds)else none)=_
 rw[k6,q4 (show [D.str "shown"].length+1=2 from rfl)]
 exact zh5 A
def znX (x:Str):bG (.str x) (.str x)≈(.bl false):=by
 show some (D.bl (!decide (x=x)))=_
 rw[t8 rfl]
 rfl
def HH {i:Nat}{c:D->D->zk->zk->Bool}{b:yE}{f g:SE->Option (D × SE)}{w:D}{p:eF}(e:a[i]?≈(.k w h p))(d:b (visG a)≈ds)(j:c w h p.l ds=true):jq i c b f g a=f a:=by
 unfold jq
 rw[e]
 dsimp only
 rw[d]
 dsimp only
 rw[q4 j]
def HJ {i:Nat}{c:D->D->zk->zk->Bool}{b:yE}{f g:SE->Option (D × SE)}{w:D}{p:eF}(e:a[i]?≈(.k w h p))(d:b (visG a)≈ds)(j:c w h p.l ds=false):jq i c b f g a=g a:=by
 unfold jq
 rw[e]
 dsimp only
 rw[d]
 dsimp only
 rw[j4 (by rw[j];exact u7)]
def znR {i n:Nat}{R:KV}{d w:D}{g ds:zk}{f:yE}{b:SE}(e:b[i]?≈(.k w h ⟨z,g⟩))(l:f (visG b)≈ds)(p:dI ds=true)(m:ds.length+1=n)(o:R w h g ds≈(d,j,c,a))(k:b.set i (.k j c ⟨z,a⟩)=ρ':=by rfl):nD i n R f b≈(d,ρ'):=by
 unfold nD
 rw[e]
 dsimp only
 rw[l,k6,q4 ⟨p,m⟩,o,<- k]
 rfl
def JV {f:SE->Option (D × SE)}{a:SE}{d:D}(h:f b≈(d,a))(c:a.set i (.v d)=ρ':=by rfl):iZ i f b=.nx ρ':=by
 unfold iZ
 rw[h,<- c]
def Sy {f:zU}{a:SE}(h:f (visG a)≈(.lst ds))(c:sO ds=true)(b:a.all Sl.tH=true):nF f a≈(.lst ds,a):=by
 unfold nF
 rw[h]
 dsimp only
 rw[q4 ⟨c,b⟩]
def znB:xM [.str "ok",.str "ok"]≈(.bl true):=by kernel_rfl
def Mh {f:zU}{b:vA}{d:D}(h:f (visF a)≈d)(c:b d a≈ρ'):cz false f b a=.nx ρ':=by
 show(match (f (visF a)).bind λd=>b d a with
  |some ρ'=>bu.nx ρ'
  |none=>.no)=_
 rw[h,k6,c]
def dM (ns:zB)(s:bL)(b:zk)(a f d c e:Sl):SE:=[.v (.scr ns),.k s.wd s.d ⟨none,b⟩,.v s.wd,.v s.d,a,f,d,c,e]
def zkX {s:bL}(h:gM a=true):gM (a++[s.p])=true:=by
 cases a with
 |nil=>rfl
 |cons d r=>cases d <;> first|rfl|cases h
def NP {s:bL} {f d:D} {g:zD} (A:s.Ok) (e:xM [f,d]≈(.bl true)):aB (YK (yq (ao (zq 2 xM (za (zc 8) (za (zc 7) zh))))) (ao (ze bG (kJ 2 xT (zc 1) (za (eC (.str "shown")) zh)) (zq 3 vx (za (zc 2) (za (zc 3) (za (eC (.str " ; ")) zh))))))) g zA (dM ns s a c i h (.v d) (.v f))=.nx (dM ns s a c i h (.v d) (.v f)):=by
 have j:vx [s.wd,s.d,.str " ; "]≈(qe s):=by
  unfold qe
  rw[zkB A]
  exact zm6 A ⋯
 exact(yL (zo8 (wh (b:=true) (ye (zu (ds:=[f,d]) rfl e))) (ye (b:=false) (zr (x:=qe s) (y:=qe s) (sh (ps:=a) A rfl) (zu (ds:=[s.wd,s.d,.str " ; "]) rfl j) (znX _))))).trans rfl
def ud {a:zB} (R:nU x a) (f:zc 5 b≈(.str x)) (e:zc 6 b≈(.lst (a.map .int))):YC ZR (eC (.str " ")) (za (ze yY (yc (zK (za (zc 5) zh))) (yc (aV (bz (zc 6)) b1 xh (aG VC (za (zc 0) zh))))) zh) b≈(.str (wB x a)):=by
 refine Nb (c:=.str (Str.ofString " ")) (d:=.lst ((x::a.map nS).map .str)) rfl (zd (zr (x:=.lst [.str x]) (y:=.lst ((a.map nS).map .str)) (xE (wN (zd f zE) (by show 1<=1000;decide))) (xE (Ei (lH (d:=.lst (a.map .int)) e rfl) R.n)) ?_) zE) (FP R.w R.n)
 rw[w8 (by rw[u8,u8];have:=R.n.few;show 1+_<=1000;omega)]
 rfl
def zmG {s:bL}{a:zk}{t k g:Sl}{I:YH}(A:s.Ok)(q:gM a=true)(G:g.tH=true)(B:a.length<1000)(u:∀ e h t m k g,bL.Ok e->gM h=true->g.tH=true->h.length<=a.length+1->I (dM ns e h (.v (.int z)) t m k g)):(uI (dM ns s a (.v (.int z)) t m k g)).w I b n r:=by
 obtain⟨x,c,F,R⟩:=zpF z A.ok.lo A.ok.hi
 unfold uI
 refine zt (ρ':=dM ns s a (.v (.int z)) (.v (.str x)) (.v (.lst (c.map .int))) k g) (Mh (zu (ds:=[.int s.m,.int z]) rfl F) rfl) ?_
 have v:YN s.wd s.d a [.str (wB x c)]=jd s.wd s.d x (c.map .int):=by
  unfold YN
  dsimp only
  rw[R.t.p]
  dsimp only
  rw[j4 R.b,j4 (by rw[R.q];exact u7)]
 rcases R.nx s A with ⟨l,e,A',C,p⟩|⟨l,j,f,w,o,p⟩
 .have y:xQ s.wd s.d a [.str (wB x c)]≈(.str "ok",e.wd,e.d,a++[s.p]):=by
   unfold xQ
   dsimp only
   rw[q4 (show bx (D.str (wB x c))=true from rfl),Tt R.t.p R.q R.b C (My _ _) (O5 _) (My _ _) (O5 _) B]
   rfl
  refine zt (ρ':=dM ns s a (.v (.int z)) (.v (.str x)) (.v (.lst (c.map .int))) (.v e.p) g) (xY (zu (ds:=[.str x,.lst (c.map .int),s.wd,s.d]) rfl p)) ?_
  refine zt (ρ':=[.v (.scr ns),.k e.wd e.d ⟨none,a++[s.p]⟩,.v s.wd,.v s.d,.v (.int z),.v (.str x),.v (.lst (c.map .int)),.v e.p,.v (.str "ok")]) (JV ((HH rfl (zd (ud R rfl rfl) zE) (v.trans l)).trans (znR (ds:=[.str (wB x c)]) rfl (zd (ud R rfl rfl) zE) rfl rfl y))) ?_
  refine zt (ρ':=dM ns e (a++[s.p]) (.v (.int z)) (.v (.str x)) (.v (.lst (c.map .int))) (.v (.str "ok")) (.v (.str "ok"))) ((wr (ye (b:=true) (VE (x:=e.p) rfl rfl))).trans ((Yu (Mh (d:=e.p) (ρ':=[.v (.scr ns),.k e.wd e.d ⟨none,a++[s.p]⟩,.v e.wd,.v e.d,.v (.int z),.v (.str x),.v (.lst (c.map .int)),.v e.p,.v (.str "ok")]) rfl rfl)).trans (xY rfl))) ?_
  exact dH (NP A' znB) (u _ _ _ _ _ _ A' (zkX q) rfl (by rw[k7];exact t7 _))
 .refine zt (ρ':=dM ns s a (.v (.int z)) (.v (.str x)) (.v (.lst (c.map .int))) (.v (.lst f)) g) (xY (zu (ds:=[.str x,.lst (c.map .int),s.wd,s.d]) rfl p)) ?_
  have E:Yi [.obj s.wd s.d a,.str (wB x c)]≈(.lst f):=zoD (R5 R.t.p R.t.q R.q R.b w) o.h
  have i:(dM ns s a (.v (.int z)) (.v (.str x)) (.v (.lst (c.map .int))) (.v (.lst f)) g).all Sl.tH=true:=by
   show(gM a&&(Sl.tH g&&true))=true
   rw[q,G]
   rfl
  refine zt (ρ':=dM ns s a (.v (.int z)) (.v (.str x)) (.v (.lst (c.map .int))) (.v (.lst f)) (.v (.lst f))) (JV ((HJ rfl (zd (ud R rfl rfl) zE) (v.trans l)).trans (Sy (zu (ds:=[.obj s.wd s.d a,.str (wB x c)]) (zd rfl (zd (ud R rfl rfl) zE)) E) o.i i))) ?_
  refine zt (ρ':=dM ns s a (.v (.int z)) (.v (.str x)) (.v (.lst (c.map .int))) (.v (.lst f)) (.v (.lst f))) ((yL (ye (b:=false) (VE (x:=.lst f) rfl rfl))).trans rfl) ?_
  exact dH (NP A o.s) (u _ _ _ _ _ _ A q rfl (gU _))
def s0:bL:=⟨1,[],[0]⟩
def Rt:s0.Ok:=Nm (by decide +kernel)
def qN {a b:zk}(h:a.length+b.length<=1000):yY (.lst a) (.lst b)≈(.lst (a++b)):=w8 h
def zjp (ns:zB)(h:ns.length<=63):Jw [.scr ns]≈(.bl true):=by
 refine YB (ρ:=[.v (.scr ns),.no,.no,.no,.no,.no,.no,.no,.no]) rfl ?_
 unfold sX
 refine zt (ρ':=[.v (.scr ns),.k s0.wd s0.d ⟨none,[]⟩,.no,.no,.no,.no,.no,.no,.no]) rfl ?_
 refine zt (ρ':=[.v (.scr ns),.k s0.wd s0.d ⟨none,[]⟩,.v s0.wd,.no,.no,.no,.no,.no,.no]) rfl ?_
 refine zt (ρ':=dM ns s0 [] .no .no .no .no .no) rfl ?_
 obtain⟨b,e⟩:∃ b:zB,([1,2,3]++VI ns none (some 30))++[0,5,6]=b:=⟨_,rfl⟩
 have w:=zkg ns none (some 30)
 have r:b.length<=69:=by
  rw[<-e,k7,k7]
  show 3+(VI ns none (some 30)).length+3<=69
  omega
 refine xz (nO (ds:=b.map .int) (λi j=>∃ s ps l g c f a,bL.Ok s/\gM ps=true/\a.tH=true/\ps.length<=i/\j=dM ns s ps l g c f a) ?_ ⟨s0,[],_,_,_,_,_,Rt,rfl,rfl,t7 _,rfl⟩ ?_ ?_)
 .refine lH (d:=.lst (b.map .int)) (zr (x:=.lst (([1,2,3]++VI ns none (some 30)).map D.int)) (y:=.lst [.int 0,.int 5,.int 6]) (zr (x:=.lst [.int 1,.int 2,.int 3]) (y:=.lst ((VI ns none (some 30)).map D.int)) rfl rfl ?_) rfl ?_) rfl
  .rw[qN (by rw[u8];show 3+_<=1000;omega),g5]
   rfl
  .rw[qN (by rw[u8,k7];show 3+_+3<=1000;omega),<- e,g5 (l₁:=[1,2,3]++VI ns none (some 30))]
   rfl
 .rintro i d j o ⟨s,ps,l,g,c,f,a,A,q,p,u,rfl⟩
  rw[k8]at o
  obtain⟨z,t,rfl⟩:=t4.mp o
  have C:=(j3.mp t).1
  exact⟨dM ns s ps (.v (.int z)) g c f a,rfl,zmG A q p ∅ λv m g c f a A' k n B=>⟨v,m,_,_,_,_,_,A',k,n,by omega,rfl⟩⟩
 .rintro j ⟨s,ps,l,g,c,f,a,A,q,p,u,rfl⟩
  exact vP (d:=.bl true) (zY rfl) rfl
def Tu (T:Txt P w K mg base ad):xt P w K mg base aM 40 (ad.f 45) (ad.e 45) (Rw 45).ps (nZ K):=by
 letI:KK:=⟨K,ad.dk⟩
 have G__law_same:=zcE T
 have G__law_text:=zcl T
 have G__law_row:=zdF T
 have G__law_next:=zcp T
 have G__law_said:=zbW T
 have V__law_said:=zal T
 have G_Desk_say:=WK T
 have I_init:=zj6 T
 refine(UL (p:=Jw) (Ws (N:=(Rw 45).N) (ps:=(Rw 45).ps) (T.d 45).fn (sc 45) (g:=sX) λd A outer s H E c=>?_) zjp).mono (j:=13) ⋯
 unfold sX uI
 exact(zC (zmq (i:=1) T.mkd (I_init.mono ⋯) c rfl T.g_Desk T.mb_Desk___init__ (sc 45).nd rfl (Or.inl rfl))
  (zC (xS (m:=false) (i:=2) (sc 45).nd rfl (Or.inl rfl) (wo (zb (zw zv) (zb (wo zi) zi))))
  (zC (xS (m:=false) (i:=3) (sc 45).nd rfl (Or.inl rfl) (wo (zb (zw zv) zi)))
  (zC (Dw Ag rfl (Zg (vD (vD (vB (xZ (zb (zw zv) (zb (zw zv) (zb (zw zv) zi))))) (Wc (aj 0) uY (uP (zw zv)))) (vB (xZ (zb (zw zv) (zb (zw zv) (zb (zw zv) zi))))))) (wR (yi (i:=4) (sc 45).nd rfl (Or.inl rfl))) (zC (Ed (m:=false) (zF G__law_row c rfl (T.d 41) (zb (yk (aj 2) (zw zv) (λ_ _=>rfl)) (zb (aj 4) zi))) (V5 rfl (wk (wR (yi (i:=5) (sc 45).nd rfl (Or.inl rfl))) (wk (wR (yi (i:=6) (sc 45).nd rfl (Or.inl rfl))) Xj))))
  (zC (xS (m:=false) (i:=7) (sc 45).nd rfl (Or.inl rfl) (zF G__law_next c rfl (T.d 43) (zb (aj 5) (zb (aj 6) (zb (aj 2) (zb (aj 3) zi))))))
  (zC (J2 (i:=8) (sc 45).nd rfl (Or.inl rfl) (zpH (zlf (V__law_said.mono ⋯) c rfl (T.d 44).at_ (T.d 44).kp (T.d 44).bd (pv 1) (zb (Xs (zR zQ) (zb (vD (vB (xZ (zb (aj 5) zi))) (vB (lL (L:=["number"]) (M:=["script","desk","web","heap","cell","word","numbers","due","found"]) rfl (Yt (by rfl) (by rfl) (by rfl) (by with_unfolding_all rfl) (by rfl) (by rfl) (by kernel_rfl) wU) (Zg (aj 6)) eX eV (λ_ _ _ _=>(yi (i:=0) K9 rfl (Or.inl rfl) (.inr rfl))) (λ_ _ _ _=>(xD xi Zr rfl (T.z "str" ⋯) Yx (zb (aj 0) zi)))))) zi) (λa b=>Zv p7 lX lW Xe a b)) zi)) (R9 (zF G__law_said c rfl (T.d 44) (zb (aj 1) (zb (Xs (zR zQ) (zb (vD (vB (xZ (zb (aj 5) zi))) (vB (lL (L:=["number"]) (M:=["script","desk","web","heap","cell","word","numbers","due","found"]) rfl (Yt (by rfl) (by rfl) (by rfl) (by with_unfolding_all rfl) (by rfl) (by rfl) (by kernel_rfl) wU) (Zg (aj 6)) eX eV (λ_ _ _ _=>(yi (i:=0) K9 rfl (Or.inl rfl) (.inr rfl))) (λ_ _ _ _=>(xD xi Zr rfl (T.z "str" ⋯) Yx (zb (aj 0) zi)))))) zi) (λa b=>Zv p7 lX lW Xe a b)) zi))))))
  (zC (x8 (wq (vZ .tuple rfl (T.z "isinstance" ⋯) (aj 7) (vg (v:=.ty "tuple") rfl (T.z "tuple" ⋯) Fy rfl))) (zC (Ed (m:=false) (aj 7) (V5 rfl (wk (wR (yi (i:=2) (sc 45).nd rfl (Or.inl rfl))) (wk (wR (yi (i:=3) (sc 45).nd rfl (Or.inl rfl))) Xj))))
  (zO (xS (m:=false) (i:=7) (sc 45).nd rfl (Or.inl rfl) (zR zQ)))) z5)
  (zO (x8 (jZ (nM (ws (wq (zF G__law_same c rfl (T.d 39) (zb (aj 8) (zb (aj 7) zi))))) (oO (zV lq oK (yx _) (Ly T.dkc.cl T.mm_Desk_say (G_Desk_say.mono ⋯) c T.mb_Desk_say (aj 1) (zb (zR zQ) zi)) (zF G__law_text c rfl (T.d 40) (zb (aj 2) (zb (aj 3) (zb (zR zQ) zi)))))))) (zO (x5 (tu lE))) z5)))))))
  (zO (x5 (tu lE)))))))
end
def all_mk {l:W.OpenLaw} {w:World} {K:zx} {h:Heap} {mg:wm} {fa:Addr} (X:K.In h) (G:h.Ns mainGlobals mg) (hfa:mg "law"≈(.ref fa)) {tk0:Tok} {tk1:Tok} {tk2:Tok}
 {sz0 ep0:Nat} {rr0_0 rr0_1 rr0_2 rr0_3 rr0_4:Addr} {hh0_0 hh0_1 hh0_2 hh0_3 hh0_4:Int} {tt0_0 tu0_0_0 tu0_0_1 tt0_1 tu0_1_0 tu0_1_1 tt0_2 tu0_2_0 tu0_2_1 tt0_3 tu0_3_0 tu0_3_1 tt0_4 tu0_4_0 tu0_4_1:Tok} {nn0_0 nn0_1 nn0_2 nn0_3 nn0_4:Nat} {oo0_0 oo0_1 oo0_2 oo0_3 oo0_4:yN} {ss0_0 ss0_1 ss0_2 ss0_3 ss0_4:Array (Option Value)}
 {iz0 ie0:Nat} {ih0_0 ih0_1 ih0_2 ih0_3 ih0_4 ih0_5 ih0_6 ih0_7 ih0_8 ih0_9 ih0_10:Int} {it0_0 iu0_0 it0_1 iu0_1 it0_2 iu0_2 it0_3 iu0_3 it0_4 iu0_4 it0_5 iu0_5 it0_6 iu0_6 it0_7 iu0_7 it0_8 iu0_8 it0_9 iu0_9 it0_10 iu0_10:Tok}
 (ia0:W.nsIn K mainGlobals "DEEDS"≈(some (.ref iz0))) (ib0:K.lookup iz0≈{ cls:=.type "dict",data:=.dict #[{ hash:=ih0_0,key:=.str "web" it0_0,val:=.int 1 iu0_0 },{ hash:=ih0_1,key:=.str "row" it0_1,val:=.int 1 iu0_1 },{ hash:=ih0_2,key:=.str "ring" it0_2,val:=.int 1 iu0_2 },{ hash:=ih0_3,key:=.str "cube" it0_3,val:=.int 1 iu0_3 },{ hash:=ih0_4,key:=.str "full" it0_4,val:=.int 1 iu0_4 },{ hash:=ih0_5,key:=.str "star" it0_5,val:=.int 1 iu0_5 },{ hash:=ih0_6,key:=.str "tie" it0_6,val:=.int 2 iu0_6 },{ hash:=ih0_7,key:=.str "cut" it0_7,val:=.int 2 iu0_7 },{ hash:=ih0_8,key:=.str "put" it0_8,val:=.int 2 iu0_8 },{ hash:=ih0_9,key:=.str "step" it0_9,val:=.int 2 iu0_9 },{ hash:=ih0_10,key:=.str "back" it0_10,val:=.int 0 iu0_10 }] ie0 }) (id0:(iz0 == sysModules)=false)
 {iz1 ie1:Nat} {ih1_0 ih1_1 ih1_2 ih1_3 ih1_4 ih1_5 ih1_6 ih1_7:Int} {it1_0 iu1_0 it1_1 iu1_1 it1_2 iu1_2 it1_3 iu1_3 it1_4 iu1_4 it1_5 iu1_5 it1_6 iu1_6 it1_7 iu1_7:Tok}
 (ia1:W.nsIn K mainGlobals "QUESTIONS"≈(some (.ref iz1))) (ib1:K.lookup iz1≈{ cls:=.type "dict",data:=.dict #[{ hash:=ih1_0,key:=.str "heap" it1_0,val:=.int 0 iu1_0 },{ hash:=ih1_1,key:=.str "ties" it1_1,val:=.int 0 iu1_1 },{ hash:=ih1_2,key:=.str "steps" it1_2,val:=.int 0 iu1_2 },{ hash:=ih1_3,key:=.str "far" it1_3,val:=.int 2 iu1_3 },{ hash:=ih1_4,key:=.str "most" it1_4,val:=.int 1 iu1_4 },{ hash:=ih1_5,key:=.str "reached" it1_5,val:=.int 0 iu1_5 },{ hash:=ih1_6,key:=.str "need" it1_6,val:=.int 1 iu1_6 },{ hash:=ih1_7,key:=.str "shown" it1_7,val:=.int 0 iu1_7 }] ie1 }) (id1:(iz1 == sysModules)=false)
 {cD:Addr} (da:W.nsIn K mainGlobals "Desk"≈(some (.ref cD))) (db1:W.plainGet K cD Str.empty=true) (db2:W.hasDictIn K cD=true) (db3:W.plainOver K cD=true) (dc:W.findIn K (.ref cD) "__setattr__"≈(some (.builtin "object.__setattr__"))) (db4:jT K cD ["web","heap","past"]=true) (db5:W.makesIn K cD=true) (db6:W.keepIn K (.ref cD)=true)
 {mi0:Addr} {mod0 man0:yN} {msl0:Array (Option Value)} {moc0 mkV0 mdc0 mpm0 mcd0 mct0:Value}
 (ma0:W.findIn K (.ref cD) "__init__"≈(some (.ref mi0))) (ml0:K.lookup mi0≈⟨moc0,mod0,.func (W.fnOf "__init__" "Desk.__init__" (we yD) (ya yD) (zm yD) .none mkV0 mdc0 mpm0 man0 mcd0 mct0),msl0⟩) (mc0:W.codeIn K mcd0 "Desk.__init__"=true) (mk0:W.keepIn K (.ref mi0)=true) (mf0:W.isFn K (.ref mi0)=true)
 {mi1:Addr} {mod1 man1:yN} {msl1:Array (Option Value)} {moc1 mkV1 mdc1 mpm1 mcd1 mct1:Value}
 (ma1:W.findIn K (.ref cD) "say"≈(some (.ref mi1))) (ml1:K.lookup mi1≈⟨moc1,mod1,.func (W.fnOf "say" "Desk.say" (we wy) (ya wy) (zm wy) .none mkV1 mdc1 mpm1 man1 mcd1 mct1),msl1⟩) (mc1:W.codeIn K mcd1 "Desk.say"=true) (mk1:W.keepIn K (.ref mi1)=true) (mf1:W.isFn K (.ref mi1)=true)
 {mi2:Addr} {mod2 man2:yN} {msl2:Array (Option Value)} {moc2 mkV2 mdc2 mpm2 mcd2 mct2:Value}
 (ma2:W.findIn K (.ref cD) "go_on"≈(some (.ref mi2))) (ml2:K.lookup mi2≈⟨moc2,mod2,.func (W.fnOf "go_on" "Desk.go_on" (we xq) (ya xq) (zm xq) .none mkV2 mdc2 mpm2 man2 mcd2 mct2),msl2⟩) (mc2:W.codeIn K mcd2 "Desk.go_on"=true) (mk2:W.keepIn K (.ref mi2)=true) (mf2:W.isFn K (.ref mi2)=true)
 {mi3:Addr} {mod3 man3:yN} {msl3:Array (Option Value)} {moc3 mkV3 mdc3 mpm3 mcd3 mct3:Value}
 (ma3:W.findIn K (.ref cD) "go_back"≈(some (.ref mi3))) (ml3:K.lookup mi3≈⟨moc3,mod3,.func (W.fnOf "go_back" "Desk.go_back" (we yK) (ya yK) (zm yK) .none mkV3 mdc3 mpm3 man3 mcd3 mct3),msl3⟩) (mc3:W.codeIn K mcd3 "Desk.go_back"=true) (mk3:W.keepIn K (.ref mi3)=true) (mf3:W.isFn K (.ref mi3)=true)
 (D:∀ r∈rows,Dx K mg ([]:Vh) r) (Z:∀ x∈zs,W.nsIn K mainGlobals x≈none)
 (gg0:W.nsIn K mainGlobals "MOST_PLACES"≈(some (.int 8 tk0)))
 (gg1:W.nsIn K mainGlobals "MOST_STONES"≈(some (.int 300 tk1)))
 (gg2:W.nsIn K mainGlobals "MOST_FIGURES"≈(some (.int 3 tk2)))
 (sa0:W.nsIn K mainGlobals "SIZES"≈(some (.ref sz0))) (sb0:K.lookup sz0≈{ cls:=.type "dict",data:=.dict #[{ hash:=hh0_0,key:=.str "row" tt0_0,val:=.ref rr0_0 },{ hash:=hh0_1,key:=.str "ring" tt0_1,val:=.ref rr0_1 },{ hash:=hh0_2,key:=.str "cube" tt0_2,val:=.ref rr0_2 },{ hash:=hh0_3,key:=.str "full" tt0_3,val:=.ref rr0_3 },{ hash:=hh0_4,key:=.str "star" tt0_4,val:=.ref rr0_4 }] ep0 }) (sd0:(sz0 == sysModules)=false)
 (sc0_0:K.lookup rr0_0≈{ cls:=.type "tuple",dict:=oo0_0,data:=.seq #[.int 1 tu0_0_0,.int 8 tu0_0_1] nn0_0,slots:=ss0_0 })
 (sc0_1:K.lookup rr0_1≈{ cls:=.type "tuple",dict:=oo0_1,data:=.seq #[.int 3 tu0_1_0,.int 8 tu0_1_1] nn0_1,slots:=ss0_1 })
 (sc0_2:K.lookup rr0_2≈{ cls:=.type "tuple",dict:=oo0_2,data:=.seq #[.int 0 tu0_2_0,.int 3 tu0_2_1] nn0_2,slots:=ss0_2 })
 (sc0_3:K.lookup rr0_3≈{ cls:=.type "tuple",dict:=oo0_3,data:=.seq #[.int 1 tu0_3_0,.int 8 tu0_3_1] nn0_3,slots:=ss0_3 })
 (sc0_4:K.lookup rr0_4≈{ cls:=.type "tuple",dict:=oo0_4,data:=.seq #[.int 1 tu0_4_0,.int 7 tu0_4_1] nn0_4,slots:=ss0_4 })
 {xx0 xx1 xx2 xx3 xx4 xx5 xx6 xx7 xx8 xx9 xx10 xx11 xx12 xx13:Addr}
 (xa0:W.nsIn K mainGlobals "NoWeb"≈(some (.ref xx0)))
 (xa1:W.nsIn K mainGlobals "NoKind"≈(some (.ref xx1)))
 (xa2:W.nsIn K mainGlobals "NoHeap"≈(some (.ref xx2)))
 (xa3:W.nsIn K mainGlobals "NoPlace"≈(some (.ref xx3)))
 (xa4:W.nsIn K mainGlobals "NoNumber"≈(some (.ref xx4)))
 (xa5:W.nsIn K mainGlobals "NoTally"≈(some (.ref xx5)))
 (xa6:W.nsIn K mainGlobals "NotTree"≈(some (.ref xx6)))
 (xa7:W.nsIn K mainGlobals "NotJoined"≈(some (.ref xx7)))
 (xa8:W.nsIn K mainGlobals "NoWeights"≈(some (.ref xx8)))
 (xa9:W.nsIn K mainGlobals "NoRow"≈(some (.ref xx9)))
 (xa10:W.nsIn K mainGlobals "NoSteps"≈(some (.ref xx10)))
 (xa11:W.nsIn K mainGlobals "NoText"≈(some (.ref xx11)))
 (xa12:W.nsIn K mainGlobals "TooGreat"≈(some (.ref xx12)))
 (xa13:W.nsIn K mainGlobals "StoneError"≈(some (.ref xx13)))
 (xc0:vH K [xx0,xx1,xx2,xx3,xx4,xx5,xx6,xx7,xx8,xx9,xx10,xx11,xx12] xx13 xx0 0=true)
 {yi0:Addr} {yod0 yan0:yN} {ysl0:Array (Option Value)} {yoc0 ykV0 ydc0 ypm0 ycd0 yct0:Value}
 (ya0:W.findIn K (.ref xx0) "__init__"≈(some (.ref yi0))) (yl0:K.lookup yi0≈⟨yoc0,yod0,.func (W.fnOf "__init__" "NoWeb.__init__" (we YX) (ya YX) (zm YX) .none ykV0 ydc0 ypm0 yan0 ycd0 yct0),ysl0⟩) (yc0:W.codeIn K ycd0 "NoWeb.__init__"=true) (yk0:W.keepIn K (.ref yi0)=true)
 (ye0:jj K xx0 yi0=true) (yf0:VA K xx0=true) (yg0:jT K xx0 ["at"]=true)
 (xc1:vH K [xx0,xx1,xx2,xx3,xx4,xx5,xx6,xx7,xx8,xx9,xx10,xx11,xx12] xx13 xx1 1=true)
 (xb1:W.excIn K xx1 il "ValueError.__new__"=true)
 (xc2:vH K [xx0,xx1,xx2,xx3,xx4,xx5,xx6,xx7,xx8,xx9,xx10,xx11,xx12] xx13 xx2 2=true)
 (xb2:W.excIn K xx2 il "ValueError.__new__"=true)
 (xc3:vH K [xx0,xx1,xx2,xx3,xx4,xx5,xx6,xx7,xx8,xx9,xx10,xx11,xx12] xx13 xx3 3=true)
 (xb3:W.excIn K xx3 il "ValueError.__new__"=true)
 (xc9:vH K [xx0,xx1,xx2,xx3,xx4,xx5,xx6,xx7,xx8,xx9,xx10,xx11,xx12] xx13 xx9 9=true)
 (xb9:W.excIn K xx9 il "ValueError.__new__"=true)
 (xc10:vH K [xx0,xx1,xx2,xx3,xx4,xx5,xx6,xx7,xx8,xx9,xx10,xx11,xx12] xx13 xx10 10=true)
 {yi10:Addr} {yod10 yan10:yN} {ysl10:Array (Option Value)} {yoc10 ykV10 ydc10 ypm10 ycd10 yct10:Value}
 (ya10:W.findIn K (.ref xx10) "__init__"≈(some (.ref yi10))) (yl10:K.lookup yi10≈⟨yoc10,yod10,.func (W.fnOf "__init__" "NoSteps.__init__" (we vf) (ya vf) (zm vf) .none ykV10 ydc10 ypm10 yan10 ycd10 yct10),ysl10⟩) (yc10:W.codeIn K ycd10 "NoSteps.__init__"=true) (yk10:W.keepIn K (.ref yi10)=true)
 (ye10:jj K xx10 yi10=true) (yf10:VA K xx10=true) (yg10:jT K xx10 ["at"]=true)
 : ∃ fd:FuncData,(∀ (s:zn) (v:Value),BindsTo s fd ⟨[v],[]⟩ [("script",v)])/\∀ base:Heap,K.In base->base.Ns mainGlobals mg->xt l.prog w K mg base aM 40 fa fd ["script"] (nZ K):=by
 have D':∀ i,Dx K mg ([]:Vh) (Rw i):=Py D (D _ (o0 (i:=45) rfl))
 have e:=hfa.symm.trans (D' 45).choose_spec.choose_spec.1.at_
 cases e
 have FY0:=XB (st:=YX) yl0 yc0 yk0
 have FY10:=XB (st:=vf) yl10 yc10 yk10
 have FM0:=XB (st:=yD) ml0 mc0 mk0
 have FM1:=XB (st:=wy) ml1 mc1 mk1
 have FM2:=XB (st:=xq) ml2 mc2 mk2
 have FM3:=XB (st:=yK) ml3 mc3 mk3
 have T:∀ base:Heap,Txt l.prog w K mg base ⟨λi=>(D' i).choose,λi=>(D' i).choose_spec.choose,iz0,iz1,cD,mi0,_,mi1,_,mi2,_,mi3,_,tk0,tk1,tk2,sz0,xx0,xx1,xx2,xx3,xx4,xx5,xx6,xx7,xx8,xx9,xx10,xx11,xx12,xx13,_,_,_,_⟩:=λbase=>⟨λi=>(D' i).choose_spec.choose_spec.1,λx hx=>W.mg_none_of X G (Z x hx),
  f7 X G ia0,
  λh hK=>⟨id0,_,_,_,hK _ _ ib0,⟨rfl,rfl,rfl⟩,rfl,(.cons rfl (.int _ _) (.cons rfl (.int _ _) (.cons rfl (.int _ _) (.cons rfl (.int _ _) (.cons rfl (.int _ _) (.cons rfl (.int _ _) (.cons rfl (.int _ _) (.cons rfl (.int _ _) (.cons rfl (.int _ _) (.cons rfl (.int _ _) (.cons rfl (.int _ _) .nil)))))))))))⟩,
  f7 X G ia1,
  λh hK=>⟨id1,_,_,_,hK _ _ ib1,⟨rfl,rfl,rfl⟩,rfl,(.cons rfl (.int _ _) (.cons rfl (.int _ _) (.cons rfl (.int _ _) (.cons rfl (.int _ _) (.cons rfl (.int _ _) (.cons rfl (.int _ _) (.cons rfl (.int _ _) (.cons rfl (.int _ _) .nil))))))))⟩,
  f7 X G da,
  ⟨⟨db1,db2,db3,dc⟩,wx db4 _ ⋯,wx db4 _ ⋯,wx db4 _ ⋯⟩,
  ⟨db5,ma0,mf0,db6⟩,
  FM0,
  FM0.binds (ps:=["self"]) (λ_ _ _ _ _ _ us hl=>by repeat' first | rfl | (exfalso;revert hl;simp;done) | (rcases us with _ | ⟨_,us⟩)),
  FM1,
  FM1.binds (ps:=["self","row"]) (λ_ _ _ _ _ _ us hl=>by repeat' first | rfl | (exfalso;revert hl;simp;done) | (rcases us with _ | ⟨_,us⟩)),
  ⟨ma1,mf1,mk1⟩,
  FM2,
  FM2.binds (ps:=["self","state"]) (λ_ _ _ _ _ _ us hl=>by repeat' first | rfl | (exfalso;revert hl;simp;done) | (rcases us with _ | ⟨_,us⟩)),
  ⟨ma2,mf2,mk2⟩,
  FM3,
  FM3.binds (ps:=["self"]) (λ_ _ _ _ _ _ us hl=>by repeat' first | rfl | (exfalso;revert hl;simp;done) | (rcases us with _ | ⟨_,us⟩)),
  ⟨ma3,mf3,mk3⟩
,
 f7 X G gg0,
 f7 X G gg1,
 f7 X G gg2,
 f7 X G sa0,
 λh hK=>⟨sd0,_,_,_,hK _ _ sb0,⟨rfl,rfl,rfl⟩,rfl,(.cons rfl ⟨_,_,rfl,⟨_,hK _ _ sc0_0,rfl,_,rfl⟩,(.cons (.int _ _) (.cons (.int _ _) .nil))⟩ (.cons rfl ⟨_,_,rfl,⟨_,hK _ _ sc0_1,rfl,_,rfl⟩,(.cons (.int _ _) (.cons (.int _ _) .nil))⟩ (.cons rfl ⟨_,_,rfl,⟨_,hK _ _ sc0_2,rfl,_,rfl⟩,(.cons (.int _ _) (.cons (.int _ _) .nil))⟩ (.cons rfl ⟨_,_,rfl,⟨_,hK _ _ sc0_3,rfl,_,rfl⟩,(.cons (.int _ _) (.cons (.int _ _) .nil))⟩ (.cons rfl ⟨_,_,rfl,⟨_,hK _ _ sc0_4,rfl,_,rfl⟩,(.cons (.int _ _) (.cons (.int _ _) .nil))⟩ .nil)))))⟩,
 f7 X G xa0,
 f7 X G xa1,
 f7 X G xa2,
 f7 X G xa3,
 f7 X G xa4,
 f7 X G xa5,
 f7 X G xa6,
 f7 X G xa7,
 f7 X G xa8,
 f7 X G xa9,
 f7 X G xa10,
 f7 X G xa11,
 f7 X G xa12,
 f7 X G xa13,
 xb1,
 xb2,
 xb3,
 xb9,
 xc0,
 xc1,
 xc2,
 xc3,
 xc9,
 xc10,
 FY0,
 FY0.binds (ps:=["self","at"]) (λ_ _ _ _ _ _ us hl=>by repeat' first | rfl | (exfalso;revert hl;simp;done) | (rcases us with _ | ⟨_,us⟩)),
 ye0,
 yf0,
 yg0,
 FY10,
 FY10.binds (ps:=["self","at"]) (λ_ _ _ _ _ _ us hl=>by repeat' first | rfl | (exfalso;revert hl;simp;done) | (rcases us with _ | ⟨_,us⟩)),
 ye10,
 yf10,
 yg10⟩
 exact⟨_,λs v=>ziY (D' 45).choose_spec.choose_spec.1.fn λ_ _ _ _ _ _=>rfl,λbase _ _=>Tu (T base)⟩
theorem walk {l:W.OpenLaw}{q:zM}{loose:zG}{XP:wm->Heap->Prop}{YP:World->Heap->Prop}{d:DefRec}{K:Params->W.Frag}(hn:l.most≈63)(hdf:d.params.defaults=[])
 (hY:∀ (w:World) (h:Heap),YP w h->(K w.params).In h)
 (F:∀ (w:World) (mg:wm) (fa:Addr) (h:Heap),(K w.params).In h->h.Ns mainGlobals mg->mg d.name≈(.ref fa) ->
  ∃ fd:FuncData,(∀ (s:zn) (u:Value),BindsTo s fd ⟨[u],[]⟩ [("script",u)])/\∀ base:Heap,(K w.params).In base->base.Ns mainGlobals mg->xt l.prog w (K w.params) mg base aM 40 fa fd ["script"] (nZ (K w.params))) :
 PySem.W.WalkO q loose XP YP l.row.toRowW d [] (λf vs=>PySem.call f vs) :=
 L2.walk_of (n:=63) (k:=40) (x:="script") (CX:=λ_=>aM) (sp:=λw=>nZ (K w.params)) hn ⋯ hdf ⟨rfl,by decide,by decide⟩ hY F (λ_ _ a ns hl _ hS=>⟨a,ns,rfl,hS,hl,λ_=>rfl⟩) λ_ _ _ _ _ z=>z
end Mz
open PySem PySem.W PyProof.Rows
inductive PySem.W.Fast:Prop|tw14016859682713197407|tw14995297232675313107|tw17491111176484219214|tw1470465983637150244|tw6588668404052554906|tw2003413246690291905|tw14229055180424775489|tw1839981432032173543|tw405897906894475351|tw13571927009588059967|tw10492152148708294557|tw5344074600581991092|tw15978000294998397673|tw2575216637621060177|tw14188243781922399258|tw3416521262554848602|tw5231163401360686885|tw15744513274332075361|tw12232211493166962204|tw1954414128791008544|tw15866949070291382506|tw13088393480286511717|tw15399217963493964769|tw10781512731820381792|tw1981302068350803952|tw16621376552672781763|tw8203516466797411681|tw11472167421292466763|tw7444305661757169582|tw6946012482574480484|tw11242913802805056433|tw5725767684742706127|tw14347508765784446727|tw4558256547255832084|tw17922105854433950246|tw12998365748055776219|tw17125290687434705821|tw1918223805025772984|tw3927794648298038130|tw11013885789861982725|tw1646544242658280746|tw5119642589409857415|tw6331578483163744764|tw11360200912892240317|tw14865954910608297406|tw1039587645264264111|tw2489678240450723561|tw18173357403809015032|tw1022540209781192895|tw3832080484379685042|tw14302514645741727720|tw1218162228921327792|tw2953654819811421247|tw10868101086115863732|tw12588918001605313796|tw5229193579596270955|tw16235555453423568999|tw261895048169550880|tw7960226745889980710|tw1071613833796541832|tw9529549492711156468|tw13490193772055277426|tw3853088731748135|tw7724069804766790826|tw3224810739771729787|tw15892434135699494957|tw11868064058421052427|tw6401979837049757435|tw12894120071748753441|tw6804308972878755840|tw10759736876957602929|tw13775768461985044483|tw11300314979310317202|tw11796387230915625920|tw7411605836328325279|tw2314400719638337762|tw251478457299490900|tw13954766961128651936|tw10211072704595490289|tw1225165264504499557|tw6494088549502890947|tw5705403145913814191|tw11117315969787710066|tw7319415618400924871|tw8366654267981059549|tw5198468346732146848|tw5617817447858803169|tw286285735150203877|tw2789983667302205342|tw3416146245784021940|tw12527867364526280792|tw17826897312300348630|tw11620776966102172430|tw2290546929970839418|tw16398242394068964948|tw16904513557253221496|tw301324613660071848|tw16338671580781158584|tw16057096143995520455|tw351721314874308918|tw17871040645141313428|tw7883332479328378813|tw4534027397320229500|tw588062607807282712|tw5841581771952499658|tw11286051046268904641|tw16272179477888632455|tw1988864616415862470|tw13596620415433303235|tw16991073918344838105|tw5055800151472148193|tw7020692897456098141|tw10380433512761421244|tw5744860367391977486|tw17409038996828505182|tw10780766120811807502|tw343063085954950574|tw14003001909831016141|tw7113504505035227031|tw12255944794717572951|tw7776274595064541251|tw9344811399019026621|tw5989022599378175358|tw2881957156853743368|tw17346284014289525688|tw4472006643279784777|tw11175956353978945782|tw17716749764904009828|tw7790112253656532076|tw10908256934038195268|tw7380884163385810878|tw17329552606869120457|tw15008584281108260301|tw14626711188067003741|tw8763297832741642719|tw9318247329884018179|tw15886329328278732157|tw5209667183537263389|tw11024894954371105852|tw7136448831849604781|tw13788211004618173346|tw67438643189024859|tw10154264111107159660|tw7501602113314606011|tw12739462847724600862|tw13281116515636324856|tw9365785524248310079|tw10511486320771424975|tw6173410220899067333|tw1193965005678105091
namespace PySem.W.Fast
theorem tw16277668019538077692:True:=⟨⟩
theorem tw3186779909455770884:True:=⟨⟩
theorem tw3529208012706129692:True:=⟨⟩
theorem tw7891162049598707380:True:=⟨⟩
theorem tw6928740204949447438:True:=⟨⟩
theorem tw8592688155589401802:True:=⟨⟩
theorem tw17987077679124101768:True:=⟨⟩
theorem tw8978674269752214723:True:=⟨⟩
theorem tw14373066551512261070:True:=⟨⟩
theorem tw3693303056696576849:True:=⟨⟩
theorem tw1891412322828704671:True:=⟨⟩
theorem tw34382850294216812:True:=⟨⟩
theorem tw12625338134057241652:True:=⟨⟩
theorem tw12437441520437174030:True:=⟨⟩
theorem tw18026939076351905574:True:=⟨⟩
theorem tw7164949721597747709:True:=⟨⟩
theorem tw3404708293799216870:True:=⟨⟩
theorem tw14537205975360357849:True:=⟨⟩
theorem tw10232796187267033678:True:=⟨⟩
theorem tw14021353237160077568:True:=⟨⟩
theorem tw18168186226013937194:True:=⟨⟩
theorem tw407554274094260103:True:=⟨⟩
theorem tw10335845056480097816:True:=⟨⟩
theorem tw8564543123652708160:True:=⟨⟩
theorem tw12645919735191205739:True:=⟨⟩
theorem tw1291245020041288061:True:=⟨⟩
theorem tw14623840367412732310:True:=⟨⟩
theorem tw17083998604796133640:True:=⟨⟩
theorem tw4217390480532090546:True:=⟨⟩
end PySem.W.Fast
set_option maxRecDepth 100000 in
set_option maxHeartbeats 0 in
theorem PySem.Challenge.cw_twoforone_k92_desk_done_holds : PySem.Challenge.rw_twoforone_k92_desk_done.Holds := by
  w_on;o_law;k_head;(case hw=>w_witness2)
  k_fill
  refine Mz.walk (l:=PySem.Challenge.rw_twoforone_k92_desk_done) rfl rfl (fun w h Y=>PySem.W.kIn_of Y) ?F
  case F =>
    intro w mg fa h KX G hmg
    refine' Mz.all_mk KX G hmg ?ia0 ?ib0 ?id0 ?ia1 ?ib1 ?id1 ?da ?db1 ?db2 ?db3 ?dc ?db4 ?db5 ?db6 ?ma0 ?ml0 ?mc0 ?mk0 ?mf0 ?ma1 ?ml1 ?mc1 ?mk1 ?mf1 ?ma2 ?ml2 ?mc2 ?mk2 ?mf2 ?ma3 ?ml3 ?mc3 ?mk3 ?mf3 ?D ?Z ?gg0 ?gg1 ?gg2 ?sa0 ?sb0 ?sd0 ?sc0_0 ?sc0_1 ?sc0_2 ?sc0_3 ?sc0_4 ?xa0 ?xa1 ?xa2 ?xa3 ?xa4 ?xa5 ?xa6 ?xa7 ?xa8 ?xa9 ?xa10 ?xa11 ?xa12 ?xa13 ?xc0 ?ya0 ?yl0 ?yc0 ?yk0 ?ye0 ?yf0 ?yg0 ?xc1 ?xb1 ?xc2 ?xb2 ?xc3 ?xb3 ?xc9 ?xb9 ?xc10 ?ya10 ?yl10 ?yc10 ?yk10 ?ye10 ?yf10 ?yg10
    case ia0=>k_is
    case ib0=>k_is
    case id0=>decide
    case ia1=>k_is
    case ib1=>k_is
    case id1=>decide
    case da=>k_is
    case db1=>kernel_rfl
    case db2=>kernel_rfl
    case db3=>kernel_rfl
    case dc=>k_is
    case db4=>kernel_rfl
    case db5=>kernel_rfl
    case db6=>kernel_rfl
    case ma0=>k_is
    case ml0=>k_is
    case mc0=>k_is
    case mk0=>k_is
    case mf0=>k_is
    case ma1=>k_is
    case ml1=>k_is
    case mc1=>k_is
    case mk1=>k_is
    case mf1=>k_is
    case ma2=>k_is
    case ml2=>k_is
    case mc2=>k_is
    case mk2=>k_is
    case mf2=>k_is
    case ma3=>k_is
    case ml3=>k_is
    case mc3=>k_is
    case mk3=>k_is
    case mf3=>k_is
    case D =>
      repeat
        refine' Dl.Dx_cons (Dl.mkX KX G ?_ ?_ ?_ ?_ ?_ ?_) ?_
        any_goals k_is
        · intro _ _ _ _ _ _ us hl
          repeat' first|rfl | (exfalso;revert hl;simp;done) | (rcases us with _|⟨_,us⟩)
        · first|exact .inl rfl|exact .inr ⟨_,rfl,rfl⟩
      exact fun _ h=>nomatch h
    case Z =>
      repeat
        refine' Dl.Z_cons ?_ ?_
        · k_is
      exact fun _ h=>nomatch h
    case gg0|gg1|gg2|sa0|sb0=>k_is
    case sd0=>decide
    case sc0_0|sc0_1|sc0_2|sc0_3|sc0_4|xa0|xa1|xa2|xa3|xa4|xa5|xa6|xa7|xa8|xa9|xa10|xa11|xa12|xa13=>k_is
    case xc0=>kernel_rfl
    case ya0|yl0|yc0|yk0=>k_is
    case ye0|yf0|yg0|xc1|xb1|xc2|xb2|xc3|xb3|xc9|xb9|xc10=>kernel_rfl
    case ya10|yl10|yc10|yk10=>k_is
    case ye10|yf10|yg10=>kernel_rfl
