import PyProof.Rows.All
import Wide.All
import OpenK.AllK
import Wide.FinOn
import Lean
import PyProof.EqAt
import PyProof.EqKinds
import PyProof.TupleCall
import PyProof.NeKinds
import KE.KIntText
import PySem.Challenge.RW_twoforone_k96_two_desks
set_option bootstrap.genMatcherCode false
set_option compiler.extract_closed false
set_option Elab.async false
set_option linter.all false
set_option maxRecDepth 100000
set_option maxHeartbeats 4000000
def u0F:=@Array.getElem?_eq_getElem
def u15:=@Array.getElem?_eq_some_iff
def u1C:=@Array.getElem?_toList
def i1:=@Array.length_toList
def u16:=@Array.perm_iff_toList_perm
def j6:=@Bool.and_eq_true
def u0Q:=@Bool.and_false
def u2z:=@Bool.and_true
def u1e:=@Bool.eq_iff_iff
def u2V:=@Bool.false_and
def u1f:=@Bool.false_eq_true
def u7:=@Bool.false_ne_true
def u0W:=@Bool.not_eq_true'
def u1g:=@Bool.or_eq_true
def u0R:=@PySem.Calls.callWith_builtin
def u1M:=@PySem.Calls.evalArgs_plain
def u2a:=@PySem.Calls.spliced_cons
def u2b:=@PySem.Code.quiet_builtin
def u2c:=@PySem.F.args_str_split_2
def u2d:=@PySem.F.args_tuple_mul_2
def u2s:=@PySem.F.entry_str_split
def u2t:=@PySem.F.entry_tuple_mul
def u1U:=@PySem.F.slot_int_rmul
def u0A:=@PySem.F.slot_tuple_iterator_next
def u04:=@PySem.F.slot_tuple_mul
def u08:=@PySem.Heap.SameBut.update
def u8:=@PySem.Heap.get?_push_of_some
def k9:=@PySem.Heap.get?_push_size
def i6:=@PySem.Heap.get?_update_other
def i2:=@PySem.Heap.get?_update_self
def j4:=@PySem.Heap.lt_size
def u0c:=@PySem.Heap.size_push
def u1h:=@Int.emod_lt_of_pos
def u1V:=@Int.emod_nonneg
def u0H:=@Int.toNat_natCast
def u1v:=@PyProof.Rows.KeyOrd.kle_of_klt
def u0v:=@PyProof.Rows.KeyOrd.kle_refl
def u1K:=@PyProof.Rows.KeyOrd.kle_trans
def u2W:=@List.Perm.refl
def u1R:=@List.all_cons
def m7:=@List.all_eq_true
def u1D:=@List.all_map
def u1S:=@List.any_cons
def u0X:=@List.append_assoc
def o5:=@List.append_nil
def u0Z:=@List.dropLast_concat
def i7:=@List.drop_eq_getElem_cons
def u0N:=@List.drop_length
def u1W:=@List.filterMap_cons
def u0U:=@List.find?_cons
def u0I:=@List.flatten_cons
def u2P:=@List.forIn_cons
def g8:=@List.getD_eq_getElem?_getD
def g0:=@List.getElem?_append_left
def g9:=@List.getElem?_append_right
def l4:=@List.getElem?_cons_succ
def o6:=@List.getElem?_eq_getElem
def j3:=@List.getElem?_eq_some_iff
def r8:=@List.getElem?_map
def u0d:=@List.getElem?_replicate
def u0a:=@List.getElem?_set
def u6:=@List.getElem?_set_ne
def j8:=@List.getElem?_set_self
def u1L:=@List.getElem_map
def u0O:=@List.getElem_mem
def u09:=@List.getElem_of_mem
def u2o:=@List.getLast?_eq_some_iff
def j7:=@List.length_append
def o4:=@List.length_cons
def u05:=@List.length_drop
def u0s:=@List.length_eq_zero_iff
def t4:=@List.length_map
def u1X:=@List.length_nil
def u0e:=@List.length_set
def u0q:=@List.length_take
def p4:=@List.map_append
def u1Y:=@List.map_congr_left
def o7:=@List.map_cons
def u0V:=@List.map_map
def i8:=@List.mem_append
def u00:=@List.mem_append_left
def o8:=@List.mem_append_right
def j9:=@List.mem_cons
def r9:=@List.mem_cons_of_mem
def g3:=@List.mem_cons_self
def u2Q:=@List.mem_filter
def u1i:=@List.mem_filterMap
def u0D:=@List.mem_map
def f8:=@List.mem_of_getElem?
def u02:=@List.mem_range
def t8:=@List.mem_singleton
def u0J:=@List.nodup_append
def u1Z:=@List.nodup_cons
def u1j:=@List.of_mem_zip
def u0n:=@List.pairwise_cons
def u0f:=@List.pairwise_singleton
def u0j:=@List.replicate_succ
def t7:=@List.size_toArray
def u1E:=@List.take_append_drop
def u06:=@List.take_length
def u1r:=@List.take_of_length_le
def u2f:=@List.zip_cons_cons
def u0M:=@Nat.add_le_add_left
def u2F:=@Nat.le_add_right
def u10:=@Nat.le_antisymm
def m4:=@Nat.le_of_lt
def i4:=@Nat.le_of_lt_succ
def u0B:=@Nat.le_of_not_lt
def t6:=@Nat.le_refl
def u01:=@Nat.le_sub_one_of_lt
def u1w:=@Nat.le_succ
def n0:=@Nat.le_trans
def u0t:=@Nat.lt_irrefl
def l9:=@Nat.lt_of_le_of_lt
def u2g:=@Nat.lt_of_le_of_ne
def q7:=@Nat.lt_of_lt_of_le
def u0K:=@Nat.lt_succ_of_lt
def u07:=@Nat.lt_succ_self
def u1k:=@Nat.min_eq_left
def u2G:=@Nat.min_eq_right
def u1F:=@Nat.ne_of_gt
def r0:=@Nat.ne_of_lt
def u1N:=@Nat.sub_le_sub_right
def u0C:=@Nat.succ_le_succ
def l0:=@Nat.zero_add
def p9:=@Nat.zero_le
def u2u:=@Nat.zero_lt_of_lt
def u0k:=@Ne.symm
def u1l:=@PySem.Obj.data_mapFields
def u4:=@Option.bind_eq_some_iff
def k6:=@Option.bind_some
def u2v:=@Option.isSome_iff_exists
def u1x:=@Option.isSome_map
def u9:=@Option.map_eq_some_iff
def g4:=@Option.some.inj
def u2A:=@PySem.Paired.length
def u11:=@PySem.PassesOwn.never
def u2B:=@Prod.ext
def u0w:=@PyProof.Rows.callWith_type1
def m9:=@PyProof.Rows.slot_tuple_getitem
def u03:=@PySem.F.args_dict_keyiterator_next_1
def u1c:=@PySem.F.args_tuple_add_2
def u1a:=@PySem.F.entry_dict_keyiterator_next
def u1m:=@PySem.F.entry_tuple_add
def u0i:=@PySem.F.excBase_ValueError
def p5:=@PySem.F.plainAttrs_list
def u0y:=@PySem.F.plainAttrs_str
def l7:=@PySem.F.slot_dict_keyiterator_next
def u0o:=@PySem.F.slot_list_append
def u1s:=@PySem.F.slot_tuple_add
def u0p:=@PySem.F.type_list_append
def u1n:=@PySem.W.callWith_K
def u0S:=@PySem.W.cellsFrom_some
def u2h:=@PySem.W.codeRec_of
def u0l:=@PySem.W.hideAll_get
def u1O:=@PySem.W.hideAll_none
def u2i:=@PySem.W.isNs_of_in
def l6:=@PySem.W.kia_one
def u1y:=@PySem.W.kitx_dict
def u12:=@PySem.W.looks_clsIn
def o9:=@PySem.W.mg_of
def u2j:=@PySem.W.of_hideAll
def u13:=@PySem.W.plainGet_of
def i9:=@PySem.mem_of_lookup
def u2k:=@PySem.SeqAt.EqAt.int_int
def u2l:=@PySem.SeqAt.EqAt.of_refs
def u1G:=@PySem.StrLaws.glued_eq_join
def g6:=@beq_eq_false_iff_ne
def u0g:=@beq_iff_eq
def u0P:=@beq_self_eq_true
def u0u:=@PySem.call_meets
def u1P:=@PySem.codeAny_call_builtin
def u1H:=@PySem.codeAny_call_function
def u1d:=@PySem.codeAny_mono
def u0z:=@congrArg
def q4:=@decide_eq_false
def p6:=@decide_eq_false_iff_not
def q5:=@decide_eq_true
def k7:=@decide_eq_true_eq
def u2m:=@if_false
def j5:=@if_neg
def t9:=@if_pos
def u2p:=@if_true
def k8:=@of_decide_eq_true
def u2n:=@PyProof.Rows.pairsOf_size
def u1z:=@PySem.plainObj_wpAny_Assign_Attribute
def u0G:=@PySem.sizeLine_eq
def u1t:=@PyProof.Rows.subscriptTail_builtinR
def u2U:=@PySem.typeIs_int
def u2w:=@PySem.typeIs_str
def u0E:=@PySem.wpAny_Call_Name_kw
def u1u:=@PySem.wpAny_Call_method_late
def u1o:=@PySem.wpAny_attempt
def u5:=@PySem.wpAny_bind
def u1A:=@PySem.wpAny_call
def i5:=@PySem.wpAny_callSpecial?_slot
def u0h:=@PySem.wpAny_call_entry
def u2x:=@PySem.wpAny_dictEntries
def u14:=@PySem.wpAny_execs_nil
def u1b:=@PySem.wpAny_field
def i0:=@PySem.wpAny_holding
def u0x:=@PySem.wpAny_loadPart'
def u0Y:=@PySem.wpAny_loadPart_at
def p0:=@PySem.wpAny_mono
def l8:=@PySem.wpAny_newObj_type
def u1p:=@PySem.wpAny_passesOwn
def t5:=@PySem.wpAny_pure
def u1B:=@PySem.wpAny_pyIter_enum
def u0T:=@PySem.wpAny_pyIter_tuple
def u2y:=@PySem.wpAny_rule
def u2r:=@PySem.wpAny_setField
def u1q:=@PySem.wpAny_standAt
def u0b:=@PySem.wpAny_truthy_bool
def u0r:=@PySem.wpAny_typeNameOfWhole_keyiter
def u0L:=@PySem.wpAny_typeNameOf_keyiter
def u1I:=@PySem.wpAny_typeOf
def l5:=@PyProof.Rows.wpS_bind
def u1J:=@PyProof.Rows.wpS_forRange
def u0m:=@PyProof.Rows.wpS_pure
noncomputable section
abbrev yT:=PySem.Value->PySem.Shared->Prop
abbrev xp:=List (PySem.Addr × PySem.Obj)
abbrev wc:=PySem.Str->Option PySem.Value
abbrev Vc:=List (PySem.Str × PySem.Addr)
abbrev Zu:=List (List Int)
abbrev wY:=Array PySem.Value
abbrev zy:=List Int
abbrev zx:=List PySem.Value
abbrev zD:=List PySem.Str
abbrev yX:=List PySem.Expr
abbrev wN:=List PySem.Stmt
abbrev xX:=List PySem.Addr
abbrev yM:=Option PySem.Addr
abbrev yx:=Option Int
abbrev zu:=PySem.W.Frag
abbrev ww:=PySem.FuncData
abbrev zO:=PySem.Program
abbrev zm:=PySem.Shared
abbrev zM:=PySem.Around
namespace L2
open PySem PySem.Spec PyProof.Rows
abbrev Key:=Sum Int Str
def zeq:Key->Value->Bool
 | .inl k,v=>Value.isInt k v
 | .inr x,v=>Value.isStrOf x v
def keyH (w:World):Key->Int
 | .inl k=>hashInt k
 | .inr x=>hashStr w x
def yN:∀ {k:Key} {v:Value},zeq k v=true->(∃ i t,k=Sum.inl i/\v=Value.int i t)\/(∃ x t,k=Sum.inr x/\v=Value.str x t)
 | .inl i,v,h=>by
  obtain⟨t,e⟩:=Value.isInt_shape (k:=i) (v:=v) h
  exact .inl ⟨i,t,rfl,e⟩
 | .inr x,v,h=>by
  obtain⟨t,e⟩:=Value.isStrOf_shape (x:=x) (v:=v) h
  exact .inr ⟨x,t,rfl,e⟩
def zgt (i:Int)(t:Tok):zeq (.inl i) (.int i t)=true:=by simp[zeq,Value.isInt]
def zgQ (x:Str)(t:Tok):zeq (.inr x) (.str x t)=true:=by simp[zeq,Value.isStrOf]
def znT (a b:Int):decide ((Sum.inl a:Key)=Sum.inl b)=(a == b):=by
 by_cases e:a=b
 .subst e;simp
 .have h:¬ (Sum.inl a:Key)=Sum.inl b:=λq=>e (Sum.inl.inj q)
  rw[q4 h]
  exact(g6.mpr e).symm
def zn5 (a b:Str):decide ((Sum.inr a:Key)=Sum.inr b)=decide (a=b):=by
 by_cases e:a=b
 .subst e;simp
 .have h:¬ (Sum.inr a:Key)=Sum.inr b:=λq=>e (Sum.inr.inj q)
  rw[q4 h,q4 e]
def znw (a:Int)(b:Str):decide ((Sum.inl a:Key)=Sum.inr b)=false:=q4 (λq=>nomatch q)
def zoo (a:Str)(b:Int):decide ((Sum.inr a:Key)=Sum.inl b)=false:=q4 (λq=>nomatch q)
def xZ (prog:zO)(w:World):PySem.KeyKind prog w Key where
 is:=zeq
 hash:=keyH w
 inj:=λv a b ha hb=>by
  rcases yN ha with ⟨i,t,rfl,rfl⟩ | ⟨x,t,rfl,rfl⟩
  .rcases yN hb with ⟨j,u,rfl,e⟩ | ⟨y,u,rfl,e⟩
   .injection e with e1 _;rw[e1]
   .exact nomatch e
  .rcases yN hb with ⟨j,u,rfl,e⟩ | ⟨y,u,rfl,e⟩
   .exact nomatch e
   .injection e with e1 _;rw[e1]
 byValue:=λk v h=>by
  rcases yN h with ⟨i,t,rfl,rfl⟩ | ⟨x,t,rfl,rfl⟩ <;> rfl
 pyHash:=λhv h=>by
  rcases yN hv with ⟨i,t,rfl,rfl⟩ | ⟨x,t,rfl,rfl⟩
  .exact wpAny_pyHash_int h
  .exact wpAny_pyHash_str h
 eqBool:=λhu hv h=>by
  rcases yN hu with ⟨i,t,rfl,rfl⟩ | ⟨x,t,rfl,rfl⟩
  .rcases yN hv with ⟨j,u,rfl,rfl⟩ | ⟨y,u,rfl,rfl⟩
   .rw[znT]at h;exact wpAny_eqBool_int h
   .rw[znw]at h;exact SeqAt.EqAt.int_str i t y u _ _ _ _ h
  .rcases yN hv with ⟨j,u,rfl,rfl⟩ | ⟨y,u,rfl,rfl⟩
   .rw[zoo]at h;exact SeqAt.EqAt.str_int x t j u _ _ _ _ h
   .rw[zn5]at h;exact wpAny_eqBool_str h
 «strs»:=λk x t v h=>by
  rcases yN h with ⟨i,u,rfl,e⟩ | ⟨y,u,rfl,e⟩
  .exact nomatch e
  .injection e with e1 _
   subst e1
   cases v <;> rfl
def zcB (a:zO)(w:World)(i:Int)(t:Tok):(xZ a w).is (.inl i) (.int i t)=true:=zgt i t
def zbT (a:zO)(w:World)(x:Str)(t:Tok):(xZ a w).is (.inr x) (.str x t)=true:=zgQ x t
inductive V where
 | non | bl (b:Bool) | int (i:Int) | str (x:Str) | byt (b:Array UInt8) | flt (b:UInt64) | ref (a:Addr) | ty (n:String)
 deriving DecidableEq
abbrev zad:=List (List Key × V)
abbrev zw:=List V
def yZ:V->Value->Prop
 | .non,u=>u=Value.none
 | .bl b,u=>u=Value.bool b
 | .int i,u=>∃ t,u=Value.int i t
 | .str x,u=>∃ t,u=Value.str x t
 | .byt b,u=>∃ t,u=Value.bytes b t
 | .flt b,u=>∃ t,u=Value.float b t
 | .ref a,u=>u=Value.ref a
 | .ty n,u=>u=Value.type n
abbrev yp:zw->zx->Prop:=Paired yZ
def yp.length {b:zw}{a:zx}(r:yp b a):b.length=a.length:=u2A r
def yp.get:∀ {b:zw} {a:zx} {i:Nat} {x:V},yp b a->b[i]?=some x->∃ u,a[i]?=some u/\yZ x u
 | _,_,_,_,.nil,e=>by simp at e
 | _,_,0,_,.cons r _,e=>by simp at e;subst e;exact⟨_,rfl,r⟩
 | _,_,i+1,x,.cons _ t,e=>by
  obtain⟨u,d,c⟩:=yp.get (i:=i) (x:=x) t (by simpa using e)
  exact⟨u,by simpa using d,c⟩
def yp.set (r:yZ x u):∀ {b:zw} {a:zx} (i:Nat),yp b a->yp (b.set i x) (a.set i u)
 | _,_,_,.nil=>.nil
 | _,_,0,.cons _ t=>.cons r t
 | _,_,i+1,.cons q t=>.cons q (yp.set r i t)
def yp.append:∀ {b a:zw} {c d:zx},yp b c->yp a d->yp (b++a) (c++d):=by
 intro b a c d h s
 induction h with
 | nil=>exact s
 | cons r t e=>exact .cons r e
def yp.take:∀ {b:zw} {a:zx} (n:Nat),yp b a->yp (b.take n) (a.take n)
 | _,_,0,_=>.nil
 | _,_,_+1,.nil=>.nil
 | _,_,n+1,.cons r t=>.cons r (yp.take n t)
def yp.drop:∀ {b:zw} {a:zx} (n:Nat),yp b a->yp (b.drop n) (a.drop n)
 | _,_,0,r=>r
 | _,_,_+1,.nil=>.nil
 | _,_,n+1,.cons _ t=>yp.drop n t
def zca:Option V->Option Value->Prop
 | some v,some u=>yZ v u
 | none,none=>True
 | _,_=>False
def KV {κ:Type}:List (κ × V)->List (κ × Value)->Prop:=Paired λ(p:κ × V) (q:κ × Value)=>p.1=q.1/\yZ p.2 q.2
def kV:Key->V
 | .inl i=>.int i
 | .inr x=>.str x
inductive HO where
 | lst (xs:zw)
 | tup (xs:zw)
 | dK (kvs:List (Key × V)) | dT (kvs:zad)
 | set (S:Int->Bool) (n:Nat)
 | ins (C dx:Addr) (fs:List (Str × V))
 | own (x:Addr)
 | xd (fs:List (Str × V))
 | met (f x:Addr)
 | rng (lo hi:Int)
 | frz (o:Obj) (u:HO)
 | tbl (ps:wY)
 | ext (φ:Heap->Prop)
abbrev Hp:=Addr->Option HO
def upd (H:Hp)(a:Addr)(o:HO):Hp:=λb=>if b=a then some o else H b
def zd:upd H a o a=some o:=by unfold upd;rw[t9 rfl]
def zf {H:Hp}(h:b≠a):upd H a o b=H b:=by unfold upd;rw[j5 h]
def zhU:upd (upd H a o) a u=upd H a u:=by
 funext b;unfold upd;split <;> rfl
def zjD {H:Hp}(h:H a=some o)(c:H b=some u)(d:o≠u):a≠b:=by
 intro e;subst e;rw[h]at c;exact d (g4 c)
def ze {H:Hp}(h:H a=some o)(c:H b=none):a≠b:=by
 intro e;subst e;rw[h]at c;cases c
section
variable (P:zO)(w:World)
def yK (H:Hp)(h:Heap)(a:Addr):HO->Prop
 | .lst d=>d.length<=sizeLine/\∃ (c:zx) (n:Nat),yp d c/\h.get? a=some { cls:=.type "list",data:=.seq c.toArray n }
 | .tup d=>d.length<=sizeLine/\∃ c:zx,yp d c/\IsTup h a c.toArray
 | .dK b=>b.length<=sizeLine/\(a == sysModules)=false/\∃ l,KV b l/\h.DictOf (xZ P w) a l
 | .dT b=>b.length<=sizeLine/\(a == sysModules)=false/\∃ d:List (List Key × Addr × Value),
  Paired (λ(p:List Key × V) (q:List Key × Addr × Value)=>p.1=q.1/\H q.2.1=some (.tup (p.1.map kV))/\yZ p.2 q.2.2) b d /\
  ∃ o k r,h.get? a=some o/\o.ExactDict/\o.data=.dict k r/\k.toList=d.map (entryOfKey (tupleKind (xZ P w)))/\(d.map (·.1)).Nodup
 | .set S n=>h.SetOf (intKind P w) a S n
 | .ins C i g=>H i=some (.own a)/\g.length<=1000/\i≠a/\h.get? a=some (W.instObj C i) /\
  ∃ e,h.Ns1 i e/\(∀ f,zca (g.lookup f) (e f))/\PySem.Within e (g.map (·.1))
 | .own _=>∃ o,h.get? a=some o
 | .xd g=>∃ e,h.Ns1 a e/\∀ f,zca (g.lookup f) (e f)
 | .rng s z=>∃ t u v,h.get? a=some { cls:=.type "range",data:=.fields #[.int s t,.int z u,.int 1 v] }
 | .frz o u=>h.get? a=some o/\yK H h a u
 | .tbl y=>h.get? a=some { cls:=.none,data:=.fields y }
 | .met f x=>h.get? a=some (W.methodObj (.ref f) (.ref x))
 | .ext φ=>φ h/\(∃ o,h.get? a=some o)/\∀ j m:Heap,φ j->(∀ o,j.get? a=some o->m.get? a=some o)->φ m
def HOk (H:Hp)(h:Heap):Prop:=∀ a o,H a=some o->yK P w H h a o
end
section
variable {P:zO}{w:World}{H H':Hp}{h h':Heap}{a:Addr}{o:HO}
def yK.lt (x:yK P w H h a o):a<h.objs.size:=by
 cases o with
 | lst d=>obtain⟨_,_,_,_,e⟩:=x;exact j4 e
 | tup d=>obtain⟨_,_,_,p⟩:=x;exact p.lt
 | dK b=>obtain⟨_,_,_,_,o,_,_,e,_⟩:=x;exact j4 e
 | dT b=>obtain⟨_,_,_,_,o,_,_,e,_⟩:=x;exact j4 e
 | set S n=>obtain⟨o,_,_,_,e,_⟩:=x;exact j4 e
 | ins C j c=>obtain⟨_,_,_,e,_⟩:=x;exact j4 e
 | own y=>obtain⟨_,e⟩:=x;exact j4 e
 | xd c=>obtain⟨_,⟨_,_,_,e,_⟩,_⟩:=x;exact j4 e
 | rng l i=>obtain⟨_,_,_,e⟩:=x;exact j4 e
 | frz k u=>obtain⟨e,_⟩:=x;exact j4 e
 | tbl g=>exact j4 (show h.get? a=some _ from x)
 | met f y=>exact j4 (show h.get? a=some _ from x)
 | ext φ=>obtain⟨_,⟨_,e⟩,_⟩:=x;exact j4 e
def Paired.mapP {α β:Type}{F G:α->β->Prop}:∀ {c:List α} {d:List β},Paired F c d->(∀ a b,F a b->G a b)->Paired G c d:=by
 intro i g h f
 induction h with
 | nil=>exact .nil
 | cons r t e=>exact .cons (f _ _ r) e
def yK.stay (x:yK P w H h a o)(k:∀ b u,(b=a\/H b=some (.own a))->h.get? b=some u->h'.get? b=some u)
 (I:∀ b,H b=some (.own a)->H' b=some (.own a)) (G:∀ b m,H b=some (.tup m)->H' b=some (.tup m)):yK P w H' h' a o:=by
 induction o with
 | lst m=>obtain⟨z,l,n,r,e⟩:=x;exact⟨z,l,n,r,k _ _ (.inl rfl) e⟩
 | tup m=>obtain⟨z,l,r,g,e,c⟩:=x;exact⟨z,l,r,g,k _ _ (.inl rfl) e,c⟩
 | dK A=>obtain⟨z,y,L,r,g,j,i,e,c⟩:=x;exact⟨z,y,L,r,g,j,i,k _ _ (.inl rfl) e,c⟩
 | dT A =>
  obtain⟨z,y,m,r,g,j,i,e,c⟩:=x
  exact⟨z,y,m,Paired.mapP r λp q z=>⟨z.1,G _ _ z.2.1,z.2.2⟩,g,j,i,k _ _ (.inl rfl) e,c⟩
 | set S n=>obtain⟨g,j,i,t,e,c⟩:=x;exact⟨g,j,i,t,k _ _ (.inl rfl) e,c⟩
 | ins C Q F =>
  obtain⟨d,z,K,e,B,⟨s,j,i,J,c⟩,r⟩:=x
  exact⟨I _ d,z,K,k _ _ (.inl rfl) e,B,⟨s,j,i,k _ _ (.inr d) J,c⟩,r⟩
 | own y=>obtain⟨g,e⟩:=x;exact⟨g,k _ _ (.inl rfl) e⟩
 | xd F=>obtain⟨B,⟨s,j,i,e,c⟩,r⟩:=x;exact⟨B,⟨s,j,i,k _ _ (.inl rfl) e,c⟩,r⟩
 | rng N O=>obtain⟨t,u,v,e⟩:=x;exact⟨t,u,v,k _ _ (.inl rfl) e⟩
 | frz g u M=>obtain⟨e,q⟩:=x;exact⟨k _ _ (.inl rfl) e,M q⟩
 | tbl E =>
  have e:h.get? a=some { cls:=.none,data:=.fields E }:=x
  show h'.get? a=some { cls:=.none,data:=.fields E }
  exact k a _ (.inl rfl) e
 | met f y =>
  have e:h.get? a=some (W.methodObj (.ref f) (.ref y)):=x
  show h'.get? a=some (W.methodObj (.ref f) (.ref y))
  exact k a _ (.inl rfl) e
 | ext φ=>obtain⟨p,⟨o,e⟩,D⟩:=x;exact⟨D _ _ p λo q=>k _ _ (.inl rfl) q,⟨o,k _ _ (.inl rfl) e⟩,D⟩
def HOk.lt (x:HOk P w H h)(e:H a=some o):a<h.objs.size:=(x a o e).lt
def HOk.fresh (x:HOk P w H h)(e:h.objs.size<=a):H a=none:=by
 cases q:H a with
 | none=>rfl
 | some u=>exact absurd (q7 (x.lt q) e) (u0t _)
def HOk.kept (x:HOk P w H h)(k:∀ b u,h.get? b=some u->h'.get? b=some u):HOk P w H h':=λa o e =>
 (x a o e).stay (λb u _ q=>k b u q) (λ_ q=>q) λ_ _ q=>q
def HOk.laid (x:HOk P w H h)(k:∀ b u,h.get? b=some u->h'.get? b=some u)(i:h.objs.size<=a)(d:yK P w (upd H a o) h' a o):HOk P w (upd H a o) h':=λb u e=>by
 have g:=x.fresh i
 by_cases f:b=a
 .subst f;rw[zd]at e;cases e;exact d
 .rw[zf f]at e
  exact(x b u e).stay (λc v _ q=>k c v q) (λc q=>by rw[zf (ze q g)];exact q) λc j q=>by rw[zf (ze q g)];exact q
end
def Rd (H:Hp)(a:Addr)(u:HO):Prop:=H a=some u\/∃ o,H a=some (.frz o u)
def Rd.ok {w:World}(r:Rd H a u)(x:HOk P w H h):yK P w H h a u:=by
 rcases r with r | ⟨o,r⟩
 .exact x a u r
 .obtain⟨_,q⟩:=x a _ r
  exact q
def Mut:Option HO->Prop
 | some (.lst _)=>True
 | some (.dK _)=>True
 | some (.dT _)=>True
 | some (.set _ _)=>True
 | some (.ins _ _ _)=>True
 | some (.ext _)=>True
 | _=>False
section
variable {P:zO}{w:World}{H:Hp}{h h':Heap}{x e:Addr}{o':HO}
def HOk.write (ok:HOk P w H h)(l:Mut (H x))(p:e=x\/H e=some (.own x))(k:∀ b u,b≠e->h.get? b=some u->h'.get? b=some u)(n:∃ u,h'.get? e=some u)
 (m:yK P w (upd H x o') h' x o'):HOk P w (upd H x o') h':=λb u q=>by
 have d:∀ c y,H c=some (.own y)->c≠x:=λc y r z=>by subst z;rw[r]at l;exact l
 have f:∀ c i,H c=some (.tup i)->c≠x:=λc i r z=>by subst z;rw[r]at l;exact l
 by_cases g:b=x
 .subst g;rw[zd]at q;cases q;exact m
 .rw[zf g]at q
  by_cases a:b=e
  .have o:H b=some (.own x):=by
    rcases p with z | z
    .exact absurd (a.trans z) g
    .rw[a];exact z
   rw[q]at o;cases o
   obtain⟨v,s⟩:=n
   exact⟨v,by rw[a];exact s⟩
  .refine(ok b u q).stay (λc v j r=>k c v ?_ r) (λc r=>by rw[zf (d c b r)];exact r) λc i r=>by rw[zf (f c i r)];exact r
   rcases j with rfl | j
   .exact a
   .rintro rfl
    rcases p with z | z
    .exact d c b j z
    .rw[j]at z;cases z;exact g rfl
end
structure Un (fs ex:xX) (H H':Hp) (h h':Heap):Prop where
 keep:∀ b o,h.get? b=some o->H b=none->b∉fs->b∉ex->h'.get? b=some o
 slot:∀ b o,h.get? b=some o->H b=none->b∈fs->b∉ex->∃ sl,h'.get? b=some { o with slots:=sl }
 free:∀ b o,h.get? b=some o->H b=none->b∉ex->H' b=none
 there:∀ b o,h.get? b=some o->b∉ex->∃ o',h'.get? b=some o'
 tups:∀ b xs,H b=some (.tup xs)->H' b=some (.tup xs)
 frzs:∀ b o u,H b=some (.frz o u)->H' b=some (.frz o u)
 tbls:∀ b ps,H b=some (.tbl ps)->∃ more,H' b=some (.tbl (ps++more))
section
variable {fs fs' ex ex':xX}{H H1 H2:Hp}{h h1 h2 h':Heap}{a x e:Addr}{o:HO}
def Un.any (u:Un fs ex H H1 h h1){a:Obj}(q:h.get? b=some a)(n:H b=none)(d:b∉ex):∃ e,h1.get? b=some { a with slots:=e }:=by
 by_cases c:b∈fs
 .exact u.slot b a q n c d
 .exact⟨a.slots,u.keep b a q n c d⟩
def Un.kept (k:∀ b u,h.get? b=some u->h'.get? b=some u):Un fs ex H H h h' :=
 ⟨λb a q _ _ _=>k b a q,λb a q _ _ _=>⟨a.slots,k b a q⟩,λ_ _ _ n _=>n,λb a q _=>⟨a,k b a q⟩,λ_ _ q=>q,λ_ _ _ q=>q,λ_ c q=>⟨#[],by rw[q];simp⟩⟩
def Un.refl:Un fs ex H H h h:=Un.kept λ_ _ q=>q
def Un.laid (k:∀ b u,h.get? b=some u->h'.get? b=some u)(hp:h.objs.size<=a)(hn:H a=none):Un fs ex H (upd H a o) h h' where
 keep:=λb u q _ _ _=>k b u q
 slot:=λb u q _ _ _=>⟨u.slots,k b u q⟩
 free:=λb u q n _=>by rw[zf (r0 (q7 (j4 q) hp))];exact n
 there:=λb u q _=>⟨u,k b u q⟩
 tups:=λb xs q=>by rw[zf (ze q hn)];exact q
 frzs:=λb u xs q=>by rw[zf (ze q hn)];exact q
 tbls:=λb ps q=>⟨#[],by rw[zf (ze q hn),q];simp⟩
def Un.write (c:Mut (H x))(l:e=x\/H e=some (.own x))(k:∀ b u,b≠e->h.get? b=some u->h'.get? b=some u)(d:∃ u,h'.get? e=some u):Un fs ex H (upd H x o) h h':=by
 have g:∀ b,H b=none->b≠x:=λb n z=>by subst z;rw[n]at c;exact c
 have i:∀ b,H b=none->b≠e:=λb n z=>by
  subst z
  rcases l with r | r
  .exact g b n r
  .rw[n]at r;cases r
 have f:∀ b u,H b=some u->¬ Mut (some u)->b≠x:=λb u q m z=>by subst z;rw[q]at c;exact m c
 refine⟨λb u q n _ _=>k b u (i b n) q,λb u q n _ _=>⟨u.slots,k b u (i b n) q⟩,λb u q n _=>by rw[zf (g b n)];exact n,λb u q _=>?_,
  λb j q=>by rw[zf (f b _ q λz=>z)];exact q,λb u j q=>by rw[zf (f b _ q λz=>z)];exact q,λb p q=>⟨#[],by rw[zf (f b _ q λz=>z),q];simp⟩⟩
 by_cases a:b=e
 .subst a;exact d
 .exact⟨u,k b u a q⟩
end
def trk (h:Heap)(H:Hp):xX:=(List.range h.objs.size).filter λa=>(H a).isSome
def zjc (h:Heap)(H:Hp):Heap:=W.hideAll h (trk h H)
def zfG (h:Heap)(H:Hp):(zjc h H).objs.size=h.objs.size:=W.hideAll_size _ _
def zjS {h:Heap}{H:Hp}(e:h.get? b=some o)(n:H b=none):(zjc h H).get? b=some o :=
 u0l _ e λa=>by
  have q:(H b).isSome=true:=(u2Q.mp a).2
  rw[n]at q;simp at q
def zlv {h:Heap}{H:Hp}(e:(zjc h H).get? b=some o):h.get? b=some o/\H b=none:=by
 have a:h.get? b=some o:=u2j (trk h H) e
 refine⟨a,?_⟩
 cases q:H b with
 | none=>rfl
 | some x =>
  have c:b∈trk h H:=u2Q.mpr ⟨u02.mpr (j4 a),by simp[q]⟩
  have z:(zjc h H).get? b=none:=u1O (trk h H) c
  rw[z]at e;cases e
def zl6 (g h:Heap)(L:Addr):xp:=(List.range h.objs.size).filterMap λa=>if a=L\/(g.get? a).isSome=true then none else (h.get? a).map λo=>(a,o)
def rest (g h:Heap)(L d:Addr):xp:=(zl6 g h L).filter λp=>decide (p.1≠d)
structure Mod (K:zu) (mg:wc) (base:Heap):Prop where
 kin:K.In base
 glob:base.Ns mainGlobals mg
 blt:∃ mb,base.Ns builtinsNs mb/\∀ x:Str,x≠"__name__"->mb x=bootBuiltins x
 nolimit:base.NoLimit
structure Cx where
 prog:Program
 w:World
 K:W.Frag
 mg:wc
 base:Heap
 A:Around
 N:zD
 s₀:Shared
 H₀:Hp
 env:Env
 outer:List Env
 stack:List Env
 ex:xX
 fn:Str->Bool
 calm:Bool
 pn:xp
 xe:yT
def frs (l:List Env):xX:=l.filterMap (·.frame)
abbrev Cx.fs (X:Cx):xX:=frs X.outer
def Vis (sc:Scope)(x:Str):Prop:=sc.names.lookup x=some .local\/sc.names.lookup x=some .cell\/sc.names.lookup x=some .free
def Loc (sc:Scope)(x:Str):Prop:=sc.names.lookup x=some .local\/sc.names.lookup x=some .cell
def Look (env:Env)(h:Heap)(m:wc)(x:Str)(u:Value):Prop :=
 (env.kindOf x=some .local/\m x=some u)\/((env.kindOf x=some .cell\/env.kindOf x=some .free)/\∃ c,env.cells.lookup x=some c/\h.IsCell c (some u))
structure Cx.Ok (X:Cx):Prop where
 mod:Mod X.K X.mg X.base
 kind:X.env.scope.kind=.function
 glob:X.env.globals=mainGlobals
 blt:X.env.builtins=builtinsNs
 above:X.s₀.heap.objs.size<=X.env.locals
 inj:∀ x y c,X.env.cells.lookup x=some c->X.env.cells.lookup y=some c->x=y
 has:∀ x,(X.env.kindOf x=some .cell\/X.env.kindOf x=some .free)->∃ c,X.env.cells.lookup x=some c
 cab:∀ x c,X.fn x=true->X.env.cells.lookup x=some c->X.s₀.heap.objs.size<=c
 hd:X.calm=true->X.A.handled=none
 frames:X.A.frames=some X.stack
 stk:X.stack=X.outer\/(X.stack=X.env::X.outer/\X.env.frame=some X.env.locals)
 exf:∀ b∈X.ex,b≠X.env.locals/\∀ x c,X.env.cells.lookup x=some c->c≠b
 bs:∀ b o,X.base.get? b=some o->X.s₀.heap.get? b=some o/\X.H₀ b=none
 bsz:X.base.objs.size<=X.s₀.heap.objs.size
 noex:∀ b o,X.base.get? b=some o->b∉X.ex
 exfs:∀ b∈X.ex,b∉X.fs
 funs:X.s₀.heap.FunFrames X.base X.outer
 frf:∀ b∈X.fs,X.H₀ b=none
structure Inv (X:Cx) (pins:xp) (σ:List (Option V)) (H:Hp) (s:zm):Prop where
 ok:X.Ok
 os:s.os=X.s₀.os
 bare:AllBare s.gens
 base:Un X.fs X.ex X.H₀ H X.s₀.heap s.heap
 loc:∃ m,s.heap.Ns X.env.locals m/\∀ (i:Nat) (x:Str) (v:V),X.N[i]?=some x->σ[i]?=some (some v)->Vis X.env.scope x->∃ u,yZ v u/\Look X.env s.heap m x u
 cell:∀ x c,X.env.cells.lookup x=some c->∃ v,s.heap.IsCell c v
 free:H X.env.locals=none
 freeC:∀ x c,X.env.cells.lookup x=some c->H c=none
 pin:∀ p∈X.pn++pins,s.heap.get? p.1=some p.2/\H p.1=none/\p.1≠X.env.locals/\p.1∉X.fs/\∀ v,p.2.data≠.cell v
 hok:HOk X.prog X.w H s.heap
 len:σ.length=X.N.length
section
variable {X:Cx}{pins:xp}{σ:List (Option V)}{H H':Hp}{s:zm}{h':Heap}
def Cx.Ok.nofr (ok:X.Ok)(e:X.base.get? b=some o):b∉X.fs:=λa=>by
 have:=(ok.funs.mem a).1
 rw[e]at this;cases this
def Inv.bs (I:Inv X pins σ H s):∀ b o,X.base.get? b=some o->s.heap.get? b=some o/\H b=none:=λb o e =>
 ⟨I.base.keep b o (I.ok.bs b o e).1 (I.ok.bs b o e).2 (I.ok.nofr e) (I.ok.noex b o e),I.base.free b o (I.ok.bs b o e).1 (I.ok.bs b o e).2 (I.ok.noex b o e)⟩
def Inv.bk (I:Inv X pins σ H s):∀ b o,X.base.get? b=some o->s.heap.get? b=some o:=λb o e=>(I.bs b o e).1
def Inv.mod (I:Inv X pins σ H s):Mod X.K X.mg X.base:=I.ok.mod
def Inv.kIn (I:Inv X pins σ H s):X.K.In s.heap:=I.ok.mod.kin.keeps I.bk
def Inv.lt (I:Inv X pins σ H s):X.env.locals<s.heap.objs.size:=let ⟨_,hn,_⟩:=I.loc;hn.lt
def Inv.sz (I:Inv X pins σ H s):X.s₀.heap.objs.size<=s.heap.objs.size:=n0 I.ok.above (m4 I.lt)
def Inv.nofs (I:Inv X pins σ H s)(h:s.heap.objs.size<=a):a∉X.fs:=λb=>by
 obtain⟨_,o,c,_⟩:=I.ok.funs.mem b
 exact absurd (q7 (j4 c) (n0 I.sz h)) (u0t _)
def Inv.cne (I:Inv X pins σ H s):∀ x c,X.env.cells.lookup x=some c->c≠X.env.locals:=λx c e z=>by
 obtain⟨v,o,d,f⟩:=I.cell x c e
 obtain⟨m,⟨g,i,h,b,a,_⟩,_⟩:=I.loc
 rw[z,b]at d;cases d;rw[a]at f;cases f
def Inv.funs (I:Inv X pins σ H s):s.heap.FunFrames X.base X.outer:=by
 have a:∀ (l:List Env),(∀ b∈frs l,b∈X.fs)->X.s₀.heap.FunFrames X.base l->s.heap.FunFrames X.base l:=by
  intro l
  induction l with
  | nil=>intro _ _;trivial
  | cons env r k =>
   intro g h
   obtain⟨n,⟨L,o,d,j,p,i⟩,m⟩:=h
   have f:L∈X.fs:=g L (by unfold frs;rw[u1W,d];exact g3)
   obtain⟨q,e⟩:=I.base.slot L o p (I.ok.frf L f) f λz=>I.ok.exfs L z f
   exact⟨n,⟨L,_,d,j,e,i⟩,k (λb c=>g b (by unfold frs;rw[u1W,d];exact r9 _ c)) m⟩
 exact a X.outer (λ_ c=>c) I.ok.funs
def Inv.stack (I:Inv X pins σ H s):s.heap.FunFrames X.base X.stack:=by
 rcases I.ok.stk with e | ⟨e,b⟩
 .rw[e];exact I.funs
 .rw[e]
  obtain⟨m,a,_⟩:=I.loc
  refine .cons (by rw[I.ok.kind];decide) b a ?_ I.funs
  exact Heap.get?_none_of_le (n0 I.ok.bsz I.ok.above)
def Inv.stkSub (I:Inv X pins σ H s):∀ b∈frs X.stack,b∈X.env.locals::X.fs:=λb a=>by
 rcases I.ok.stk with e | ⟨e,c⟩
 .rw[e]at a;exact r9 _ a
 .rw[e]at a
  unfold frs at a
  rw[u1W,c]at a
  exact a
def Inv.stkFree (I:Inv X pins σ H s):∀ b∈frs X.stack,H b=none:=λb a=>by
 rcases j9.mp (I.stkSub b a)with e | a
 .rw[e];exact I.free
 .obtain⟨_,o,c,_⟩:=I.ok.funs.mem a
  exact I.base.free b o c (I.ok.frf b a) λz=>I.ok.exfs b z a
def Inv.step {g':Array GenState}{t':Nat}{d':Drawn}{ch:xX}(I:Inv X pins σ H s)
 (j:∀ b∈ch,(b∈X.ex\/X.s₀.heap.objs.size<=b)/\b≠X.env.locals/\(∀ x c,X.env.cells.lookup x=some c->c≠b)/\∀ p∈X.pn++pins,p.1≠b)
 (keep:∀ b o,b≠X.env.locals->b∉X.fs->b∉ch->s.heap.get? b=some o->H b=none->h'.get? b=some o)
 (A:∀ b o,b≠X.env.locals->b∈X.fs->b∉ch->s.heap.get? b=some o->H b=none->∃ R,h'.get? b=some { o with slots:=R }) (f:∀ b o,b∉ch->s.heap.get? b=some o->H b=none->H' b=none)
 (C:∀ b o,b∉ch->s.heap.get? b=some o->∃ F,h'.get? b=some F)
 (M:∀ b y,H b=some (.tup y)->H' b=some (.tup y)) (G:∀ b o u,H b=some (.frz o u)->H' b=some (.frz o u)) (J:∀ b N,H b=some (.tbl N)->∃ E,H' b=some (.tbl (N++E)))
 (ns:∀ m,s.heap.Ns X.env.locals m->h'.Ns X.env.locals m) (P:HOk X.prog X.w H' h') (Z:AllBare g') :
 Inv X pins σ H' { s with heap:=h',gens:=g',drawn:=d',toks:=t' }:=by
 have L:∀ b o,X.s₀.heap.get? b=some o->b≠X.env.locals:=λb o e=>r0 (q7 (j4 e) I.ok.above)
 have t:∀ b o,X.s₀.heap.get? b=some o->b∉X.ex->b∉ch:=λb o e a B=>by
  rcases(j b B).1 with z | z
  .exact a z
  .exact absurd (q7 (j4 e) z) (u0t _)
 have h:∀ x c,X.env.cells.lookup x=some c->∀ v,s.heap.IsCell c v->h'.IsCell c v:=λx c e v ⟨o,D,O⟩=>by
  have g:c∉ch:=λz=>(j c z).2.2.1 x c e rfl
  by_cases V:c∈X.fs
  .obtain⟨R,q⟩:=A c o (I.cne x c e) V g D (I.freeC x c e)
   exact⟨_,q,O⟩
  .exact⟨o,keep c o (I.cne x c e) V g D (I.freeC x c e),O⟩
 refine⟨I.ok,I.os,Z,⟨λb o e n B a=>?_,λb o e n B a=>?_,λb o e n a=>?_,λb o e a=>?_,λb y e=>M b y (I.base.tups b y e),λb o y e=>G b o y (I.base.frzs b o y e),λb N e=>?_⟩,?_,λx c e=>?_,?_,λx c e=>?_,λp T=>?_,P,I.len⟩
 .exact keep b o (L b o e) B (t b o e a) (I.base.keep b o e n B a) (I.base.free b o e n a)
 .obtain⟨R,w⟩:=I.base.slot b o e n B a
  obtain⟨Q,K⟩:=A b _ (L b o e) B (t b o e a) w (I.base.free b o e n a)
  exact⟨Q,K⟩
 .obtain⟨F,w⟩:=I.base.there b o e a
  exact f b F (t b o e a) w (I.base.free b o e n a)
 .obtain⟨F,w⟩:=I.base.there b o e a
  exact C b F (t b o e a) w
 .obtain⟨W,w⟩:=I.base.tbls b N e
  obtain⟨m2,K⟩:=J b _ w
  exact⟨W++m2,by rw[K,Array.append_assoc]⟩
 .obtain⟨m,hn,hl⟩:=I.loc
  refine⟨m,ns m hn,λi x v w K Y=>?_⟩
  obtain⟨u,r,l⟩:=hl i x v w K Y
  refine⟨u,r,?_⟩
  rcases l with l | ⟨k,c,e,z⟩
  .exact .inl l
  .exact .inr ⟨k,c,e,h x c e _ z⟩
 .obtain⟨v,z⟩:=I.cell x c e
  exact⟨v,h x c e v z⟩
 .obtain⟨m,⟨o,_,_,D,_⟩,_⟩:=I.loc
  exact f _ o (λz=>(j _ z).2.1 rfl) D I.free
 .obtain⟨v,o,D,O⟩:=I.cell x c e
  exact f c o (λz=>(j c z).2.2.1 x c e rfl) D (I.freeC x c e)
 .obtain⟨e,n,S,U,d⟩:=I.pin p T
  have g:p.1∉ch:=λz=>(j p.1 z).2.2.2 p T rfl
  exact⟨keep p.1 p.2 S U g e n,f p.1 p.2 g e n,S,U,d⟩
def Inv.un {t':Nat}(I:Inv X pins σ H s)(u:Un X.fs [] H H' s.heap h')(g:HOk X.prog X.w H' h'):Inv X pins σ H' { s with heap:=h',toks:=t' }:=by
 obtain⟨m,⟨o,v,p,h,r⟩,_⟩:=id I.loc
 obtain⟨t,j⟩:=u.any h I.free (by simp)
 exact I.step (g':=s.gens) (d':=s.drawn) (ch:=[]) (λ_ z=>nomatch z) (λb o _ f _ e n=>u.keep b o e n f (by simp)) (λb o _ f _ e n=>u.slot b o e n f (by simp)) (λb o _ e n=>u.free b o e n (by simp)) (λb o _ e=>u.there b o e (by simp)) u.tups u.frzs u.tbls (λl k=>by
  obtain⟨q,c,d,a,i⟩:=k
  rw[h]at a;cases a
  exact⟨_,c,d,j,i⟩) g I.bare
def Inv.call {t':Nat}(I:Inv X pins σ H s)(u:Un (frs X.stack) ch H H' s.heap h')(g:HOk X.prog X.w H' h')(l:AllBare g')(f:∀ b∈ch,(b∈X.ex\/X.s₀.heap.objs.size<=b)/\b≠X.env.locals/\(∀ x c,X.env.cells.lookup x=some c->c≠b)/\∀ p∈X.pn++pins,p.1≠b) :
 Inv X pins σ H' { s with heap:=h',gens:=g',drawn:=d',toks:=t' }:=by
 obtain⟨m,⟨o,B,y,k,r⟩,_⟩:=id I.loc
 obtain⟨C,j⟩:=u.any k I.free λz=>(f _ z).2.1 rfl
 exact I.step (ch:=ch) f (λb o j t a e n=>u.keep b o e n (λz=>(j9.mp (I.stkSub b z)).elim j t) a) (λb o _ _ a e n=>u.any e n a) (λb o a e n=>u.free b o e n a) (λb o a e=>u.there b o e a) u.tups u.frzs u.tbls (λw v=>by
  obtain⟨A,h,i,d,q⟩:=v
  rw[k]at d;cases d
  exact⟨_,h,i,j,q⟩) g l
def Inv.turned {t':Nat}(I:Inv X pins σ H s)(k:∀ b o,b≠a->s.heap.get? b=some o->h'.get? b=some o)(h:H a=none)(g:a≠X.env.locals)(t:a∈X.ex\/X.s₀.heap.objs.size<=a)(A:∀ x c,X.env.cells.lookup x=some c->c≠a)(i:∀ p∈X.pn++pins,p.1≠a):Inv X pins σ H { s with heap:=h',toks:=t' }:=by
 have f:∀ b u,H b=some u->b≠a:=λb u e z=>by rw[z,h]at e;cases e
 refine I.step (g':=s.gens) (d':=s.drawn) (ch:=[a]) (λb y=>?_) (λb o _ _ d e _=>k b o (λz=>d (by simp[z])) e) (λb o _ _ d e _=>⟨o.slots,k b o (λz=>d (by simp[z])) e⟩) (λ_ _ _ _ n=>n)
  (λb o d e=>⟨o,k b o (λz=>d (by simp[z])) e⟩) (λ_ _ e=>e) (λ_ _ _ e=>e) (λb C e=>⟨#[],by rw[e];simp⟩) (λm B=>?_) (λb u e=>?_) I.bare
 .have e:b=a:=by simpa using y
  subst e
  exact⟨t,g,A,i⟩
 .obtain⟨o,w,j,l,r⟩:=B
  exact⟨o,w,j,k _ o (u0k g) l,r⟩
 .refine(I.hok b u e).stay (λc v d q=>k c v ?_ q) (λ_ q=>q) λ_ _ q=>q
  rcases d with z | z
  .rw[z];exact f b u e
  .exact f c _ z
def Inv.tok (I:Inv X pins σ H s)(t:Nat):Inv X pins σ H { s with toks:=t }:=I.un (h':=s.heap) (t':=t) Un.refl I.hok
def Inv.kept {t':Nat}(I:Inv X pins σ H s)(k:∀ b u,s.heap.get? b=some u->h'.get? b=some u):Inv X pins σ H { s with heap:=h',toks:=t' }:=I.un (Un.kept k) (I.hok.kept k)
def Inv.laid {t':Nat}(I:Inv X pins σ H s)(k:∀ b u,s.heap.get? b=some u->h'.get? b=some u)(c:s.heap.objs.size<=a)(d:yK X.prog X.w (upd H a o) h' a o) :
 Inv X pins σ (upd H a o) { s with heap:=h',toks:=t' }:=I.un (Un.laid k c (I.hok.fresh c)) (I.hok.laid k c d)
def Inv.write {t':Nat}(I:Inv X pins σ H s)(f:Mut (H x))(d:e=x\/H e=some (.own x))(k:∀ b u,b≠e->s.heap.get? b=some u->h'.get? b=some u)(a:∃ u,h'.get? e=some u)(c:yK X.prog X.w (upd H x o) h' x o):Inv X pins σ (upd H x o) { s with heap:=h',toks:=t' }:=I.un (Un.write f d k a) (I.hok.write f d k a c)
def Inv.weak {a:List (Option V)}(I:Inv X pins σ H s)(b:a.length=σ.length)(w:∀ (i:Nat) v,a[i]?=some (some v)->σ[i]?=some (some v)):Inv X pins a H s :=
 ⟨I.ok,I.os,I.bare,I.base,let ⟨m,hn,hl'⟩:=I.loc;⟨m,hn,λi x v c e d=>hl' i x v c (w i v e) d⟩,I.cell,I.free,I.freeC,I.pin,I.hok,b.trans I.len⟩
def Inv.pins_of (I:Inv X pins σ H s)(h:∀ p∈a,s.heap.get? p.1=some p.2/\H p.1=none/\p.1≠X.env.locals/\p.1∉X.fs/\∀ v,p.2.data≠.cell v):Inv X a σ H s :=
 ⟨I.ok,I.os,I.bare,I.base,I.loc,I.cell,I.free,I.freeC,λp b=>(i8.mp b).elim (λz=>I.pin p (u00 _ z)) (h p),I.hok,I.len⟩
def VX {N:zD}(d:N.Nodup){i j:Nat}(a:N[i]?=some x)(b:N[j]?=some x):i=j:=by
 obtain⟨g,e⟩:=j3.mp a
 obtain⟨f,c⟩:=j3.mp b
 exact(List.getElem_inj d).mp (e.trans c.symm)
def zgc {i:Nat}{Q:Unit->Shared->Prop}(I:Inv X pins σ H s)(hN:X.N.Nodup)(P:X.N[i]?=some x)(w:Loc X.env.scope x)(r:yZ v u)(h:∀ s',Inv X pins (σ.set i (some v)) H s'->(∃ a,Heap.SameBut a s.heap s'.heap/\(a=X.env.locals\/X.env.cells.lookup x=some a))->Q () s')(hf:X.fn x=true\/X.env.scope.names.lookup x=some .local:=by first | exact .inl rfl | exact .inr rfl | assumption):wpAny M A (storeName X.env x u) Q E s:=by
 obtain⟨m,hn,hl⟩:=id I.loc
 have S:(X.env.scope.kind == .class||(X.env.scope.kind == .module&&X.env.locals != X.env.globals))=false:=by rw[I.ok.kind];rfl
 have T:i<σ.length:=by rw[I.len];exact(j3.mp P).1
 have F:=I.cne
 have g:∀ {a:Addr} {h':Heap},(∃ o,s.heap.get? a=some o/\H a=none)->Heap.SameBut a s.heap h'->HOk X.prog X.w H h':=λ{a h'} ha f b ob e=>by
  obtain⟨_,_,B⟩:=ha
  refine(I.hok b ob e).stay (λc W t q=>(f.2 c ?_).trans q) (λ_ q=>q) λ_ _ q=>q
  rintro rfl
  rcases t with rfl | t
  .rw[B]at e;cases e
  .rw[B]at t;cases t
 rcases w with D | D
 .refine wpAny_storeName_local D hn (λh' a0 f=>?_) S
  obtain⟨oL,_,_,a1,_⟩:=id hn
  refine h _ ⟨I.ok,I.os,I.bare,⟨λb o e n K w=>?_,λb o e n K w=>?_,I.base.free,λb o e w=>?_,I.base.tups,I.base.frzs,I.base.tbls⟩,⟨_,a0,λj y v' l C e3=>?_⟩,λy c e=>?_,I.free,I.freeC,λp Z=>?_,g ⟨oL,a1,I.free⟩ f,by simpa using I.len⟩ ⟨_,f,.inl rfl⟩
  .exact(f.2 b (r0 (q7 (j4 e) I.ok.above))).trans (I.base.keep b o e n K w)
  .obtain⟨sl,l⟩:=I.base.slot b o e n K w
   exact⟨sl,(f.2 b (r0 (q7 (j4 e) I.ok.above))).trans l⟩
  .obtain⟨o',l⟩:=I.base.there b o e w
   exact⟨o',(f.2 b (r0 (q7 (j4 e) I.ok.above))).trans l⟩
  .by_cases J:j=i
   .subst J
    rw[P]at l;cases l
    rw[j8 T]at C
    cases C
    exact⟨u,r,.inl ⟨D,by simp⟩⟩
   .rw[u6 (u0k J)]at C
    obtain⟨u',r',q⟩:=hl j y v' l C e3
    refine⟨u',r',?_⟩
    rcases q with ⟨k,e⟩ | ⟨k,c,e,z⟩
    .refine .inl ⟨k,?_⟩
     have:y≠x:=λe=>J (VX hN l (e ▸ P))
     simp[this,e]
    .exact .inr ⟨k,c,e,z.sameBut f (F y c e)⟩
  .obtain⟨W,z⟩:=I.cell y c e
   exact⟨W,z.sameBut f (F y c e)⟩
  .obtain⟨e,n,U,nf,d⟩:=I.pin p Z
   exact⟨(f.2 p.1 U).trans e,n,U,nf,d⟩
 .have G:X.fn x=true:=by
   rcases hf with z | z
   .exact z
   .rw[z]at D;cases D
  obtain⟨c,t⟩:=I.ok.has x (.inl D)
  obtain⟨W,z⟩:=I.cell x c t
  refine wpAny_storeName_cell I.ok.kind D t z (λh' L f=>?_)
  obtain⟨oc,N,R⟩:=id z
  refine h { s with heap:=h' } ⟨I.ok,I.os,I.bare,⟨λb o e n K w=>?_,λb o e n K w=>?_,I.base.free,λb o e w=>?_,I.base.tups,I.base.frzs,I.base.tbls⟩,⟨m,hn.sameBut f (u0k (F x c t)),λj y v' l C e3=>?_⟩,λy Y e=>?_,I.free,I.freeC,λp Z=>?_,g ⟨oc,N,I.freeC x c t⟩ f,by simpa using I.len⟩ ⟨c,f,.inr t⟩
  .exact(f.2 b (r0 (q7 (j4 e) (I.ok.cab x c G t)))).trans (I.base.keep b o e n K w)
  .obtain⟨sl,l⟩:=I.base.slot b o e n K w
   exact⟨sl,(f.2 b (r0 (q7 (j4 e) (I.ok.cab x c G t)))).trans l⟩
  .obtain⟨o',l⟩:=I.base.there b o e w
   exact⟨o',(f.2 b (r0 (q7 (j4 e) (I.ok.cab x c G t)))).trans l⟩
  .by_cases J:j=i
   .subst J
    rw[P]at l;cases l
    rw[j8 T]at C
    cases C
    exact⟨u,r,.inr ⟨.inl D,c,t,L⟩⟩
   .rw[u6 (u0k J)]at C
    obtain⟨u',r',q⟩:=hl j y v' l C e3
    refine⟨u',r',?_⟩
    rcases q with q | ⟨k,Y,e,z'⟩
    .exact .inl q
    .refine .inr ⟨k,Y,e,z'.sameBut f ?_⟩
     rintro rfl
     exact J (VX hN l (I.ok.inj _ _ _ e t ▸ P))
  .by_cases O:Y=c
   .subst O;exact⟨_,L⟩
   .obtain⟨w2,z2⟩:=I.cell y Y e
    exact⟨w2,z2.sameBut f O⟩
  .obtain⟨e,n,U,nf,d⟩:=I.pin p Z
   refine⟨(f.2 p.1 ?_).trans e,n,U,nf,d⟩
   intro q
   rw[q,N]at e
   have q':oc=p.2:=g4 e
   exact d W (by rw[<-q'];exact R)
def zai {i:Nat}{Q:Unit->Shared->Prop}(I:Inv X pins σ H s)(d:X.N.Nodup)(b:X.N[i]?=some x)(c:Loc X.env.scope x)(r:yZ v u)(h:∀ a,Inv X pins (σ.set i (some v)) H a->Q () a)(e:X.fn x=true\/X.env.scope.names.lookup x=some .local:=by first | exact .inl rfl | exact .inr rfl | assumption):wpAny M A (storeName X.env x u) Q E s :=
 zgc I d b c r (λa I' _=>h a I') e
def Inv.call' {s':zm}(I:Inv X pins σ H s)(j:s'.os=s.os)(u:Un (frs X.stack) ch H H' s.heap s'.heap)(a:HOk X.prog X.w H' s'.heap)(k:AllBare s'.gens)(d:∀ b∈ch,(b∈X.ex\/X.s₀.heap.objs.size<=b)/\b≠X.env.locals/\(∀ x c,X.env.cells.lookup x=some c->c≠b)/\∀ p∈X.pn++pins,p.1≠b):Inv X pins σ H' s':=by
 obtain⟨h',f,h,g,i⟩:=s'
 have e:i=s.os:=j
 subst e
 exact I.call (g':=f) (t':=g) (d':=h) u a k d
end
abbrev XK:=Value->yM->Hp->Prop
abbrev St:=List (Option V)
abbrev vV:=St->Hp->Prop
abbrev VK:=V->Hp->Prop
abbrev zd8:=List V->Hp->VK->Prop
abbrev TE:=St->Hp->VK->Prop
abbrev TT:=St->Hp->(Bool->Hp->Prop)->Prop
abbrev TA:=St->Hp->(zw->Hp->Prop)->Prop
structure Z7 where
 nx:vV
 rt:VK
 bk:vV:=λ_ _=>False
 ct:vV:=λ_ _=>False
abbrev TS:=Z7->St->Hp->Prop
def EP (X:Cx)(a:xp)(σ:St)(Q:VK)(u:Value)(b:zm):Prop:=∃ v H',Inv X a σ H' b/\yZ v u/\Q v H'
def TP (X:Cx)(a:xp)(σ:St)(Q:Bool->Hp->Prop)(b:Bool)(c:zm):Prop:=∃ H',Inv X a σ H' c/\Q b H'
def AP (X:Cx)(a:xp)(σ:St)(Q:zw->Hp->Prop)(c:zx)(d:zm):Prop:=∃ b H',Inv X a σ H' d/\yp b c/\Q b H'
def SP (X:Cx)(a:xp)(D:Z7)(f:Flow)(c:zm):Prop :=
 match f with
 | .next=>∃ b H',Inv X a b H' c/\D.nx b H'
 | .brk=>∃ b H',Inv X a b H' c/\D.bk b H'
 | .cont=>∃ b H',Inv X a b H' c/\D.ct b H'
 | .ret u=>∃ v b H',Inv X a b H' c/\yZ v u/\D.rt v H'
def PE (X:Cx)(e:Expr)(t:TE):Prop :=
 ∀ (a:xp) (s:zm) (σ:St) (H:Hp) (Q:VK),Inv X a σ H s->t σ H Q->wpAny (model X.prog X.w) X.A (eval e X.env) (EP X a σ Q) X.xe s
def PT (X:Cx)(e:Expr)(t:TT):Prop :=
 ∀ (a:xp) (s:zm) (σ:St) (H:Hp) (Q:Bool->Hp->Prop),Inv X a σ H s->t σ H Q->wpAny (model X.prog X.w) X.A (isTrue e X.env (eval e X.env)) (TP X a σ Q) X.xe s
def PW (X:Cx)(e:Expr)(t:TT):Prop :=
 ∀ (b:Sem Value) (a:xp) (s:zm) (σ:St) (H:Hp) (Q:Bool->Hp->Prop),Inv X a σ H s->t σ H Q->wpAny (model X.prog X.w) X.A (isTrue e X.env b) (TP X a σ Q) X.xe s
def PW.pt {t:TT}(h:PW X e t):PT X e t:=h _
def PA (X:Cx)(c:yX)(t:TA):Prop :=
 ∀ (b:Pos) (a:xp) (s:zm) (σ:St) (H:Hp) (Q:zw->Hp->Prop),Inv X a σ H s->t σ H Q->wpAny (model X.prog X.w) X.A (spliced (backTo b (starEach c X.env))) (AP X a σ Q) X.xe s
def PS (X:Cx)(b:Stmt)(t:TS):Prop :=
 ∀ (a:xp) (s:zm) (σ:St) (H:Hp) (D:Z7),Inv X a σ H s->t D σ H->wpAny (model X.prog X.w) X.A (exec b X.env) (SP X a D) X.xe s
def PSs (X:Cx)(b:wN)(t:TS):Prop :=
 ∀ (a:xp) (s:zm) (σ:St) (H:Hp) (D:Z7),Inv X a σ H s->t D σ H->wpAny (model X.prog X.w) X.A (execs b X.env) (SP X a D) X.xe s
def thn {α:Type}{t:Sem α}{Q Q':α->Shared->Prop}(h:wpAny M A t Q E s)(b:∀ a s,Q a s->Q' a s):wpAny M A t Q' E s:=p0 h b λ_ _ x=>x
section
variable {X:Cx}
def xz (i:Nat):TE:=fun σ H Q=>∃ v,σ[i]?=some (some v)/\Q v H
def tC (v:V):TE:=λ_ H Q=>Q v H
def zpn {i:Nat} (p:X.N[i]?=some x) (q:Vis X.env.scope x) (f:(x == ("__debug__":Str))=false:=by decide) (g:(x == ("__classdict__":Str))=false:=by decide):PE X (.Name x j) (xz i):=by
 intro d s σ H Q I h
 obtain⟨v,e,h⟩:=h
 obtain⟨m,o,n⟩:=I.loc
 obtain⟨u,r,l⟩:=n i x v p e q
 have fin:EP X d σ Q u s:=⟨v,H,I,r,h⟩
 rcases l with ⟨b,t⟩ | ⟨b,c,k,a⟩
 .exact wpAny_Name (wpAny_loadName_local I.ok.kind b o t fin) f
 .rcases b with b | b
  .exact wpAny_Name (wpAny_loadName_cell I.ok.kind b k a fin) f
  .exact wpAny_Name (wpAny_loadName_free I.ok.kind b k a fin g) f
def zr {i j pos}:PE X (.Constant (.int i) j pos) (tC (.int i)):=λ_ _ _ H _ I h=>wpAny_Constant_int ⟨.int i,H,I.tok _,⟨_,rfl⟩,h⟩
def zjl {b j pos}:PE X (.Constant (.bool b) j pos) (tC (.bl b)):=λ_ _ _ H _ I h=>Constant_bool ⟨.bl b,H,I,rfl,h⟩
def Vm {j pos}:PE X (.Constant .none j pos) (tC .non):=λ_ _ _ H _ I h=>Constant_none ⟨.non,H,I,rfl,h⟩
def zK {x j pos}:PE X (.Constant (.str x) j pos) (tC (.str x)):=λ_ _ _ H _ I h=>Calls.Constant_str ⟨.str x,H,I.tok _,⟨_,rfl⟩,h⟩
def Gl (X:Cx)(x:Str):Prop:=X.env.kindOf x=some .globalImplicit
def vF {Q:yT} (I:Inv X a σ H s) (c:Gl X x) (e:X.mg x=some u) (h:Q u s) (d:(x == ("__debug__":Str))=false:=by decide):wpAny (model X.prog X.w) X.A (eval (.Name x b) X.env) Q E s :=
 Calls.Name_function_global I.ok.kind c (Calls.loadGlobal_global (by rw[I.ok.glob];exact I.mod.glob.keeps I.bk) e h) d
def Vv {Q:yT} (I:Inv X a σ H s) (c:Gl X x) (j:X.mg x=none) (i:bootBuiltins x=some u) (h:Q u s) (e:x≠"__name__":=by decide) (d:(x == ("__debug__":Str))=false:=by decide):wpAny (model X.prog X.w) X.A (eval (.Name x b) X.env) Q E s:=by
 obtain⟨k,g,f⟩:=I.mod.blt
 exact Calls.Name_function_global I.ok.kind c (Calls.loadGlobal_builtin (by rw[I.ok.glob];exact I.mod.glob.keeps I.bk) j (by rw[I.ok.blt];exact g.keeps I.bk) ((f x e).trans i) h) d
def yU (b:Gl X x) (d:X.mg x=some u) (r:yZ v u) (c:(x == ("__debug__":Str))=false:=by decide):PE X (.Name x a) (tC v) :=
 λ_ _ _ H _ I h=>vF I b d ⟨v,H,I,r,h⟩ c
def vY (b:Gl X x) (f:X.mg x=none) (c:bootBuiltins x=some u) (r:yZ v u) (e:x≠"__name__":=by decide) (d:(x == ("__debug__":Str))=false:=by decide):PE X (.Name x a) (tC v) :=
 λ_ _ _ H _ I h=>Vv I b f c ⟨v,H,I,r,h⟩ e d
variable {a b:Expr}{ta tb:TE}{pos:Pos}
def tB (t:TE):TT:=fun σ H Q=>t σ H λx H1=>∃ c,x=.bl c/\Q c H1
def zko {e:Expr}{t:TE}(h:PE X e t)(c:∀ a,isTrue e X.env a=(do let v<-a;standAt e.pos;holding [v] (truthy v)):=by intro _;rfl):PT X e (tB t):=by
 intro b s σ H Q I hw
 refine isTrue_plain (thn (h b s σ H _ I hw) λv i hh9=>?_) (c _)
 obtain⟨x,H1,I1,f,g⟩:=hh9
 obtain⟨d,rfl,q⟩:=g
 cases f
 exact u0b ⟨H1,I1,q⟩
variable {tA tB':TT}{rest:yX}
def tAnd (t u:TT):TT:=fun σ H Q=>t σ H λc H1=>if c=true then u σ H1 Q else Q false H1
def tOr (t u:TT):TT:=fun σ H Q=>t σ H λc H1=>if c=true then Q true H1 else u σ H1 Q
def tNot (t:TT):TT:=fun σ H Q=>t σ H λc H1=>Q (!c) H1
def zm6 (d:PT X a tA):PW X (.BoolOp .And [a] pos) tA:=by
 intro g b s σ H Q I h
 refine isTrue_and (thn (d b s σ H Q I h) λc f e=>?_)
 cases c with
 | true=>exact isTrue_and_nil e
 | false=>exact e
def zkZ (d:PT X a tA):PW X (.BoolOp .Or [a] pos) tA:=by
 intro g b s σ H Q I h
 refine isTrue_or (thn (d b s σ H Q I h) λc f e=>?_)
 cases c with
 | false=>exact isTrue_or_nil e
 | true=>exact e
def zow (j:PT X a tA)(f:PW X (.BoolOp .And (b::rest) pos) tB'):PW X (.BoolOp .And (a::b::rest) pos) (tAnd tA tB'):=by
 intro i d s σ H Q I h
 refine isTrue_and (thn (j d s σ H _ I h) λc g hh9=>?_)
 obtain⟨H1,I1,e⟩:=hh9
 cases c with
 | true=>exact f i d g σ H1 Q I1 e
 | false=>exact⟨H1,I1,e⟩
def zoc (j:PT X a tA)(f:PW X (.BoolOp .Or (b::rest) pos) tB'):PW X (.BoolOp .Or (a::b::rest) pos) (tOr tA tB'):=by
 intro i d s σ H Q I h
 refine isTrue_or (thn (j d s σ H _ I h) λc g hh9=>?_)
 obtain⟨H1,I1,e⟩:=hh9
 cases c with
 | true=>exact⟨H1,I1,e⟩
 | false=>exact f i d g σ H1 Q I1 e
def zkU (d:PT X a tA):PT X (.UnaryOp .Not a pos) (tNot tA):=by
 intro b s σ H Q I h
 exact isTrue_not (d b s σ H (λc H1=>Q (!c) H1) I h)
def zp1 (ta tb:TE):TE:=fun σ H Q=>ta σ H λx H1=>∃ c,x=.bl c/\if c=true then tb σ H1 Q else Q (.bl false) H1
def zqj (ta:TE):TE:=fun σ H Q=>ta σ H λx H1=>∃ c,x=.bl c/\Q (.bl (!c)) H1
def zpd {op}{t:TE}(h:PE X a t):PE X (.BoolOp op [a] pos) t:=λb s σ H Q I hw=>BoolOp_one (h b s σ H Q I hw)
def zo8 (g:PE X a ta)(f:PE X (.BoolOp .And (b::rest) pos) tb):PE X (.BoolOp .And (a::b::rest) pos) (zp1 ta tb):=by
 intro d s σ H Q I h
 refine BoolOp_and (thn (g d s σ H _ I h) λv i hh9=>?_)
 obtain⟨x,H1,I1,j,e⟩:=hh9
 obtain⟨c,rfl,e⟩:=e
 cases j
 refine u0b ?_
 cases c with
 | true=>exact f d i σ H1 Q I1 e
 | false=>exact⟨.bl false,H1,I1,rfl,e⟩
def znO (e:PE X a ta):PE X (.UnaryOp .Not a pos) (zqj ta):=by
 intro b s σ H Q I h
 refine UnaryOp_ (thn (e b s σ H _ I h) λv g hh9=>?_)
 obtain⟨x,H1,I1,f,d⟩:=hh9
 obtain⟨c,rfl,d⟩:=d
 cases f
 exact not_of (u0b ⟨.bl (!c),H1,I1,rfl,d⟩)
def tIf (t:TT)(ta tb:TE):TE:=fun σ H Q=>t σ H λc H1=>if c=true then ta σ H1 Q else tb σ H1 Q
def ziS (i:PT X c tA)(k:PE X a ta)(j:PE X b tb):PE X (.IfExp c a b pos) (tIf tA ta tb):=by
 intro e s σ H Q I h
 refine wpAny_IfExp (thn (i e s σ H _ I h) λd f hh9=>?_)
 obtain⟨H1,I1,g⟩:=hh9
 cases d with
 | true=>exact k e f σ H1 Q I1 g
 | false=>exact j e f σ H1 Q I1 g
end
def SqL (K:zu)(H:Hp)(a:Addr)(c:zw):Prop :=
 Rd H a (.lst c) \/
  ∃ (o:Obj) (b:wY) (n:Nat),K.lookup a=some o/\o.cls=.type "list"/\o.dict=none/\o.data=.seq b n/\b.size<=sizeLine/\yp c b.toList
def SqT (K:zu)(H:Hp)(a:Addr)(c:zw):Prop :=
 Rd H a (.tup c) \/
  ∃ (o:Obj) (b:wY) (n:Nat),K.lookup a=some o/\o.cls=.type "tuple"/\o.data=.seq b n/\b.size<=sizeLine/\yp c b.toList
def absV:Value->Option V
 | .none=>some .non
 | .bool b=>some (.bl b)
 | .int i _=>some (.int i)
 | .str x _=>some (.str x)
 | .bytes b _=>some (.byt b)
 | .float b _=>some (.flt b)
 | .ref a=>some (.ref a)
 | .type n=>some (.ty n)
 | _=>none
def yZ.abs (r:yZ x u):absV u=some x:=by
 cases x with
 | non=>cases r;rfl
 | bl _=>cases r;rfl
 | int _=>obtain⟨t,rfl⟩:=r;rfl
 | str _=>obtain⟨t,rfl⟩:=r;rfl
 | byt _=>obtain⟨t,rfl⟩:=r;rfl
 | flt _=>obtain⟨t,rfl⟩:=r;rfl
 | ref _=>cases r;rfl
 | ty _=>cases r;rfl
def yZ.inj (r:yZ x u)(q:yZ y u):x=y:=g4 (r.abs.symm.trans q.abs)
def yp.inj:∀ {c a:zw} {d:zx},yp c d->yp a d->c=a:=by
 intro c a d h
 induction h generalizing a with
 | nil=>intro b;cases b;rfl
 | cons r t f=>intro b;cases b with | cons g e=>rw[r.inj g,f e]
section
variable {X:Cx}{pins:xp}{σ:St}{H:Hp}{s:zm}{a:Addr}{xs ys:zw}
def SqL.of {K:zu}(h:H a=some (.lst xs)):SqL K H a xs:=.inl (.inl h)
def SqT.of {K:zu}(h:H a=some (.tup xs)):SqT K H a xs:=.inl (.inl h)
def Inv.list (I:Inv X pins σ H s)(h:SqL X.K H a xs):∃ b:zx,yp xs b/\PlainL s.heap a b.toArray/\xs.length<=sizeLine:=by
 rcases h with h | ⟨o,b,n,d,f,g,c,i,r⟩
 .obtain⟨z,b,n,r,e⟩:=h.ok I.hok
  exact⟨b,r,⟨_,n,e,rfl,rfl,rfl⟩,z⟩
 .refine⟨b.toList,r,⟨o,n,I.kIn a o d,f,g,by simpa using c⟩,?_⟩
  have e:=r.length
  simp only[i1]at e
  omega
def Inv.tuple (I:Inv X pins σ H s)(h:SqT X.K H a xs):∃ b:zx,yp xs b/\IsTup s.heap a b.toArray/\xs.length<=sizeLine:=by
 rcases h with h | ⟨o,b,n,d,f,c,g,r⟩
 .obtain⟨z,b,r,p⟩:=h.ok I.hok
  exact⟨b,r,p,z⟩
 .refine⟨b.toList,r,⟨o,I.kIn a o d,f,n,by simpa using c⟩,?_⟩
  have e:=r.length
  simp only[i1]at e
  omega
def Inv.list_inj (I:Inv X pins σ H s)(h:SqL X.K H a xs)(i:SqL X.K H a ys):xs=ys:=by
 obtain⟨c,r,⟨o,n,e,_,_,d⟩,_⟩:=I.list h
 obtain⟨b,j,⟨k,l,f,_,_,g⟩,_⟩:=I.list i
 rw[e]at f;cases f
 rw[d]at g
 injection g with d1 _
 have:c=b:=by simpa using u0z Array.toList d1
 subst this
 exact r.inj j
def Inv.tuple_inj (I:Inv X pins σ H s)(h:SqT X.K H a xs)(i:SqT X.K H a ys):xs=ys:=by
 obtain⟨c,r,⟨o,e,_,n,d⟩,_⟩:=I.tuple h
 obtain⟨b,j,⟨k,f,_,l,g⟩,_⟩:=I.tuple i
 rw[e]at f;cases f
 rw[d]at g
 injection g with d1 _
 have:c=b:=by simpa using u0z Array.toList d1
 subst this
 exact r.inj j
end
abbrev Cx.wish (X:Cx)(E:yT):Cx:={ X with xe:=E }
abbrev Cx.nox (X:Cx):Cx:=X.wish λ_ _=>False
def Cx.Ok.wish {X:Cx}(ok:X.Ok)(E:yT):(X.wish E).Ok :=
 ⟨ok.mod,ok.kind,ok.glob,ok.blt,ok.above,ok.inj,ok.has,ok.cab,ok.hd,ok.frames,ok.stk,ok.exf,ok.bs,ok.bsz,ok.noex,ok.exfs,ok.funs,ok.frf⟩
def Cx.Ok.unwish {X:Cx}(ok:(X.wish E).Ok):X.Ok :=
 ⟨ok.mod,ok.kind,ok.glob,ok.blt,ok.above,ok.inj,ok.has,ok.cab,ok.hd,ok.frames,ok.stk,ok.exf,ok.bs,ok.bsz,ok.noex,ok.exfs,ok.funs,ok.frf⟩
section
variable {X:Cx}{pins:xp}{σ:St}{H:Hp}{s:zm}{E:yT}
def Inv.wish (I:Inv X pins σ H s)(E:yT):Inv (X.wish E) pins σ H s:=⟨I.ok.wish E,I.os,I.bare,I.base,I.loc,I.cell,I.free,I.freeC,I.pin,I.hok,I.len⟩
def Inv.unwish (I:Inv (X.wish E) pins σ H s):Inv X pins σ H s:=⟨I.ok.unwish,I.os,I.bare,I.base,I.loc,I.cell,I.free,I.freeC,I.pin,I.hok,I.len⟩
def SP.unwish {D:Z7}{f:Flow}(h:SP (X.wish E) pins D f b):SP X pins D f b:=by
 cases f with
 | next=>obtain⟨a,H',I,q⟩:=h;exact⟨a,H',I.unwish,q⟩
 | brk=>obtain⟨a,H',I,q⟩:=h;exact⟨a,H',I.unwish,q⟩
 | cont=>obtain⟨a,H',I,q⟩:=h;exact⟨a,H',I.unwish,q⟩
 | ret u=>obtain⟨v,a,H',I,r,q⟩:=h;exact⟨v,a,H',I.unwish,r,q⟩
def PSs.nox {t:TS}(h:PSs X.nox a t):PSs X a t:=λpins s σ H D I hw =>
 p0 (h pins s σ H D (I.wish _) hw) (λ_ _ q=>q.unwish) λ_ _ z=>False.elim z
end
section
variable {X:Cx}{st:Stmt}{rest:wN}{t u:TS}{e:Expr}{te:TE}{pos:Pos}
def zo0:TS:=λD σ H=>D.nx σ H
def Vi (t u:TS):TS:=λD σ H=>t { D with nx:=u D } σ H
def zbV:PSs X [] zo0:=λ_ _ σ H _ I h=>u14 ⟨σ,H,I,h⟩
def zZ (c:PS X st t)(b:PSs X rest u):PSs X (st::rest) (Vi t u):=by
 intro a s σ H D I h
 refine wpAny_execs_cons (thn (c a s σ H { D with nx:=u D } I h) λf d q=>?_)
 cases f with
 | next =>
  obtain⟨e,H',I',q⟩:=q
  exact b a d e H' D I' q
 | ret v=>exact q
 | brk=>exact q
 | cont=>exact q
def xL (b:PS X st t):PSs X [st] t:=by
 intro a s σ H D I h
 refine wpAny_execs_cons (thn (b a s σ H D I h) λf c q=>?_)
 cases f with
 | next=>exact u14 q
 | ret v=>exact q
 | brk=>exact q
 | cont=>exact q
def Inv.quiet (I:Inv X a σ H s):interactive X.env=false:=by simp[interactive,I.ok.kind]
def zcg (te:TE):TS:=λD σ H=>te σ H λ_ H1=>D.nx σ H1
def vZ (c:PE X e te)(b:swapsWith e none pos.line X.env=pure false:=by rfl):PS X (.Expr e pos) (zcg te):=by
 intro a s σ H D I h
 exact wpAny_Expr_any (thn (c a s σ H _ I h) λv f ⟨x,H1,I1,g,d⟩=>⟨σ,H1,I1,d⟩) I.quiet b
def zpS (te:TE):TS:=λD σ H=>te σ H D.rt
def Yz (b:PE X e te):PS X (.Return (some e) pos) (zpS te):=by
 intro a s σ H D I h
 exact wpAny_Return_some (thn (b a s σ H _ I h) λv f ⟨x,H1,I1,c,d⟩=>⟨x,σ,H1,I1,c,d⟩)
def tIfS (c:TT)(t u:TS):TS:=λD σ H=>c σ H λb H1=>if b=true then t D σ H1 else u D σ H1
def ziG {f:TT}(l:PT X c f)(k:PSs X a t)(j:PSs X b u):PS X (.If c a b pos) (tIfS f t u):=by
 intro e s σ H D I h
 refine wpAny_If (thn (l e s σ H _ I h) λd g hh9=>?_)
 obtain⟨H1,I1,i⟩:=hh9
 cases d with
 | true=>exact k e g σ H1 D I1 i
 | false=>exact j e g σ H1 D I1 i
def zk1:TS:=λ_ _ _=>False
def zc1:PS X st zk1:=λ_ _ _ _ _ _ h=>h.elim
def zf9:PSs X a zk1:=λ_ _ _ _ _ _ h=>h.elim
end
abbrev TG:=V->St->Hp->vV->Prop
abbrev TGs:=zw->St->Hp->vV->Prop
def PG (X:Cx)(a:Expr)(t:TG):Prop :=
 ∀ (b:xp) (s:zm) (σ:St) (H:Hp) (v:V) (u:Value) (Q:vV),Inv X b σ H s->yZ v u->t v σ H Q ->
  wpAny (model X.prog X.w) X.A (assign a X.env u) (λ_ d=>∃ c H',Inv X b c H' d/\Q c H') X.xe s
def PGs (X:Cx)(f:yX)(t:TGs):Prop :=
 ∀ (a:xp) (s:zm) (σ:St) (H:Hp) (d:zw) (b:zx) (Q:vV),Inv X a σ H s->yp d b->t d σ H Q ->
  wpAny (model X.prog X.w) X.A (assignInOrder ((assignEach f X.env).map (·.2)) b) (λ_ e=>∃ c H',Inv X a c H' e/\Q c H') X.xe s
abbrev zql:=V->V->V->Hp->(Hp->Prop)->Prop
def PSet (X:Cx)(t:zql):Prop :=
 ∀ (a:xp) (s:zm) (σ:St) (H:Hp) (o i v:V) (b c u:Value) (Q:Hp->Prop),Inv X a σ H s->yZ o b->yZ i c->yZ v u->t o i v H Q ->
  wpAny (model X.prog X.w) X.A (setItem b c u) (λ_ d=>∃ H',Inv X a σ H' d/\Q H') X.xe s
section
variable {X:Cx}{pos:Pos}
def xG (i:Nat):TG:=λv σ H Q=>Q (σ.set i (some v)) H
def xy {i:Nat}(e:X.N.Nodup)(d:X.N[i]?=some x)(b:Loc X.env.scope x)(c:X.fn x=true\/X.env.scope.names.lookup x=some .local:=by first | exact .inl rfl | exact .inr rfl | assumption):PG X (.Name x pos) (xG i):=by
 intro a s σ H v u Q I r h
 exact wpAny_assign_Name (zai I e d b r (λf I'=>⟨_,H,I',h⟩) c)
def gNil:TGs:=λa σ H Q=>a=[]/\Q σ H
def zqr (t:TG)(u:TGs):TGs:=λb σ H Q=>∃ v r,b=v::r/\t v σ H λa H'=>u r a H' Q
def zmO:PGs X [] gNil:=by
 intro a s σ H c b Q I r h
 obtain⟨e,h⟩:=h
 subst e
 cases r
 exact assignInOrder_nil ⟨σ,H,I,h⟩
def ziI {t:TG}(j:PG X e t)(f:PGs X b u)(c:(assignEach (e::b) X.env).map (·.2)=assign e X.env::(assignEach b X.env).map (·.2):=by rfl):PGs X (e::b) (zqr t u):=by
 intro a s σ H m n Q I r h
 obtain⟨v,o,d,h⟩:=h
 subst d
 cases r with
 | cons r i =>
  rw[c]
  refine assignInOrder_cons (thn (j a s σ H _ _ _ I r h) λ_ k hh9=>?_)
  obtain⟨g,H1,I1,l⟩:=hh9
  exact f a k g H1 _ _ Q I1 i l
def gTup (K:zu)(n:Nat)(t:TGs):TG:=λv σ H Q=>∃ a b,v=.ref a/\SqT K H a b/\b.length=n/\t b σ H Q
def zoi {d:yX}{k:Nat}{t:TGs}{n:Nat}(y:X.calm=true)(h:PGs X d t)
 (l:(assignEach d X.env).length=n:=by rfl) (f:(assignEach d X.env).findIdx? (·.1)=none:=by rfl):PG X (.Tuple d k pos) (gTup X.K n t):=by
 intro c s σ H v u Q I r hw
 obtain⟨a,q,p,w,j,hw⟩:=hw
 subst p
 cases r
 obtain⟨z,g,x,A⟩:=I.tuple w
 refine assign_Tuple_tuple (I.ok.hd y) x (by simp[l,<- j,g.length]) f λm i=>?_
 have I1:Inv X c σ H { s with heap:=m }:=I.kept (t':=s.toks) λb o e=>i b o (r0 (j4 e)) e
 exact h c _ σ H q _ Q I1 (by simpa using g) hw
def gSub (a b:TE)(t:zql):TG:=λv σ H Q=>a σ H λo H1=>b σ H1 λi H2=>t o i v H2 λH3=>Q σ H3
def zoz {d:TE}{t:zql}(j:PE X o d)(z:PE X i e)(q:PSet X t) (f:∀ v,assign (.Subscript o i pos) X.env v=(do
 let b<-holding [v] (eval o X.env)
 let c<-holding [v,b] (eval i X.env)
 standAt pos
 holding [v,b,c] (setItem b c v)
 release [v,b,c] []):=by intro _;rfl):PG X (.Subscript o i pos) (gSub d e t):=by
 intro a s σ H v u Q I r h
 rw[f]
 refine u5 (i0 (thn (j a s σ H _ I h) λb l hh9=>?_))
 obtain⟨x,H1,I1,m,n⟩:=hh9
 refine u5 (i0 (thn (z a l σ H1 _ I1 n) λc w hh9=>?_))
 obtain⟨y,H2,I2,k,g⟩:=hh9
 refine u5 (u1q (u5 (i0 (thn (q a w σ H2 x y v b c u _ I2 m k r g) λ_ A hh9=>?_))))
 obtain⟨H3,I3,p⟩:=hh9
 exact wpAny_release ⟨σ,H3,I3,p⟩
def XF (a:TE)(g:TG):TS:=λD σ H=>a σ H λx H1=>g x σ H1 D.nx
def zpq {g:TG}(j:PE X e c)(f:PG X b g)(d:swapsWithSole [b] e pos.line X.env=pure false:=by rfl)(hw:swappedStores [b] e X.env=pure none:=by rfl)(i:(assignEach [b] X.env).map (·.2)=[assign b X.env]:=by rfl):PS X (.Assign [b] e pos) (XF c g):=by
 intro a s σ H D I h
 refine wpAny_Assign_stores (thn (j a s σ H _ I h) λv k hh9=>?_) d hw
 obtain⟨x,H1,I1,l,m⟩:=hh9
 rw[i]
 exact thn (f a k σ H1 x v _ I1 l m) λ_ n q=>q
def wJ {i:Nat}(l:X.N.Nodup)(j:X.N[i]?=some x)(f:Loc X.env.scope x)(k:PE X e c)(d:swapsWith e (some (.Name x a)) pos.line X.env=pure false:=by rfl)(g:X.fn x=true\/X.env.scope.names.lookup x=some .local:=by first | exact .inl rfl | exact .inr rfl | assumption) :
 PS X (.Assign [.Name x a] e pos) (XF c (xG i)):=by
 intro b s σ H D I h
 refine wpAny_Assign_Name (thn (k b s σ H _ I h) λv p hh9=>?_) d
 obtain⟨y,H1,I1,m,n⟩:=hh9
 exact zai I1 l j f m (λo I2=>⟨_,H1,I2,n⟩) g
end
structure It where
 go:Nat->Hp->Prop
 yld:Nat->Hp->V->Hp->Prop
 stop:Nat->Hp->Prop
def zeD (X:Cx)(a:xp)(H:Hp)(b:Addr):Prop :=
 H b=none/\b≠X.env.locals/\b∉X.fs/\(b∈X.ex\/X.s₀.heap.objs.size<=b)/\(∀ x c,X.env.cells.lookup x=some c->c≠b)/\∀ p∈X.pn++a,p.1≠b
def Inv.fpOk {H':Hp}{s:zm}(I:Inv X a σ H s)(d:s.heap.objs.size<=b)(f:H' b=none):zeD X a H' b:=by
 refine⟨f,u1F (q7 I.lt d),I.nofs d,.inr (n0 I.sz d),λx c e z=>?_,λp g z=>?_⟩
 .obtain⟨v,q⟩:=I.cell x c e
  exact absurd (q7 q.lt (by rw[z];exact d)) (u0t _)
 .exact absurd (q7 (j4 (I.pin p g).1) (by rw[z];exact d)) (u0t _)
structure zm3 (P:zO) (w:World) (K:zu) (tg:Expr) (J:It) (fp:xX) (it:Addr) (tn:Nat->Heap->Prop):Prop where
 mem:it∈fp
 obj:∀ i h,tn i h->∀ b∈fp,∃ o,h.get? b=some o/\∀ v,o.data≠.cell v
 keep:∀ i h h',tn i h->(∀ b∈fp,∀ o,h.get? b=some o->h'.get? b=some o)->tn i h'
 item:∀ (X:Cx),X.prog=P->X.w=w->X.K=K->X.calm=true->∀ (i:Nat) (pins:xp) (s:zm) (σ:St) (H:Hp) (E:yT),Inv X pins σ H s->(∀ b∈fp,zeD X pins H b)->tn i s.heap->J.go i H ->
  wpAny (model P w) X.A (pyNext (.ref it)) (λr s1=>∃ u,r=some u /\
   wpAny (model P w) X.A (letOwnedTupleGo tg (.ref it) u) (λ_ s2=>∃ x H',Inv X pins σ H' s2/\yZ x u/\J.yld i H x H'/\tn (i+1) s2.heap/\∀ b∈fp,H' b=none) E s1) E s
 done:∀ (X:Cx),X.prog=P->X.w=w->X.K=K->X.calm=true->∀ (i:Nat) (pins:xp) (s:zm) (σ:St) (H:Hp) (E:yT),Inv X pins σ H s->(∀ b∈fp,zeD X pins H b)->tn i s.heap->J.stop i H ->
  wpAny (model P w) X.A (pyNext (.ref it)) (λr s1=>r=none/\Inv X pins σ H s1) E s
 self:∀ (A:zM) (i:Nat) (s:zm) (Q:yT) (E:yT),tn i s.heap->Q (.ref it) s->wpAny (model P w) A (pyIter (.ref it)) Q E s
abbrev TI:=St->Hp->(It->Hp->Prop)->Prop
def PIE (X:Cx)(a:xp)(σ:St)(h:Expr)(R:It->Hp->Prop)(c:Value)(f:zm):Prop :=
 ∃ (e:Addr) (d:xX) (g:Nat->Heap->Prop) (J:It) (H':Hp),c=.ref e/\Inv X a σ H' f/\zm3 X.prog X.w X.K h J d e g/\g 0 f.heap/\(∀ b∈d,zeD X a H' b)/\R J H'
def PI (X:Cx)(d b:Expr)(c:TI):Prop :=
 ∀ (a:xp) (s:zm) (σ:St) (H:Hp) (R:It->Hp->Prop),Inv X a σ H s->c σ H R ->
  wpAny (model X.prog X.w) X.A (eval b X.env) (λv e=>wpAny (model X.prog X.w) X.A (pyIter v) (PIE X a σ d R) X.xe e) X.xe s
theorem zjf {s:zm} {o:Obj} {Q:Unit→Shared→Prop} (ho:s.heap.get? it=some o) (hc:o.cls=.type n) (hd:o.data=.fields vs) (hn:["enumerate","zip","dict_itemiterator","dict_reverseitemiterator","odict_iterator","itertools.zip_longest","itertools.pairwise"].contains n=false) (hQ:Q () s):wpAny M A (letOwnedTupleGo tg (.ref it) u) Q E s:=by
  unfold letOwnedTupleGo
  cases tg <;> first
    | exact t5 hQ
    | (cases u <;> first
        | exact t5 hQ
        | (refine u5 (wpAny_load ho ?_)
           rw [hc,hd]
           show wpAny M A (if (["enumerate","zip","dict_itemiterator","dict_reverseitemiterator","odict_iterator","itertools.zip_longest","itertools.pairwise"].contains n&&vs[0]? == some (rawInt _))=true then _ else _) Q E s
           rw [j5 (by intro h;rw [hn,u2V] at h;cases h)]
           exact t5 hQ))
def Itl (K:zu)(a:Addr):It :=
 ⟨λi H=>∃ b x,SqL K H a b/\b[i]?=some x,λi H x H'=>H'=H/\∀ b,SqL K H a b->b[i]?=some x,λi H=>∃ b,SqL K H a b/\b.length<=i⟩
def Itt (K:zu)(a:Addr):It :=
 ⟨λi H=>∃ b x,SqT K H a b/\b[i]?=some x,λi H x H'=>H'=H/\∀ b,SqT K H a b->b[i]?=some x,λi H=>∃ b,SqT K H a b/\b.length<=i⟩
def Itr (a:Int)(n:Nat):It:=⟨λi _=>i<n,λi H x H'=>H'=H/\x=.int (a+i),λi _=>n<=i⟩
def zgE {P:zO}{w:World}{K:zu}{tg:Expr}(a it:Addr):zm3 P w K tg (Itl K a) [it] it (λi h=>h.IsListIter it a i) where
 mem:=by simp
 obj:=λi h st b hb=>by
  have e:b=it:=by simpa using hb
  subst e
  obtain⟨o,e,c,d⟩:=st
  exact⟨o,e,λv z=>by rw[d]at z;cases z⟩
 keep:=λi h h' st k=>st.at λo e=>k it (by simp) o e
 item:=by
  intro X hP hw hK hc i pins s σ H E I hf st hg
  subst hP hw hK
  obtain⟨xs,x,hq,hx⟩:=hg
  obtain⟨its,rv,p,hz⟩:=I.list hq
  obtain⟨u,hu,ru⟩:=rv.get hx
  obtain⟨f0,f1,f2,f3,f4,f5⟩:=hf it (by simp)
  refine wpAny_pyNext_list_item st p.isList (x:=u) (by simpa using hu) λh' st' sb=>?_
  have I1:Inv X pins σ H { s with heap:=h' }:=I.turned (t':=s.toks) (λb o hb e=>(sb.2 b hb).trans e) f0 f1 f3 f4 f5
  obtain⟨o,e,c,d⟩:=id st'
  exact⟨u,rfl,zjf (s:={ s with heap:=h' }) e c d (by decide) ⟨x,H,I1,ru,⟨rfl,λys hy=>by rw[I.list_inj hy hq];exact hx⟩,st',λb hb=>(hf b hb).1⟩⟩
 done:=by
  intro X hP hw hK hc i pins s σ H E I hf st hg
  subst hP hw hK
  obtain⟨xs,hq,hx⟩:=hg
  obtain⟨its,rv,p,hz⟩:=I.list hq
  obtain⟨f0,f1,f2,f3,f4,f5⟩:=hf it (by simp)
  have hl:=rv.length
  exact wpAny_pyNext_list_end (I.ok.hd hc) st p.isList (by simp;omega) λh' eb=>⟨rfl,I.turned (t':=s.toks) (λb o hb e=>eb b o hb e) f0 f1 f3 f4 f5⟩
 self:=λ_ _ _ _ _ st h=>wpAny_pyIter_listiter st h
def zdW {P:zO}{w:World}{K:zu}{tg:Expr}(a it:Addr):zm3 P w K tg (Itt K a) [it] it (λi h=>h.IsTupleIter it a i) where
 mem:=by simp
 obj:=λi h st b hb=>by
  have e:b=it:=by simpa using hb
  subst e
  obtain⟨o,e,c,d⟩:=st
  exact⟨o,e,λv z=>by rw[d]at z;cases z⟩
 keep:=λi h h' st k=>st.at λo e=>k it (by simp) o e
 item:=by
  intro X hP hw hK hc i pins s σ H E I hf st hg
  subst hP hw hK
  obtain⟨xs,x,hq,hx⟩:=hg
  obtain⟨its,rv,p,hz⟩:=I.tuple hq
  obtain⟨u,hu,ru⟩:=rv.get hx
  obtain⟨f0,f1,f2,f3,f4,f5⟩:=hf it (by simp)
  refine wpAny_pyNext_tuple_item st (show s.heap.IsTuple a its.toArray from p) (x:=u) (by simpa using hu) λh' st' sb=>?_
  have I1:Inv X pins σ H { s with heap:=h' }:=I.turned (t':=s.toks) (λb o hb e=>(sb.2 b hb).trans e) f0 f1 f3 f4 f5
  obtain⟨o,e,c,d⟩:=id st'
  exact⟨u,rfl,zjf (s:={ s with heap:=h' }) e c d (by decide) ⟨x,H,I1,ru,⟨rfl,λys hy=>by rw[I.tuple_inj hy hq];exact hx⟩,st',λb hb=>(hf b hb).1⟩⟩
 done:=by
  intro X hP hw hK hc i pins s σ H E I hf st hg
  subst hP hw hK
  obtain⟨xs,hq,hx⟩:=hg
  obtain⟨its,rv,p,hz⟩:=I.tuple hq
  obtain⟨f0,f1,f2,f3,f4,f5⟩:=hf it (by simp)
  have hl:=rv.length
  exact wpAny_pyNext_tuple_end (I.ok.hd hc) st (show s.heap.IsTuple a its.toArray from p) (by simp;omega) λh' eb=>⟨rfl,I.turned (t':=s.toks) (λb o hb e=>eb b o hb e) f0 f1 f3 f4 f5⟩
 self:=λ_ _ _ _ _ st h=>wpAny_pyIter_tupleiter st h
def zed {P:zO}{w:World}{K:zu}{tg:Expr}(it:Addr)(lo:Int)(n:Nat):zm3 P w K tg (Itr lo n) [it] it (λi h=>IsRangeIter h it (lo+(i:Nat)*1) ((n:Int)-(i:Nat)) 1) where
 mem:=by simp
 obj:=λi h st b hb=>by
  have e:b=it:=by simpa using hb
  subst e
  exact⟨_,st,λv z=>by
   have z':Data.fields _=Data.cell v:=z
   cases z'⟩
 keep:=λi h h' st k=>k it (by simp) _ st
 item:=by
  intro X hP hw hK hc i pins s σ H E I hf st hg
  subst hP hw hK
  obtain⟨f0,f1,f2,f3,f4,f5⟩:=hf it (by simp)
  have W:=Walks.range (prog:=X.prog) (w:=X.w) (I.ok.hd hc) it lo 1 n
  refine W.item i s _ _ hg st λv h' tk hv st' kk=>?_
  obtain⟨t,rfl⟩:=hv
  have I1:Inv X pins σ H { s with heap:=h',toks:=tk }:=I.turned (λb o hb e=>kk b o (by simpa using hb) e) f0 f1 f3 f4 f5
  refine⟨_,rfl,zjf (s:={ s with heap:=h',toks:=tk }) (n:="range_iterator") st' rfl rfl (by decide) ⟨.int (lo+i),H,I1,⟨t,?_⟩,⟨rfl,rfl⟩,st',λb hb=>(hf b hb).1⟩⟩
  rw[Int.mul_one]
 done:=by
  intro X hP hw hK hc i pins s σ H E I hf st hg
  subst hP hw hK
  obtain⟨f0,f1,f2,f3,f4,f5⟩:=hf it (by simp)
  exact wpAny_pyNext_range_end (I.ok.hd hc) st (by have:n<=i:=hg;omega) λh' eb=>⟨rfl,I.turned (t':=s.toks) (λb o hb e=>eb b o hb e) f0 f1 f3 f4 f5⟩
 self:=λ_ _ _ _ _ st h=>wpAny_pyIter_rangeiter st h
section
variable {X:Cx}{tg:Expr}
def zcU {d:xp} {s:zm} {R:It->Hp->Prop} {a c:Int} {t:Tok} {f:Nat} (I:Inv X d σ H s) (m:-(2^62)<=a) (k:a<2^62) (i:-(2^62)<=c) (g:c<2^62) (q:R (Itr a (c-a).toNat) H):wpAny (model X.prog X.w) X.A (pyIter (.ref s.heap.objs.size)) (PIE X d σ tg R) E { s with heap:=s.heap.push { cls:=.type "range",data:=.fields #[.int a t,.int c u,.int 1 v] },toks:=f }:=by
 refine wpAny_pyIter_range (IsRange.new ..) (small_one m k i g) ?_
 have I1:Inv X d σ H { s with heap:=s.heap.push { cls:=.type "range",data:=.fields #[.int a t,.int c u,.int 1 v] },toks:=f }:=I.kept λb o e=>u8 _ e
 refine⟨(s.heap.push { cls:=.type "range",data:=.fields #[.int a t,.int c u,.int 1 v] }).objs.size,[(s.heap.push { cls:=.type "range",data:=.fields #[.int a t,.int c u,.int 1 v] }).objs.size],_,_,H,rfl,
  I1.kept (t':=f) λb o e=>u8 _ e,zed _ a (c-a).toNat,?_,λb h=>?_,q⟩
 .have j:a+((0:Nat):Int)*1=a:=by simp
  have l:(((c-a).toNat:Nat):Int)-((0:Nat):Int)=Builtin.Range.rangeSize a c 1:=by rw[rangeSize_one];split <;> omega
  show IsRangeIter _ _ (a+((0:Nat):Int)*1) ((((c-a).toNat:Nat):Int)-((0:Nat):Int)) 1
  rw[j,l]
  exact k9 _ rfl
 .have e:b=(s.heap.push { cls:=.type "range",data:=.fields #[.int a t,.int c u,.int 1 v] }).objs.size:=by simpa using h
  subst e
  exact I1.fpOk (t6 _) (I1.hok.fresh (t6 _))
def zpW (b:TA):TI:=fun σ H R=>b σ H λa H1=>∃ j:Int,a=[.int j]/\-(2^62)<=j/\j<2^62/\R (Itr 0 j.toNat) H1
def zqb (b:TA):TI:=fun σ H R=>b σ H λa H1=>∃ i j:Int,a=[.int i,.int j]/\(-(2^62)<=i/\i<2^62/\-(2^62)<=j/\j<2^62)/\R (Itr i (j-i).toNat) H1
def zaQ {f:TA} {p:Pos} (i:Gl X "range") (o:X.mg "range"=none) (k:PA X [a] f) (g:starEach [a] X.env=[(false,eval a X.env)]:=by rfl):PI X tg (.Call (.Name "range" p) [a] [] c) (zpW f):=by
 intro b s σ H R I h
 refine Call_ (Vv I i o boot_range (u0w (thn (k c b s σ H _ I h) λv w hh9=>?_) g rfl))
 obtain⟨u,H1,I1,n,d⟩:=hh9
 obtain⟨j,e,d,l,q⟩:=d
 subst e
 cases n with
 | cons r m =>
  cases m
  obtain⟨t,rfl⟩:=r
  exact call_range_1 (zcU I1 (by omega) (by omega) d l (by simpa using q))
def zf6 {p f:Pos} (m:Gl X "range") (z:X.mg "range"=none) (n:PA X [a,b] l) (y:starEach [a,b] X.env=[(false,eval a X.env),(false,eval b X.env)]:=by rfl) (c:starEach [b] X.env=[(false,eval b X.env)]:=by rfl) :
 PI X tg (.Call (.Name "range" p) [a,b] [] f) (zqb l):=by
 intro d s σ H R I h
 refine Call_ (Vv I m z boot_range (u0w (thn (n f d s σ H _ I h) λA B hh9=>?_) (by rw[y,c]) (by rw[c];rfl)))
 obtain⟨C,H1,I1,w,g⟩:=hh9
 obtain⟨i,j,e,⟨g,o,x,v⟩,q⟩:=g
 subst e
 cases w with
 | cons r k =>
  cases k with
  | cons u k =>
   cases k
   obtain⟨t,rfl⟩:=r
   obtain⟨D,rfl⟩:=u
   exact call_range_2 (zcU I1 g o x v q)
def tFor (c:TI)(g:TG)(d:TS):TS:=λD σ H=>c σ H λJ H1=>∃ W:Nat->Nat->St->Hp->Prop,(∃ m,W 0 m σ H1)/\∀ i m σ H,W i m σ H ->
 (J.stop i H/\D.nx σ H)\/(J.go i H/\∃ N:vV,(∀ b H',N b H'->∃ a,a<m/\W (i+1) a b H')/\∀ x H',J.yld i H x H'->g x σ H' λe H2=>d { D with nx:=N,ct:=N,bk:=D.nx } e H2)
def VF (a:xX)(h:Heap):xp:=a.filterMap λb=>(h.get? b).map λo=>(b,o)
def vJ {h:Heap}(c:b∈a)(e:h.get? b=some o):(b,o)∈VF a h:=u1i.mpr ⟨b,c,by rw[e];rfl⟩
def zhf {h:Heap}{p:Addr × Obj}(f:p∈VF a h):p.1∈a/\h.get? p.1=some p.2:=by
 obtain⟨b,d,e⟩:=u1i.mp f
 cases q:h.get? b with
 | none=>rw[q]at e;cases e
 | some o =>
  rw[q]at e
  have c:(b,o)=p:=g4 e
  subst c
  exact⟨d,q⟩
def Inv.pinned {s:zm}(I:Inv X a σ H s)(i:∀ b∈fp,zeD X a H b)(k:∀ b∈fp,∃ o,s.heap.get? b=some o/\∀ v,o.data≠.cell v):Inv X (a++VF fp s.heap) σ H s :=
 I.pins_of λp h=>(i8.mp h).elim (λz=>I.pin p (o8 _ z)) λz=>by
  obtain⟨c,e⟩:=zhf z
  obtain⟨j,g,l,_⟩:=i p.1 c
  obtain⟨o,f,d⟩:=k p.1 c
  rw[e]at f;cases f
  exact⟨e,j,g,l,d⟩
def Inv.unpinned {pl:xp}(I:Inv X (a++pl) σ H s):Inv X a σ H s:=I.pins_of λp b=>I.pin p (o8 _ (u00 _ b))
def zaY {k:Expr}{V:TI}{g:TG}(E:PassesOwn (model X.prog X.w) X.A X.env X.xe)(Z:X.calm=true)(hi:PI X tg k V)(hg:PG X tg g)(c:PSs X q R)(hs:∀ x,foldedSetIterable k X.env x=pure x:=by intro _;rfl):PS X (.For tg k q [] P) (tFor V g R):=by
 intro a s σ H D I h
 refine wpAny_For (thn (hi a s σ H _ I h) λv s1 h1=>thn h1 λa0 s2 h2=>?_) hs
 obtain⟨it,C,S,J,H2,e,I2,T,K,U,W,⟨m0,w0⟩,turn⟩:=h2
 subst e
 -- what stays true of the iterator's objects through the loop
 have j:∀ {H':Hp},(∀ b∈C,H' b=none)->∀ b∈C,zeD X a H' b:=λhn b c=>⟨hn b c,(U b c).2⟩
 refine codeAny_forLoop_any (λn s'=>∃ i z H',Inv X a z H' s'/\S i s'.heap/\(∀ b∈C,H' b=none)/\W i n z H') ?_ m0 ⟨0,σ,H2,I2,K,λb c=>(U b c).1,w0⟩
 rintro n Y ⟨i,y,H3,I3,F,G,w3⟩
 rcases turn i n y H3 w3 with ⟨B,qn⟩ | ⟨go,N,hN,w⟩
 .refine u1p E (thn (T.done X rfl rfl rfl Z i a Y y H3 X.xe I3 (j G) F B) λr s4 hh9=>?_)
  obtain⟨O,I4⟩:=hh9
  subst O
  exact u14 ⟨y,H3,I4,qn⟩
 .refine u1p E (thn (T.item X rfl rfl rfl Z i a Y y H3 X.xe I3 (j G) F go) λr s4 hh9=>?_)
  obtain⟨u,O,h4⟩:=hh9
  subst O
  refine u1p E (thn h4 λ_ Q hh9=>?_)
  obtain⟨x,H5,I5,r5,y5,t,M⟩:=hh9
  have I5':=I5.pinned (j M) (T.obj _ _ t)
  refine u1p E (thn (hg _ Q y H5 x u _ I5' r5 (w x H5 y5)) λ_ s6 hh9=>?_)
  obtain⟨σ6,H6,I6,q6⟩:=hh9
  refine u1p E (thn (c _ s6 σ6 H6 _ I6 q6) λf L p=>?_)
  have again:∀ {l:St} {H7:Hp},Inv X (a++VF C Q.heap) l H7 L->N l H7->∃ m,m<n/\∃ i z H',Inv X a z H' L/\S i L.heap/\(∀ b∈C,H' b=none)/\W i m z H':=λ{l H7} I7 A=>by
   obtain⟨m',hm,w7⟩:=hN l H7 A
   refine⟨m',hm,i+1,l,H7,I7.unpinned,T.keep _ _ _ t λb c o e=>(I7.pin (b,o) (o8 _ (o8 _ (vJ c e)))).1,λb c=>?_,w7⟩
   obtain⟨o,e,d⟩:=T.obj _ _ t b c
   exact(I7.pin (b,o) (o8 _ (o8 _ (vJ c e)))).2.1
  cases f with
  | next=>obtain⟨l,H7,I7,A⟩:=p;exact again I7 A
  | cont=>obtain⟨l,H7,I7,A⟩:=p;exact again I7 A
  | brk=>obtain⟨l,H7,I7,p⟩:=p;exact⟨l,H7,I7.unpinned,p⟩
  | ret v=>obtain⟨x7,l,H7,I7,r7,p⟩:=p;exact⟨x7,l,H7,I7.unpinned,r7,p⟩
end
abbrev R2:=V->V->Hp->VK->Prop
def OpR (X:Cx)(f:Value->Value->Sem Value)(r:R2):Prop :=
 ∀ (a:xp) (s:zm) (σ:St) (H:Hp) (x y:V) (v u:Value) (Q:VK),Inv X a σ H s->yZ x v->yZ y u->r x y H Q ->
  wpAny (model X.prog X.w) X.A (f v u) (EP X a σ Q) X.xe s
def UnR (X:Cx)(f:Value->Sem Value)(r:V->Hp->VK->Prop):Prop :=
 ∀ (a:xp) (s:zm) (σ:St) (H:Hp) (x:V) (v:Value) (Q:VK),Inv X a σ H s->yZ x v->r x H Q ->
  wpAny (model X.prog X.w) X.A (f v) (EP X a σ Q) X.xe s
def Yh (X:Cx)(f:Value)(r:zd8):Prop :=
 ∀ (a:xp) (s:zm) (σ:St) (H:Hp) (c:zw) (b:zx) (Q:VK),Inv X a σ H s->yp c b->r c H Q ->
  wpAny (model X.prog X.w) X.A (call f b) (EP X a σ Q) X.xe s
def tOp (r:R2)(b a:TE):TE:=fun σ H Q=>b σ H λx H1=>a σ H1 λy H2=>r x y H2 Q
def tUn (r:V->Hp->VK->Prop)(a:TE):TE:=fun σ H Q=>a σ H λx H1=>r x H1 Q
def rI (C:Int->Int->Prop)(g:Int->Int->V):R2:=λx y H Q=>∃ i j,x=.int i/\y=.int j/\C i j/\Q (g i j) H
def rI0 (g:Int->Int->V):R2:=λx y H Q=>∃ i j,x=.int i/\y=.int j/\Q (g i j) H
def rU (g:Int->V):V->Hp->VK->Prop:=λx H Q=>∃ i,x=.int i/\Q (g i) H
section
variable {X:Cx}{a b c:Expr}{ta tb tc:TE}{pos:Pos}
def zqy (e:PE X a ta)(o:PE X b tb){c:xp}{R:V->V->Hp->Prop}(I:Inv X c σ H s)(h:ta σ H λx H1=>tb σ H1 λy H2=>R x y H2){f:Value->Value->Sem Value}(i:∀ v u d x y H2,Inv X c σ H2 d->yZ x v->yZ y u->R x y H2->wpAny (model X.prog X.w) X.A (f v u) Q X.xe d) :
 wpAny (model X.prog X.w) X.A (eval a X.env) (λv p=>wpAny (model X.prog X.w) X.A (eval b X.env) (λu j=>wpAny (model X.prog X.w) X.A (f v u) Q X.xe j) X.xe p) X.xe s:=by
 refine thn (e c s σ H _ I h) λv l hh9=>?_
 obtain⟨x,H1,I1,m,n⟩:=hh9
 refine thn (o c l σ H1 _ I1 n) λu d hh9=>?_
 obtain⟨y,H2,I2,k,g⟩:=hh9
 exact i v u d x y H2 I2 m k g
def zjJ {d:Operator}(j:OpR X (binaryOp d) r)(g:PE X a ta)(f:PE X b tb):PE X (.BinOp a d b pos) (tOp r ta tb):=by
 intro c s σ H Q I h
 exact wpAny_BinOp (zqy g f I h λv u i x y H2 I2 e k q=>j c i σ H2 x y v u Q I2 e k q)
def znI {c:UnaryOp}(d:UnR X (unaryOp c) r)(g:PE X a ta):PE X (.UnaryOp c a pos) (tUn r ta):=by
 intro b s σ H Q I h
 exact UnaryOp_ (thn (g b s σ H _ I h) λv e ⟨x,H1,I1,f,i⟩=>d b e σ H1 x v Q I1 f i)
def opI {f:Value->Value->Sem Value}{C:Int->Int->Prop}{g:Int->Int->Int}
 (rule:∀ (i j:Int) (t u:Tok) (s:zm) (Q:yT) (E:yT),C i j->Q (.int (g i j) s.toks) { s with toks:=s.toks+1 }->wpAny (model X.prog X.w) X.A (f (.int i t) (.int j u)) Q E s) :
 OpR X f (rI C λi j=>.int (g i j)):=by
 intro a s σ H x y v u Q I b e h
 obtain⟨i,j,rfl,rfl,c,q⟩:=h
 obtain⟨t,rfl⟩:=b
 obtain⟨d,rfl⟩:=e
 exact rule i j t d s _ _ c ⟨.int (g i j),H,I.tok _,⟨_,rfl⟩,q⟩
def opI0 {f:Value->Value->Sem Value}{g:Int->Int->Int}
 (rule:∀ (i j:Int) (t u:Tok) (s:zm) (Q:yT) (E:yT),Q (.int (g i j) s.toks) { s with toks:=s.toks+1 }->wpAny (model X.prog X.w) X.A (f (.int i t) (.int j u)) Q E s) :
 OpR X f (rI0 λi j=>.int (g i j)):=by
 intro a s σ H x y v u Q I b d h
 obtain⟨i,j,rfl,rfl,q⟩:=h
 obtain⟨t,rfl⟩:=b
 obtain⟨c,rfl⟩:=d
 exact rule i j t c s _ _ ⟨.int (g i j),H,I.tok _,⟨_,rfl⟩,q⟩
def zpG {f:Value->Value->Sem Value}{g:Int->Int->Bool}
 (rule:∀ (i j:Int) (t u:Tok) (s:zm) (Q:yT) (E:yT),Q (.bool (g i j)) s->wpAny (model X.prog X.w) X.A (f (.int i t) (.int j u)) Q E s) :
 OpR X f (rI0 λi j=>.bl (g i j)):=by
 intro a s σ H x y v u Q I b d h
 obtain⟨i,j,rfl,rfl,q⟩:=h
 obtain⟨t,rfl⟩:=b
 obtain⟨c,rfl⟩:=d
 exact rule i j t c s _ _ ⟨.bl (g i j),H,I,rfl,q⟩
def zqA (i j:Int):Prop:=(-(2^64)<i/\i<2^64)\/(-(2^64)<j/\j<2^64)
def zqA.ok (h:zqA i j):IntMulOk i j:=by
 rcases h with ⟨b,a⟩ | ⟨b,a⟩
 .exact .of_left (intBits_le_64 b a)
 .exact .of_right (intBits_le_64 b a)
def znK:OpR X (binaryOp .Add) (rI0 λi j=>.int (i+j)):=opI0 λ_ _ _ _ _ _ _ q=>add_int q
def zn0:OpR X (binaryOp .Sub) (rI0 λi j=>.int (i-j)):=opI0 λ_ _ _ _ _ _ _ q=>sub_int q
def zpc:OpR X (binaryOp .Mult) (rI zqA λi j=>.int (i*j)):=opI λ_ _ _ _ _ _ _ a q=>mul_int q a.ok
def zn4:OpR X (binaryOp .Mod) (rI (λ_ j=>0<j) λi j=>.int (i%j)):=opI λi j _ _ _ _ _ a q=>by
 have b:(0:Int)<j:=a
 exact mod_int' (by omega) (by rw[Int.fmod_eq_emod_of_nonneg i (by omega)];exact q)
def unI {f:Value->Sem Value}{g:Int->Int}
 (rule:∀ (i:Int) (t:Tok) (s:zm) (Q:yT) (E:yT),Q (.int (g i) s.toks) { s with toks:=s.toks+1 }->wpAny (model X.prog X.w) X.A (f (.int i t)) Q E s) :
 UnR X f (rU λi=>.int (g i)):=by
 intro a s σ H x v Q I b h
 obtain⟨i,rfl,q⟩:=h
 obtain⟨t,rfl⟩:=b
 exact rule i t s _ _ ⟨.int (g i),H,I.tok _,⟨_,rfl⟩,q⟩
def zky:UnR X (unaryOp .USub) (rU λi=>.int (-i)):=unI λ_ _ _ _ _ q=>neg_int q
end
def scal:V->V->Bool
 | .non,.non=>true | .non,.int _=>true | .int _,.non=>true | .non,.bl _=>true | .bl _,.non=>true | .non,.str _=>true | .str _,.non=>true
 | .int _,.int _=>true | .bl _,.bl _=>true | .str _,.str _=>true | .byt _,.byt _=>true
 | .int _,.str _=>true | .str _,.int _=>true | .bl _,.str _=>true | .str _,.bl _=>true
 | _,_=>false
def rEq:R2:=λx y H Q=>scal x y=true/\Q (.bl (decide (x=y))) H
def rNe:R2:=λx y H Q=>scal x y=true/\Q (.bl (!decide (x=y))) H
def zbZ:decide (V.int i=V.int j)=(i == j):=by
 rw[u1e]
 simp
def zkY:decide (V.bl i=V.bl j)=(i == j):=by
 rw[u1e]
 simp
def zfL:decide (V.str i=V.str j)=(i == j):=by
 rw[u1e]
 simp
def zg4 {i j:Array UInt8}:decide (V.byt i=V.byt j)=(i.toList == j.toList):=by
 rw[u1e]
 cases i
 cases j
 simp
section
variable {X:Cx}{a b c:Expr}{ta tb tc:TE}{pos:Pos}
def yi {a:xp}{Q:VK}{k b:Bool}(I:Inv X a σ H s)(q:Q (.bl k) H)(e:k=b):EP X a σ Q (.bool b) s:=by
 subst e
 exact⟨.bl k,H,I,rfl,q⟩
def zpZ:OpR X (compareOp .Eq) rEq:=by
 intro e s σ H x y v u Q I d a h
 obtain⟨c,q⟩:=h
 cases x with
 | non =>
  cases d
  cases y with
  | non=>cases a;exact PySem.EqNone.eq_none_none (yi I q (by simp))
  | bl j=>cases a;exact PySem.EqNone.eq_none_bool (yi I q (by simp))
  | int j=>obtain⟨b,rfl⟩:=a;exact PySem.EqNone.eq_none_int (yi I q (by simp))
  | str j=>obtain⟨b,rfl⟩:=a;exact PySem.EqNone.eq_none_str (yi I q (by simp))
  | _=>exact absurd (show false=true from c) u7
 | bl i =>
  cases d
  cases y with
  | non=>cases a;exact PySem.EqNone.eq_bool_none (yi I q (by simp))
  | bl j=>cases a;exact eq_bool (yi I q zkY)
  | str j=>obtain⟨b,rfl⟩:=a;exact PySem.EqMixed.eq_bool_str (yi I q (by simp))
  | _=>exact absurd (show false=true from c) u7
 | int i =>
  obtain⟨t,rfl⟩:=d
  cases y with
  | non=>cases a;exact PySem.EqNone.eq_int_none (yi I q (by simp))
  | int j=>obtain⟨b,rfl⟩:=a;exact eq_int (yi I q zbZ)
  | str j=>obtain⟨b,rfl⟩:=a;exact PySem.EqMixed.eq_int_str (yi I q (by simp))
  | _=>exact absurd (show false=true from c) u7
 | str i =>
  obtain⟨t,rfl⟩:=d
  cases y with
  | non=>cases a;exact PySem.EqNone.eq_str_none (yi I q (by simp))
  | bl j=>cases a;exact PySem.EqMixed.eq_str_bool (yi I q (by simp))
  | int j=>obtain⟨b,rfl⟩:=a;exact PySem.EqMixed.eq_str_int (yi I q (by simp))
  | str j=>obtain⟨b,rfl⟩:=a;exact eq_str (yi I q zfL)
  | _=>exact absurd (show false=true from c) u7
 | byt i =>
  obtain⟨t,rfl⟩:=d
  cases y with
  | byt j=>obtain⟨b,rfl⟩:=a;exact W.eq_bytes (yi I q zg4)
  | _=>exact absurd (show false=true from c) u7
 | _=>cases y <;> exact absurd (show false=true from c) u7
def zgH:OpR X (compareOp .NotEq) rNe:=by
 intro e s σ H x y v u Q I d a h
 obtain⟨c,q⟩:=h
 cases x with
 | non =>
  cases d
  cases y with
  | non=>cases a;exact PySem.EqNone.ne_none_none (yi I q (by simp))
  | bl j=>cases a;exact PySem.EqNone.ne_none_bool (yi I q (by simp))
  | int j=>obtain⟨b,rfl⟩:=a;exact PySem.EqNone.ne_none_int (yi I q (by simp))
  | str j=>obtain⟨b,rfl⟩:=a;exact PySem.EqNone.ne_none_str (yi I q (by simp))
  | _=>exact absurd (show false=true from c) u7
 | bl i =>
  cases d
  cases y with
  | non=>cases a;exact PySem.EqNone.ne_bool_none (yi I q (by simp))
  | bl j=>cases a;exact ne_bool (yi I q (u0z not zkY))
  | str j=>obtain⟨b,rfl⟩:=a;exact PySem.EqMixed.ne_bool_str (yi I q (by simp))
  | _=>exact absurd (show false=true from c) u7
 | int i =>
  obtain⟨t,rfl⟩:=d
  cases y with
  | non=>cases a;exact PySem.EqNone.ne_int_none (yi I q (by simp))
  | int j=>obtain⟨b,rfl⟩:=a;exact ne_int (yi I q (u0z not zbZ))
  | str j=>obtain⟨b,rfl⟩:=a;exact PySem.EqMixed.ne_int_str (yi I q (by simp))
  | _=>exact absurd (show false=true from c) u7
 | str i =>
  obtain⟨t,rfl⟩:=d
  cases y with
  | non=>cases a;exact PySem.EqNone.ne_str_none (yi I q (by simp))
  | bl j=>cases a;exact PySem.EqMixed.ne_str_bool (yi I q (by simp))
  | int j=>obtain⟨b,rfl⟩:=a;exact PySem.EqMixed.ne_str_int (yi I q (by simp))
  | str j=>obtain⟨b,rfl⟩:=a;exact ne_str (yi I q (u0z not zfL))
  | _=>exact absurd (show false=true from c) u7
 | byt i =>
  obtain⟨t,rfl⟩:=d
  cases y with
  | byt j=>obtain⟨b,rfl⟩:=a;exact W.ne_bytes (yi I q (u0z not zg4))
  | _=>exact absurd (show false=true from c) u7
 | _=>cases y <;> exact absurd (show false=true from c) u7
def zqu:OpR X (compareOp .Lt) (rI0 λi j=>.bl (decide (i<j))):=zpG λ_ _ _ _ _ _ _ q=>lt_int q
def V6:OpR X (compareOp .LtE) (rI0 λi j=>.bl (decide (i<=j))):=zpG λ_ _ _ _ _ _ _ q=>le_int q
def znV:OpR X (compareOp .Gt) (rI0 λi j=>.bl (decide (j<i))):=zpG λ_ _ _ _ _ _ _ q=>gt_int q
def znu:OpR X (compareOp .GtE) (rI0 λi j=>.bl (decide (j<=i))):=zpG λ_ _ _ _ _ _ _ q=>ge_int q
def zh2:OpR X (compareOp .In) (λx y H Q=>∃ i j,x=.str i/\y=.str j/\Q (.bl (!(Builtin.Str.occurrences j i 0 j.length 1).isEmpty)) H):=by
 intro a s σ H x y v u Q I b c h
 obtain⟨i,j,rfl,rfl,q⟩:=h
 obtain⟨t,rfl⟩:=b
 obtain⟨d,rfl⟩:=c
 exact in_str (yi I q rfl)
def zlm:OpR X (compareOp .IsNot) (λx y H Q=>y=.non/\Q (.bl (!decide (x=.non))) H):=by
 intro b s σ H x y v u Q I a c h
 obtain⟨rfl,q⟩:=h
 cases c
 refine isnot_none_gen (yi I q ?_)
 cases x <;> first
  | (cases a;rfl)
  | (obtain⟨t,rfl⟩:=a;rfl)
def OpR.or {f:Value->Value->Sem Value}{r c:R2}(h:OpR X f r)(e:OpR X f c):OpR X f (λx y H Q=>r x y H Q\/c x y H Q):=by
 intro a s σ H x y v u Q I b d q
 rcases q with q | q
 .exact h a s σ H x y v u Q I b d q
 .exact e a s σ H x y v u Q I b d q
def yk (b:Expr){a:CmpOp}(h:a≠.In:=by decide)(c:a≠.NotIn:=by decide):behindInMarks a b=false:=by
 have e:(a == CmpOp.In)=false:=by cases a <;> first | rfl | exact absurd rfl h
 have d:(a == CmpOp.NotIn)=false:=by cases a <;> first | rfl | exact absurd rfl c
 cases b <;> simp[behindInMarks,e,d]
def zfu {d:CmpOp}(j:OpR X (compareOp d) r)(g:PE X a ta)(f:PE X b tb)(l:behindInMarks d b=false):PE X (.Compare a [d] [b] pos) (tOp r ta tb):=by
 intro c s σ H Q I h
 exact wpAny_Compare1 (zqy g f I h λv u i x y H2 I2 e k q=>j c i σ H2 x y v u Q I2 e k q) l
def zew (t:TE):TT:=fun σ H Q=>t σ H λx H'=>∃ k,x=.bl k/\Q k H'
def zb4 {f:CmpOp}(n:OpR X (compareOp f) r)(i:PE X a ta)(g:PE X b tb)(A:behindInMarks f b=false):PT X (.Compare a [f] [b] pos) (zew (tOp r ta tb)):=by
 intro d s σ H Q I h
 refine wpAny_isTrue_Compare1 (thn (i d s σ H _ I h) λv q ⟨x,H1,I1,t,w⟩=>thn (g d q σ H1 _ I1 w) λu j ⟨y,H2,I2,p,l⟩ =>
  thn (n d j σ H2 x y v u _ I2 t p l) λc B ⟨z,H3,I3,m,k,e,o⟩=>?_) A
 subst e
 cases m
 exact u0b ⟨H3,I3,o⟩
def za6 (r a:R2)(ta tb tc:TE):TE:=fun σ H Q=>ta σ H λx H1=>tb σ H1 λy H2=>r x y H2 λz H3=>∃ k,z=.bl k /\
 (if k=true then tc σ H3 λb H4=>a y b H4 Q else Q (.bl false) H3)
def zjN {g:CmpOp}(t:OpR X (compareOp j) r)(i:OpR X (compareOp g) l)(p:PE X a ta)(E:PE X b tb)(K:PE X c tc)(N:lastMarks [j,g] [b,c]=false:=by with_unfolding_all rfl):PE X (.Compare a [j,g] [b,c] pos) (za6 r l ta tb tc):=by
 intro f s σ H Q I h
 refine Compare_chain (thn (p f s σ H _ I h) λv A ⟨x,H1,I1,B,D⟩=>chain_link (thn (E f A σ H1 _ I1 D) λu G ⟨y,H2,I2,m,q⟩ =>
  thn (t f G σ H2 x y v u _ I2 B m q) λd F ⟨z,H3,I3,J,k,e,n⟩=>?_)) N
 subst e
 cases J
 refine u0b ?_
 cases k with
 | false=>exact ite_ff ⟨.bl false,H3,I3,rfl,n⟩
 | true=>exact ite_tt (chain_last (thn (K f F σ H3 _ I3 n) λC L ⟨M,H4,I4,o,w⟩=>i f L σ H4 y M u C Q I4 m o w))
def ziM {g:CmpOp}(t:OpR X (compareOp j) r)(i:OpR X (compareOp g) l)(p:PE X a ta)(K:PE X b tb)(P:PE X c tc)(T:lastMarks [j,g] [b,c]=false:=by with_unfolding_all rfl):PT X (.Compare a [j,g] [b,c] pos) (zew (za6 r l ta tb tc)):=by
 intro f s σ H Q I h
 refine isTrue_chain (thn (p f s σ H _ I h) λv D ⟨x,H1,I1,E,G⟩=>test_link (thn (K f D σ H1 _ I1 G) λu M ⟨y,H2,I2,m,q⟩ =>
  thn (t f M σ H2 x y v u _ I2 E m q) λd L ⟨z,H3,I3,N,k,e,n⟩=>?_)) T
 subst e
 cases N
 refine u0b ?_
 cases k with
 | false =>
  obtain⟨Y,O,B⟩:=n
  cases O
  exact ite_ff ⟨H3,I3,B⟩
 | true =>
  refine ite_tt (test_last (thn (P f L σ H3 _ I3 n) λF R ⟨S,H4,I4,o,C⟩=>thn (i f R σ H4 y S u F _ I4 m o C) λU W hh9=>?_))
  obtain⟨Z,H5,I5,J,V,w,A⟩:=hh9
  subst w
  cases J
  exact u0b ⟨H5,I5,A⟩
def Xd:(sizeLine:Nat)<2^63:=by rw[u0G];decide
def zeb:OpR X (binaryOp .Add) (λx y H Q=>∃ i j,x=.str i/\y=.str j/\i.length+j.length<=sizeLine/\Q (.str (i++j)) H):=by
 intro a s σ H x y v u Q I b d h
 obtain⟨i,j,rfl,rfl,e,q⟩:=h
 obtain⟨t,rfl⟩:=b
 obtain⟨c,rfl⟩:=d
 exact add_str (λc f=>⟨.str (i++j),H,I.tok _,⟨_,rfl⟩,q⟩) e
def Ve {a:zx}(r:yp [x] a):∃ u,a=[u]/\yZ x u:=by
 cases r with
 | cons c b=>cases b;exact⟨_,rfl,c⟩
def zlq {a:zx}(r:yp [x,y] a):∃ u b,a=[u,b]/\yZ x u/\yZ y b:=by
 cases r with
 | cons e d =>
  cases d with
  | cons f c=>cases c;exact⟨_,_,rfl,e,f⟩
def zg8 (d:X.calm=true):Yh X (.builtin "max") (λc H Q=>∃ i j,c=[.int i,.int j]/\Q (.int (if j>i then j else i)) H):=by
 intro b s σ H c f Q I r h
 obtain⟨i,j,rfl,q⟩:=h
 obtain⟨u,l,rfl,⟨t,rfl⟩,⟨g,rfl⟩⟩:=zlq r
 refine max_two_ints (I.ok.hd d) λe m k=>⟨_,H,I.kept k,?_,q⟩
 by_cases a:j>i
 .rw[t9 a,t9 a];exact⟨_,rfl⟩
 .rw[j5 a,j5 a];exact⟨_,rfl⟩
def zgN (d:X.calm=true):Yh X (.builtin "min") (λc H Q=>∃ i j,c=[.int i,.int j]/\Q (.int (if j<i then j else i)) H):=by
 intro b s σ H c f Q I r h
 obtain⟨i,j,rfl,q⟩:=h
 obtain⟨u,l,rfl,⟨t,rfl⟩,⟨g,rfl⟩⟩:=zlq r
 refine min_two_ints (I.ok.hd d) λe m k=>⟨_,H,I.kept k,?_,q⟩
 by_cases a:j<i
 .rw[t9 a,t9 a];exact⟨_,rfl⟩
 .rw[j5 a,j5 a];exact⟨_,rfl⟩
def Yy:Yh X (.type "str") (λa H Q=>∃ i,a=[.int i]/\i.natAbs.log2<1920/\Q (.str (toString i)) H):=by
 intro b s σ H a d Q I r h
 obtain⟨i,rfl,c,q⟩:=h
 obtain⟨u,rfl,t,rfl⟩:=Ve r
 exact PySem.P.str_of_int c ⟨.str _,H,I.tok _,⟨_,rfl⟩,q⟩
end
structure zmA (h:Heap) (x dx C:Addr) (mA:wc):Prop where
 obj:h.get? x=some (W.instObj C dx)
 ns:h.Ns1 dx mA
 ne:dx≠x
def zgx {h:Heap}{f:Addr}{g:wc}(n:h.Ns1 f g):∃ d,h.get? f=some d/\∀ b,W.lookIn b d=some (g b):=by
 obtain⟨o,i,s,l,k,m,_,r⟩:=n
 refine⟨o,l,λb=>?_⟩
 have e:=r b
 unfold nsFind findBy at e
 rw[<-Array.find?_toList]at e
 unfold W.lookIn
 rw[k]
 dsimp only
 split
 .rename_i y q
  rw[q]at e
  exact u0z some e
 .rename_i q
  rw[q]at e
  have a:i.toList.any (·.refKey)=false:=by
   rw[List.any_eq_false]
   intro y j
   obtain⟨z,t,c⟩:=m y (Array.mem_toList_iff.mp j)
   simp[DictEntry.refKey,c]
  have p:¬ i.toList.any (·.refKey)=true:=by rw[a];exact u7
  rw[j5 p]
  exact u0z some e
def zmA.look {d:wc}(I:zmA h x c C d):∃ b,PySem.W.InstAt h x (W.instObj C c) C (some b)/\∀ a,W.lookIn a b=some (d a) :=
 let ⟨b,ho,hl⟩:=zgx I.ns
 ⟨b,⟨I.obj,rfl,rfl,ho⟩,hl⟩
section
variable {prog:zO}{w:World}{A:zM}{E:yT}{s:zm}{K:zu}{x dx C f:Addr}{mA:wc}{name:Str}{v:Value}
def zme {Q:yT}(X:K.In s.heap)(I:zmA s.heap x dx C mA)(c:W.plainGet K C name=true)(e:W.hasDictIn K C=true)(g:W.findIn K (.ref C) name=some none)(f:mA name=some v)(b:W.handedIn v=true)(h:Q v { s with toks:=s.toks+1 }) :
 wpAny (model prog w) A (getAttr (.ref x) name a) Q E s:=by
 obtain⟨i,J,d⟩:=I.look
 exact W.get_value X J (u13 c).1 (W.findObj_own e g rfl (by rw[d,f])) b h
def zj2 {pl:Sem Bool}{Q:Value × zx->Shared->Prop}(X:K.In s.heap)(I:zmA s.heap x dx C mA)(a:W.plainGet K C name=true)
 (g:W.findIn K (.ref C) name=some (some (.ref f))) (e:W.isFn K (.ref f)=true) (d:mA name=none) (h:Q (.ref f,[.ref x]) s) :
 wpAny (model prog w) A (getMethod (.ref x) name pl) Q E s:=by
 obtain⟨b,J,c⟩:=I.look
 exact W.method_fn X J (u13 a).1 (u13 a).2 g (u0g.mp e) (by show(W.lookIn name b).map (·.isSome)=some false;rw[c,d];rfl) h
def zmM {ns:zD}{Q:Unit->Shared->Prop}(X:K.In s.heap)(I:zmA s.heap x dx C mA)
 (k:W.findIn K (.ref C) "__setattr__"=some (some (.builtin "object.__setattr__"))) (n:W.plainOver K C=true) (o:W.takerIn K C name=some none) (m:W.hasDictIn K C=true)
 (hw:PySem.Within mA ns) (u:ns.length<=sizeLine)
 (h:∀ e,zmA e x dx C (λy=>if y=name then some v else mA y)->Heap.SameBut dx s.heap e->Q () { s with heap:=e,toks:=s.toks+2 }) :
 wpAny (model prog w) A (setAttr (.ref x) name v) Q E s:=by
 obtain⟨z,J,B⟩:=I.look
 refine W.set_plain X J k (W.osa_open (s:={ s with toks:=s.toks+1 }) (r:=none) X J n o λb=>?_)
 obtain⟨D,t,f⟩:=W.any_some m
 have l:s.heap.get? x=some ⟨.ref C,some dx,.plain,#[]⟩:=I.obj
 refine u5 (t5 (u5 (u5 (wpAny_loadPart l (u5 (PySem.W.Looks.here (s:={ s with toks:=s.toks+1 }) (u12 X t) ?_))))))
 rw[f]
 refine t5 (a:=some dx) (u5 (t5 (u5 ?_)))
 refine wpAny_nsSet1 (s:={ s with toks:=s.toks+1 }) I.ns λe c d=>?_
 obtain⟨F,q,p,g,i,j⟩:=c.count (PySem.Within.cons name v hw)
 refine u5 (wpAny_lookBehind g (by rw[i];exact pastItsLine_dict (n0 j (by rw[o4];omega))) ?_)
 exact t5 (h _ ⟨(d.2 _ (u0k I.ne)).trans I.obj,c,I.ne⟩ d)
def ziE (X:K.In s.heap) (j:W.makesIn K C=true) (e:W.findIn K (.ref C) "__init__"=some (some (.ref f))) (i:W.typeIn K (.ref f)=some (.type "function")) (h:codeAny (model prog w) (A.under (.builtin "type.__call__" ⟨.ref C::c,b⟩)) (.call (.ref f) ⟨.ref (s.heap.objs.size+1)::c,b⟩) (PySem.W.InitBack (s.heap.objs.size+1) R)
 { s with heap:=(s.heap.push W.emptyDict).push (W.instObj C s.heap.objs.size) }) :
 codeAny (model prog w) A (.call (.ref C) ⟨c,b⟩) R s:=by
 obtain⟨k,g,d,t,os⟩:=s
 exact W.make_core (W.makes_of X j) (W.looks_findIn X e) (λa=>W.bind_fn X a i) (.inl rfl) h
end
def VV (f:Str)(v:V):List (Str × V)->List (Str × V)
 | []=>[(f,v)]
 | (g,x)::r=>if g=f then (g,v)::r else (g,x)::VV f v r
def WO (f g:Str)(v:V):∀ c:List (Str × V),(VV f v c).lookup g=if g=f then some v else c.lookup g
 | []=>by
  show List.lookup g [(f,v)]=_
  by_cases h:g=f
  .have a:(g == f)=true:=u0g.mpr h
   simp only[List.lookup,a,t9 h]
  .have a:(g == f)=false:=g6.mpr h
   simp only[List.lookup,a,j5 h]
 | (k,x)::r=>by
  have d:=WO f g v r
  rw[show VV f v ((k,x)::r)=(if k=f then (k,v)::r else (k,x)::VV f v r)from rfl]
  by_cases b:k=f
  .rw[t9 b]
   by_cases h:g=k
   .have a:(g == k)=true:=u0g.mpr h
    simp only[List.lookup,a,t9 (h.trans b)]
   .have a:(g == k)=false:=g6.mpr h
    simp only[List.lookup,a,j5 (λe:g=f=>h (e.trans b.symm))]
  .rw[j5 b]
   by_cases h:g=k
   .have a:(g == k)=true:=u0g.mpr h
    simp only[List.lookup,a,j5 (λe:g=f=>b (h.symm.trans e))]
   .have a:(g == k)=false:=g6.mpr h
    simp only[List.lookup,a]
    exact d
def Wp (f:Str)(v:V):∀ b:List (Str × V),f∈(VV f v b).map (·.1)/\∀ g,g∈b.map (·.1)->g∈(VV f v b).map (·.1)
 | []=>⟨by simp[VV],λg h=>by simp at h⟩
 | (k,x)::r=>by
  obtain⟨c,d⟩:=Wp f v r
  rw[show VV f v ((k,x)::r)=(if k=f then (k,v)::r else (k,x)::VV f v r)from rfl]
  by_cases a:k=f
  .rw[t9 a]
   subst a
   exact⟨by simp,λg h=>by simpa using h⟩
  .rw[j5 a]
   refine⟨?_,λg h=>?_⟩
   .rw[o7]
    exact r9 _ c
   .rw[o7]at h ⊢
    rcases j9.mp h with e | e
    .exact j9.mpr (.inl e)
    .exact r9 _ (d g e)
def X9 (f:Str)(v:V):∀ b:List (Str × V),(VV f v b).length<=b.length+1
 | []=>by simp[VV]
 | (k,x)::r=>by
  have c:=X9 f v r
  rw[show VV f v ((k,x)::r)=(if k=f then (k,v)::r else (k,x)::VV f v r)from rfl]
  by_cases a:k=f
  .rw[t9 a,o4,o4];omega
  .rw[j5 a,o4,o4];omega
def zca.some_of (r:zca (some v) o):∃ u,o=some u/\yZ v u:=by
 cases o with
 | none=>exact(show False from r).elim
 | some u=>exact⟨u,rfl,r⟩
def zca.none_of (r:zca none o):o=none:=by
 cases o with
 | none=>rfl
 | some u=>exact(show False from r).elim
def zfp (r:yZ v u):W.handedIn u=true:=by
 cases v with
 | non=>cases (show u=Value.none from r);rfl
 | bl b=>cases (show u=Value.bool b from r);rfl
 | int i=>obtain⟨t,e⟩:=(show ∃ t,u=Value.int i t from r);cases e;rfl
 | str x=>obtain⟨t,e⟩:=(show ∃ t,u=Value.str x t from r);cases e;rfl
 | byt b=>obtain⟨t,e⟩:=(show ∃ t,u=Value.bytes b t from r);cases e;rfl
 | flt b=>obtain⟨t,e⟩:=(show ∃ t,u=Value.float b t from r);cases e;rfl
 | ref a=>cases (show u=Value.ref a from r);rfl
 | ty n=>cases (show u=Value.type n from r);rfl
section
variable {P:zO}{w:World}{H H':Hp}{h h':Heap}{a C dx:Addr}{fs fs':List (Str × V)}
def VP (c:HOk P w H h)(e:H a=some (.ins C dx fs)):∃ b,zmA h a dx C b/\(∀ f,zca (fs.lookup f) (b f))/\PySem.Within b (fs.map (·.1))/\fs.length<=1000/\H dx=some (.own a):=by
 obtain⟨d,z,g,i,b,n,r,q⟩:=(show yK P w H h a (.ins C dx fs)from c a _ e)
 exact⟨b,⟨i,n,g⟩,r,q,z,d⟩
end
structure Cls (K:zu) (C:Addr):Prop where
 pg:W.plainGet K C Str.empty=true
 hd:W.hasDictIn K C=true
 po:W.plainOver K C=true
 sa:W.findIn K (.ref C) "__setattr__"=some (some (.builtin "object.__setattr__"))
def Cls.get {K:zu}{C:Addr}(c:Cls K C)(f:Str):W.plainGet K C f=true:=c.pg
def Yc (K:zu)(C:Addr)(f:Str):Prop:=W.findIn K (.ref C) f=some none
def Yc.taker {K:zu}{C:Addr}{f:Str}(n:Yc K C f):W.takerIn K C f=some none:=by
 unfold W.takerIn
 rw[show W.findIn K (.ref C) f=some none from n]
 rfl
structure zeK (K:zu) (C:Addr) (m:Str) (f:Addr):Prop where
 at_:W.findIn K (.ref C) m=some (some (.ref f))
 fn:W.isFn K (.ref f)=true
 kp:W.keepIn K (.ref f)=true
section
variable {X:Cx}{pins:xp}{σ:St}{H:Hp}{s:zm}{a C dx:Addr}{fs:List (Str × V)}{f:Str}{v:V}{A:zM}{E:yT}
def zer {Q:yT}(I:Inv X pins σ H s)(e:H a=some (.ins C dx fs))(c:Cls X.K C)(n:Yc X.K C f)(l:fs.lookup f=some v)(h:∀ u g,Inv X pins σ H g->yZ v u->Q u g):wpAny (model X.prog X.w) A (getAttr (.ref a) f b) Q E s:=by
 obtain⟨j,O,r,_,_,_⟩:=VP I.hok e
 obtain⟨u,i,d⟩:=zca.some_of (v:=v) (o:=j f) (by rw[<-l];exact r f)
 exact zme I.kIn O (c.get f) c.hd n i (zfp d) (h u _ (I.tok _) d)
def Vt {g:Addr}{pl:Sem Bool}{Q:Value × zx->Shared->Prop}(I:Inv X pins σ H s)(e:H a=some (.ins C dx fs))(c:Cls X.K C)(k:zeK X.K C m g)(l:fs.lookup m=none)(h:Q (.ref g,[.ref a]) s):wpAny (model X.prog X.w) A (getMethod (.ref a) m pl) Q E s:=by
 obtain⟨b,O,r,_,_,_⟩:=VP I.hok e
 have d:b m=none:=zca.none_of (by rw[<-l];exact r m)
 exact zj2 I.kIn O (c.get m) k.at_ k.fn d h
def zd6 {Q:Unit->Shared->Prop}(I:Inv X pins σ H s)(e:H a=some (.ins C dx fs))(c:Cls X.K C)(n:Yc X.K C f)(D:fs.length<1000)(t:yZ y u)(h:∀ k,Inv X pins σ (upd H a (.ins C dx (VV f y fs))) k->Q () k):wpAny (model X.prog X.w) A (setAttr (.ref a) f u) Q E s:=by
 obtain⟨j,O,r,i,_,d⟩:=VP I.hok e
 have B:(fs.map (·.1)).length<=sizeLine:=by rw[t4,u0G];omega
 refine zmM I.kIn O c.sa c.po n.taker c.hd i B λw O' p=>h _ ?_
 have m:∃ o,w.get? dx=some o:=let ⟨o,_,_,e',_⟩:=O'.ns;⟨o,e'⟩
 refine I.write (x:=a) (e:=dx) (by rw[e];exact True.intro) (.inr d) (λb q v z=>(p.2 b v).trans z) m ?_
 refine⟨by rw[zf O.ne];exact d,?_,O.ne,O'.obj,_,O'.ns,λg=>?_,λg l=>?_⟩
 .have:=X9 f y fs;omega
 .show zca ((VV f y fs).lookup g) (if g=f then some u else j g)
  rw[WO]
  by_cases q:g=f
  .rw[t9 q,t9 q];exact t
  .rw[j5 q,j5 q];exact r g
 .by_cases q:g=f
  .rw[q];exact(Wp f y fs).1
  .refine(Wp f y fs).2 g (i g λz=>l ?_)
   show(if g=f then some u else j g)=none
   rw[j5 q];exact z
def Inv.made (I:Inv X pins σ H s):Inv X pins σ (upd (upd H s.heap.objs.size (.own (s.heap.objs.size+1))) (s.heap.objs.size+1) (.ins C s.heap.objs.size []))
 { s with heap:=(s.heap.push W.emptyDict).push (W.instObj C s.heap.objs.size) }:=by
 have d:(s.heap.push W.emptyDict).get? s.heap.objs.size=some W.emptyDict:=k9 s.heap rfl
 have f:((s.heap.push W.emptyDict).push (W.instObj C s.heap.objs.size)).get? (s.heap.objs.size+1)=some (W.instObj C s.heap.objs.size):=by
  have:=k9 (s.heap.push W.emptyDict) (o:=W.instObj C s.heap.objs.size) rfl
  rwa[u0c]at this
 have i:(s.heap.push W.emptyDict).Ns s.heap.objs.size (λ_=>none):=⟨W.emptyDict,#[],_,d,rfl,(λe h=>absurd h (by simp)),λ_=>rfl⟩
 have I1:=I.laid (a:=s.heap.objs.size) (o:=.own (s.heap.objs.size+1)) (h':=s.heap.push W.emptyDict) (t':=s.toks) (λb u q=>u8 _ q) (t6 _) ⟨_,d⟩
 refine I1.laid (a:=s.heap.objs.size+1) (o:=.ins C s.heap.objs.size []) (t':=s.toks) (λb u q=>u8 _ q) (Nat.le_of_eq (u0c _ _)) ?_
 have c:s.heap.objs.size≠s.heap.objs.size+1:=r0 (u07 _)
 refine⟨by rw[zf c,zd],p9 _,c,f,λ_=>none,(Heap.Ns1.of_empty i).at λo q=>u8 _ q,λ_=>True.intro,λy g=>absurd rfl g⟩
def zmp {a:zO}{w:World}{f:Str}{s:zm}(c:attributeBase e f env (eval e env)=eval e env)(h:wpAny (model a w) A (eval e env) (λo d=>wpAny (model a w) A (getAttr o f true) Q E d) E s):wpAny (model a w) A (eval (.Attribute e f b) env) Q E s :=
 Attribute_any_ h (by rw[arm_eval_Attribute,c])
end
def tFld (K:zu)(d:TE)(f:Str):TE:=fun σ H Q=>d σ H λx H1=>∃ a C c b v,x=.ref a/\H1 a=some (.ins C c b)/\Cls K C/\Yc K C f/\b.lookup f=some v/\Q v H1
def zpT (K:zu)(e d:TE)(f:Str):TS:=λD σ H=>d σ H λy H1=>e σ H1 λx H2=>∃ a C c b,x=.ref a/\H2 a=some (.ins C c b)/\Cls K C/\Yc K C f/\b.length<1000 /\
 D.nx σ (upd H2 a (.ins C c (VV f y b)))
section
variable {X:Cx}{o e value:Expr}{f:Str}{pos pos' tpos:Pos}{ta tv:TE}
def zbp (i:PE X e ta)(g:attributeBase e f X.env (eval e X.env)=eval e X.env):PE X (.Attribute e f pos) (tFld X.K ta f):=by
 intro b s σ H Q I h
 refine zmp g (thn (i b s σ H _ I h) λu t hh9=>?_)
 obtain⟨x,H1,I1,d,a,C,p,m,v,ex,k,c,n,l,q⟩:=hh9
 subst ex
 obtain rfl:u=Value.ref a:=d
 exact zer I1 k c n l λr o I2 j=>⟨v,H1,I2,j,q⟩
def zbw (g:PE X o ta)(k:PE X value tv)(d:swapsWith value (some (.Attribute o f pos')) pos.line X.env=pure false):PS X (.Assign [.Attribute o f pos'] value pos) (zpT X.K ta tv f):=by
 intro b s σ H D I h
 refine u1z (thn (k b s σ H _ I h) λu m ⟨y,H1,I1,p,q⟩=>thn (g b m σ H1 _ I1 q) λj w hh9=>?_) d
 obtain⟨x,H2,I2,e,a,C,z,t,ex,r,c,n,l,i⟩:=hh9
 subst ex
 obtain rfl:j=Value.ref a:=e
 exact zd6 I2 r c n l p λv I3=>⟨σ,_,I3,i⟩
end
section
variable {X:Cx}{pins:xp}{σ:St}{H:Hp}{s:zm}{A:zM}{E:yT}{Q:yT}{c:Value}{b:Bool}
inductive zdI (K:zu) (H:Hp):V->Value->Prop where
 | non:zdI K H .non (.type "NoneType")
 | bl (x:Bool):zdI K H (.bl x) (.type "bool")
 | int (i:Int):zdI K H (.int i) (.type "int")
 | str (x:Str):zdI K H (.str x) (.type "str")
 | flt (x:UInt64):zdI K H (.flt x) (.type "float")
 | lst {a:Addr} {xs:zw} (e:H a=some (.lst xs)):zdI K H (.ref a) (.type "list")
 | frz {a:Addr} {o:Obj} {xs:zw} (e:H a=some (.frz o (.lst xs))):zdI K H (.ref a) (.type "list")
 | tup {a:Addr} {xs:zw} (e:H a=some (.tup xs)):zdI K H (.ref a) (.type "tuple")
 | dK {a:Addr} {kvs:List (Key × V)} (e:H a=some (.dK kvs)):zdI K H (.ref a) (.type "dict")
 | dT {a:Addr} {kvs:zad} (e:H a=some (.dT kvs)):zdI K H (.ref a) (.type "dict")
 | ins {a C dx:Addr} {fs:List (Str × V)} (e:H a=some (.ins C dx fs)) (cl:Cls K C) (ha:W.findIn K (.ref C) "__class__"=some (some (.builtin "object.__class__")))
  (hn:W.specialIn K (.builtin "object.__class__") "__get__"=some (some (.builtin "getset_descriptor.__get__"))) (htk:W.takesIn K (.builtin "object.__class__")=some true)
  (hm:W.mroIn K C (.type "object")=some true):zdI K H (.ref a) (.ref C)
def zho {t:Value}(I:Inv X pins σ H s)(f:yZ x u)(ty:zdI X.K H x t)(e:W.kitOne X.K t c=some b)(h:∀ D,Q (.bool b) { s with toks:=D }) :
 wpAny (model X.prog X.w) A (call (.builtin "isinstance") [u,c]) Q E s:=by
 cases ty with
 | non=>cases (show u=Value.none from f);exact l6 W.kitx_none I.kIn True.intro e (λz=>nomatch z) h
 | bl y=>cases (show u=Value.bool y from f);exact l6 W.kitx_bool I.kIn True.intro e (λz=>nomatch z) h
 | int i=>obtain⟨t,q⟩:=(show ∃ t,u=Value.int i t from f);cases q;exact l6 W.kitx_int I.kIn True.intro e (λz=>nomatch z) h
 | str y=>obtain⟨t,q⟩:=(show ∃ t,u=Value.str y t from f);cases q;exact l6 W.kitx_str I.kIn True.intro e (λz=>nomatch z) h
 | flt y=>obtain⟨t,q⟩:=(show ∃ t,u=Value.float y t from f);cases q;exact l6 W.kitx_float I.kIn True.intro e (λz=>nomatch z) h
 | @lst a k d =>
  cases (show u=Value.ref a from f)
  obtain⟨_,_,n,_,g⟩:=(show yK X.prog X.w H s.heap a (.lst k)from I.hok a _ d)
  exact l6 W.kitx_list I.kIn ⟨_,g,rfl⟩ e (λz=>nomatch z) h
 | @frz a G k d =>
  cases (show u=Value.ref a from f)
  obtain⟨_,_,_,n,_,g⟩:=(show yK X.prog X.w H s.heap a (.frz G (.lst k))from I.hok a _ d)
  exact l6 W.kitx_list I.kIn ⟨_,g,rfl⟩ e (λz=>nomatch z) h
 | @tup a k d =>
  cases (show u=Value.ref a from f)
  obtain⟨_,_,_,p⟩:=(show yK X.prog X.w H s.heap a (.tup k)from I.hok a _ d)
  obtain⟨o,g,l,_⟩:=p
  exact l6 W.kitx_tuple I.kIn ⟨o,g,l⟩ e (λz=>nomatch z) h
 | @dK a j d =>
  cases (show u=Value.ref a from f)
  obtain⟨_,_,N,_,p⟩:=(show yK X.prog X.w H s.heap a (.dK j)from I.hok a _ d)
  obtain⟨o,F,B,g,l,_⟩:=p
  exact l6 u1y I.kIn ⟨o,g,l.1⟩ e (λz=>nomatch z) h
 | @dT a j d =>
  cases (show u=Value.ref a from f)
  obtain⟨_,_,k,_,o,F,B,g,l,_⟩:=(show yK X.prog X.w H s.heap a (.dT j)from I.hok a _ d)
  exact l6 u1y I.kIn ⟨o,g,l.1⟩ e (λz=>nomatch z) h
 | @ins a C P M d r w v m K =>
  cases (show u=Value.ref a from f)
  obtain⟨R,O,_⟩:=VP I.hok d
  obtain⟨L,J,_⟩:=O.look
  exact l6 (W.kitx_own (r.get _) r.hd w v m K) I.kIn J e (λz=>nomatch z) h
end
structure yY (k:Nat) (A:zM):Prop where
 hd:A.handled=none
 dp:A.depth+3*k+5<recursionLimit
 un:A.units+16*k+200<cLine
def yY.mono {j k:Nat}(r:yY k A)(h:j<=k):yY j A:=⟨r.hd,by have:=r.dp;omega,by have:=r.un;omega⟩
def yY.deeper {k:Nat}{A:zM}(r:yY (k+1) A)(env:Env):yY k (A.deeper env) :=
 ⟨r.hd,by have:=r.dp;show A.depth+1+3*k+5<_;omega,by have:=r.un;show A.units+3+16*k+200<_;omega⟩
def zdU {A:zM}:(A.under (.builtin "type.__call__" ⟨.ref C::a,b⟩)).depth=A.depth+1:=by
 first | rfl | simp[Around.under,Code.weight,Code.isCreation,Code.isGuard,Code.isCaller,Code.frames,Code.isFrame,guardIds]
def zeh {A:zM}:(A.under (.builtin "type.__call__" ⟨.ref C::a,b⟩)).units=A.units+1:=by
 first | rfl | simp[Around.under,Code.cUnits,Code.frames,Code.isFrame]
def yY.make {k:Nat} {A:zM} (r:yY (k+1) A) (C:Addr) (a:zx) (b:List (Str × Value)):yY k (A.under (.builtin "type.__call__" ⟨.ref C::a,b⟩)) :=
 ⟨r.hd,by have:=r.dp;rw[zdU];omega,by have:=r.un;rw[zeh];omega⟩
def yY.depth {k:Nat}{A:zM}(r:yY k A):A.depth<recursionLimit:=by have:=r.dp;omega
def yY.units {k:Nat}{A:zM}(r:yY k A):A.units+64<cLine:=by have:=r.un;omega
def yY.units0 {k:Nat}{A:zM}(r:yY k A):A.units<cLine:=by have:=r.un;omega
def we:TA:=λ_ H Q=>Q [] H
def yc (c:TE)(a:TA):TA:=fun σ H Q=>c σ H λx H1=>a σ H1 λb H2=>Q (x::b) H2
section
variable {X:Cx}{e:Expr}{es:yX}{te:TE}{t:TA}{pos:Pos}
def zU:PA X [] we:=λ_ _ _ _ H Q I h=>Calls.spliced_nil ⟨[],H,I,.nil,h⟩
def zl (c:PE X e te)(f:PA X es t)(b:starEach (e::es) X.env=(false,eval e X.env)::starEach es X.env:=by rfl):PA X (e::es) (yc te t):=by
 intro pos a s σ H Q I h
 rw[b]
 show wpAny _ _ (spliced ((false,eval e X.env)::backTo pos (starEach es X.env))) _ _ s
 refine u2a (thn (c a s σ H _ I h) λu j hh9=>?_)
 obtain⟨x,H1,I1,k,l⟩:=hh9
 exact thn (f pos a j σ H1 _ I1 l) λn m ⟨g,H2,I2,i,d⟩=>⟨x::g,H2,I2,.cons k i,d⟩
def tTup (t:TA):TE:=fun σ H Q=>t σ H λa H1=>a.length<=sizeLine/\∀ p,H1 p=none->Q (.ref p) (upd H1 p (.tup a))
def ZI (t:TA):TE:=fun σ H Q=>t σ H λa H1=>a.length<=sizeLine/\∀ p,H1 p=none->Q (.ref p) (upd H1 p (.lst a))
def zdL {x1}(h:PA X es t):PE X (.Tuple es x1 pos) (tTup t):=by
 intro a s σ H Q I i
 refine wpAny_Tuple_spliced (thn (h pos a s σ H _ I i) λf c ⟨g,H1,I1,r,z,q⟩=>⟨by rw[<-r.length];exact z,?_⟩)
 have d:H1 c.heap.objs.size=none:=I1.hok.fresh (t6 _)
 refine⟨.ref c.heap.objs.size,upd H1 c.heap.objs.size (.tup g),I1.laid (t':=c.toks) (λb u e=>u8 _ e) (t6 _) ?_,rfl,q _ d⟩
 exact⟨z,f,r,⟨_,k9 _ rfl,rfl,_,rfl⟩⟩
def vz (h:PA X es t):PE X (.List es pos) (ZI t):=by
 intro a s σ H Q I i
 refine wpAny_List_spliced (thn (h pos a s σ H _ I i) λf c ⟨g,H1,I1,r,z,q⟩=>⟨by rw[<-r.length];exact z,?_⟩)
 have d:H1 c.heap.objs.size=none:=I1.hok.fresh (t6 _)
 refine⟨.ref c.heap.objs.size,upd H1 c.heap.objs.size (.lst g),I1.laid (t':=c.toks) (λb u e=>u8 _ e) (t6 _) ?_,rfl,q _ d⟩
 exact⟨z,f,0,r,k9 _ rfl⟩
end
abbrev Sp:=zw->Hp->VK->XK->Prop
abbrev CXT:=List Env->Hp->Shared->XK->Value->Shared->Prop
structure zj7 (P:zO) (w:World) (K:zu) (mg:wc) (base:Heap) (A:zM) (outer:List Env) (s:zm) (H:Hp):Prop where
 frames:A.frames=some outer
 mod:Mod K mg base
 bs:∀ b o,base.get? b=some o->s.heap.get? b=some o/\H b=none
 bsz:base.objs.size<=s.heap.objs.size
 funs:s.heap.FunFrames base outer
 frf:∀ b∈frs outer,H b=none
 hok:HOk P w H s.heap
 bare:AllBare s.gens
def CE (outer:List Env)(P:zO)(w:World)(H:Hp)(s:zm)(Q:VK)(u:Value)(a:zm):Prop :=
 ∃ v H',a.os=s.os/\AllBare a.gens/\Un (frs outer) [] H H' s.heap a.heap/\HOk P w H' a.heap/\yZ v u/\Q v H'
def CR (CX:CXT)(outer:List Env)(P:zO)(w:World)(H:Hp)(s:zm)(Q:VK)(E:XK)(r:Result)(a:zm):Prop :=
 match r with
 | .ok (.ret u)=>CE outer P w H s Q u a
 | .ok _=>False
 | .error e=>CX outer H s E e a
structure xu (P:zO) (w:World) (K:zu) (mg:wc) (base:Heap) (CX:CXT) (k:Nat) (f:Addr) (fd:ww) (ps:zD) (sp:Sp):Prop where
 len:∀ vs H Q E,sp vs H Q E->vs.length=ps.length
 run:∀ (A:zM) (outer:List Env) (s:zm) (H:Hp) (args:Args) (us:zx) (vs:zw) (Q:VK) (E:XK),yY k A->zj7 P w K mg base A outer s H->BindsTo s fd args (ps.zip us)->yp vs us->sp vs H Q E ->
  codeAny (model P w) A (.call (.ref f) args) (CR CX outer P w H s Q E) s
def xu.mono {P:zO}{w:World}{K:zu}{b:wc}{a:Heap}{CX:CXT}{j k:Nat}{f:Addr}{c:ww}{ps:zD}{d:Sp}(F:xu P w K b a CX j f c ps d)(h:j<=k) :
 xu P w K b a CX k f c ps d:=⟨F.len,λA outer s H args e g Q E i=>F.run A outer s H args e g Q E (i.mono h)⟩
def xu.imp {P:zO}{w:World}{K:zu}{d:wc}{a:Heap}{CX:CXT}{k:Nat}{f:Addr}{g:ww}{e:zD}{i c:Sp}(F:xu P w K d a CX k f g e i)
 (h:∀ b H Q E,c b H Q E->i b H Q E):xu P w K d a CX k f g e c :=
 ⟨λb H Q E q=>F.len b H Q E (h _ _ _ _ q),λA outer s H args j b Q E o p n l m=>F.run A outer s H args j b Q E o p n l (h _ _ _ _ m)⟩
def zj7.make {P:zO}{w:World}{K:zu}{b:wc}{a:Heap}{A:zM}{outer:List Env}{s:zm}{H:Hp}(e:zj7 P w K b a A outer s H)(C:Addr)(c:zx)(d:List (Str × Value)) :
 zj7 P w K b a (A.under (.builtin "type.__call__" ⟨.ref C::c,d⟩)) outer s H:=⟨by first | exact e.frames | (simpa [Around.under,Code.envs,Code.isFrame,pushEnvs]using e.frames),e.mod,e.bs,e.bsz,e.funs,e.frf,e.hok,e.bare⟩
section
variable {X:Cx}{pins:xp}{σ:St}{H:Hp}{s s':zm}
def Inv.env0 (I:Inv X pins σ H s):zj7 X.prog X.w X.K X.mg X.base X.A X.stack s H :=
 ⟨I.ok.frames,I.ok.mod,I.bs,n0 I.ok.bsz I.sz,I.stack,I.stkFree,I.hok,I.bare⟩
def Inv.after (I:Inv X pins σ H s)(h:CE X.stack X.prog X.w H s Q u s'):EP X pins σ Q u s':=by
 obtain⟨v,H',os,a,i,e,r,q⟩:=h
 obtain⟨f,g,d,t,c⟩:=s'
 obtain rfl:c=s.os:=os
 exact⟨v,H',I.call (h':=f) (g':=g) (d':=d) (t':=t) (ch:=[]) i e a (λb z=>absurd z (by simp)),r,q⟩
end
def zfl (b:Sp)(a:zw)(E:XK)(t:TA):TE:=fun σ H Q=>t σ H λc H1=>b (c++a) H1 Q E
def zjU (C:Addr)(m:Str)(g:Sp)(b:zw)(E:XK)(e:TE)(t:TA):TE:=fun σ H Q=>e σ H λx H1=>∃ a f c,x=.ref a/\H1 a=some (.ins C f c)/\c.lookup m=none /\
 t σ H1 λd H2=>g (x::(d++b)) H2 Q E
def zbO (C:Addr)(d:Sp)(b:zw)(E:XK)(t:TA):TE:=fun σ H Q=>t σ H λc H1=>∀ x a,H1 x=none->H1 a=none->a≠x ->
 d (.ref x::(c++b)) (upd (upd H1 a (.own x)) x (.ins C a [])) (λv H2=>v=.non/\Q (.ref x) H2) E
def xh (K:zu)(d:ww)(c:zD)(b:zx):Prop :=
 ∀ (s:zm) (a:zx),K.In s.heap->(a++b).length=c.length->BindsTo s d ⟨a,[]⟩ (c.zip (a++b))
def xh.all {K:zu}{d:ww}{b:zD}(h:∀ a:zx,a.length=b.length->bindArgs d ⟨a,[]⟩=pure (b.zip a)):xh K d b []:=λs a _ c=>by
 rw[o5]at c ⊢
 exact .of_eq (h a c)
def wn (CX:CXT)(X:Cx)(E:XK):Prop:=∀ (a:xp) (σ:St) (H:Hp) (s:zm) (e:Value) (b:zm),Inv X a σ H s->CX X.stack H s E e b->X.xe e b
section
variable {X:Cx}{CX:CXT}{k:Nat}{f C:Addr}{fd:ww}{ps:zD}{sp:Sp}{dvs:zw}{ds:zx}{E:XK}{x m:Str}{p pos apos:Pos}{e o:Expr}{es:yX}{ta:TE}{t:TA}
def zhS (F:xu X.prog X.w X.K X.mg X.base CX k f fd ps sp)(m:yY k X.A)(j:xh X.K fd ps ds)(l:yp dvs ds)(d:wn CX X E)(I:Inv X a σ H s)(r:yp vs us)(h:sp (vs++dvs) H Q E):wpAny (model X.prog X.w) X.A (call (.ref f) us) (EP X a σ Q) X.xe s:=by
 have c:yp (vs++dvs) (us++ds):=r.append l
 have g:(us++ds).length=ps.length:=by rw[<-c.length];exact F.len _ _ _ _ h
 refine u1A (u1d (F.run X.A X.stack s H ⟨us,[]⟩ (us++ds) (vs++dvs) Q E m I.env0 (j s us I.kIn g) c h) λr n b=>?_)
 cases r with
 | error e=>exact d a σ H s e n I b
 | ok i =>
  cases i with
  | ret u=>exact I.after b
  | next=>exact False.elim b
  | brk=>exact False.elim b
  | cont=>exact False.elim b
def ZS (F:xu X.prog X.w X.K X.mg X.base CX k f fd ps sp)(m:yY k X.A)(d:Gl X x)(u:X.mg x=some (.ref f))(n:W.keepIn X.K (.ref f)=true)(i:xh X.K fd ps ds)(j:yp dvs ds)(g:wn CX X E)
 (l:PA X (e::es) t) (b:(x == ("__debug__":Str))=false:=by decide) (o:starEach (e::es) X.env=(false,eval e X.env)::starEach es X.env:=by rfl) (c:(backTo pos (starEach es X.env)).any (·.1)=false:=by rfl) :
 PE X (.Call (.Name x p) (e::es) [] pos) (zfl sp dvs E t):=by
 intro a s σ H Q I h
 refine u0E (vF I d u ?_ b)
 refine u1n (h₀:=X.base) I.ok.mod.kin n (thn (l pos a s σ H _ I h) λw y ⟨v,H1,I1,r,q⟩=>⟨I1.kIn,?_⟩) o c
 exact zhS F m i j g I1 r q
theorem Wf {pl:Sem Bool}(K:PE X o ta)(c:Cls X.K C)(n:zeK X.K C m f)(F:xu X.prog X.w X.K X.mg X.base CX k f fd ps sp)(J:yY k X.A)(G:xh X.K fd ps ds)(p:yp dvs ds)(D:wn CX X E)(w:PA X (e::es) t)
 (g:starEach (e::es) X.env=(false,eval e X.env)::starEach es X.env:=by rfl) (d:(backTo pos (starEach es X.env)).any (·.1)=false:=by rfl)
 (v:eval (.Call (.Attribute o m apos) (e::es) [] pos) X.env=(do
  let ov<-eval o X.env
  standAt apos.atName
  let (f,first)<-holding [ov] (getMethod ov m pl)
  callWith pos f first (backTo pos (starEach (e::es) X.env)) (backToKw pos (keywordEach [] X.env))):=by rfl) :
 PE X (.Call (.Attribute o m apos) (e::es) [] pos) (zjU C m sp dvs E ta t):=by
 intro b s σ H Q I h
 refine W.methodCall_KW (pl:=pl) (thn (K b s σ H _ I h) λu z hh9=>?_) v
 obtain⟨x,H1,I1,B,a,N,L,ex,A,l,q⟩:=hh9
 subst ex
 obtain rfl:u=Value.ref a:=B
 refine Vt I1 A c n l ?_
 refine u1n (first:=[.ref a]) (h₀:=X.base) I.ok.mod.kin n.kp (thn (w pos b z σ H1 _ I1 q) λi M ⟨j,H2,I2,r,y⟩=>⟨I2.kIn,?_⟩) g d
 exact zhS (us:=.ref a::i) (vs:=.ref a::j) F J G p D I2 (.cons rfl r) y
theorem zdS {pl:Sem Bool}(r:PE X o ta)(c:Cls X.K C)(d:zeK X.K C m f)(F:xu X.prog X.w X.K X.mg X.base CX k f fd ps sp)(p:yY k X.A)(i:xh X.K fd ps ds)(j:yp dvs ds)(g:wn CX X E)
 (n:eval (.Call (.Attribute o m apos) [] [] pos) X.env=(do
  let ov<-eval o X.env
  standAt apos.atName
  let (f,first)<-holding [ov] (getMethod ov m pl)
  callWith pos f first (backTo pos (starEach [] X.env)) (backToKw pos (keywordEach [] X.env))):=by rfl) :
 PE X (.Call (.Attribute o m apos) [] [] pos) (zjU C m sp dvs E ta we):=by
 intro b s σ H Q I h
 refine W.methodCall_KW (pl:=pl) (thn (r b s σ H _ I h) λu y hh9=>?_) n
 obtain⟨x,H1,I1,e,a,w,v,ex,t,l,q⟩:=hh9
 subst ex
 obtain rfl:u=Value.ref a:=e
 refine Vt I1 t c d l ?_
 exact W.callWith_K0 (first:=[.ref a]) I1.kIn d.kp (zhS (us:=[.ref a]) (vs:=[.ref a]) F p i j g I1 (.cons rfl .nil) q)
structure Mk (K:zu) (C f:Addr):Prop where
 makes:W.makesIn K C=true
 init:W.findIn K (.ref C) "__init__"=some (some (.ref f))
 fn:W.isFn K (.ref f)=true
 kp:W.keepIn K (.ref C)=true
def zjh {H:Hp}{Q:VK}{d:zw}(M:Mk X.K C f)(F:xu X.prog X.w X.K X.mg X.base CX k f fd ps sp)(q:yY (k+1) X.A)(n:xh X.K fd ps ds)(o:yp dvs ds)(j:wn CX X E)(I:Inv X a σ H s)(r:yp d us)(h:∀ x c,H x=none->H c=none->c≠x->sp (.ref x::(d++dvs)) (upd (upd H c (.own x)) x (.ins C c [])) (λv H2=>v=.non/\Q (.ref x) H2) E) :
 wpAny (model X.prog X.w) X.A (call (.ref C) us) (EP X a σ Q) X.xe s:=by
 have g:=h (s.heap.objs.size+1) s.heap.objs.size (I.hok.fresh (u1w _)) (I.hok.fresh (t6 _)) (r0 (u07 _))
 have I2:=Inv.made (C:=C) I
 have i:yp (V.ref (s.heap.objs.size+1)::(d++dvs)) (Value.ref (s.heap.objs.size+1)::(us++ds)):=.cons rfl (r.append o)
 have l:(Value.ref (s.heap.objs.size+1)::us++ds).length=ps.length:=by
  have e:=i.length
  rw[F.len _ _ _ _ g]at e
  exact e.symm
 refine u1A (ziE (f:=f) I.kIn M.makes M.init (u0g.mp M.fn) (u1d (F.run _ X.stack _ _ ⟨Value.ref (s.heap.objs.size+1)::us,[]⟩ (Value.ref (s.heap.objs.size+1)::(us++ds)) _ _ E (q.make C us [])
  (I2.env0.make C us []) (n _ (Value.ref (s.heap.objs.size+1)::us) I2.kIn l) i g) λr y b=>?_))
 cases r with
 | error e=>exact j a σ _ _ e y I2 b
 | ok m =>
  cases m with
  | ret u =>
   obtain⟨v,H',I3,p,t,w⟩:=I2.after b
   subst t
   exact⟨p,⟨V.ref (s.heap.objs.size+1),H',I3,rfl,w⟩⟩
  | next=>exact False.elim b
  | brk=>exact False.elim b
  | cont=>exact False.elim b
def V7 (M:Mk X.K C f)(F:xu X.prog X.w X.K X.mg X.base CX k f fd ps sp)(c:yY (k+1) X.A)(d:Gl X x)(j:X.mg x=some (.ref C))(g:xh X.K fd ps ds)(i:yp dvs ds)(e:wn CX X E)
 (a:(x == ("__debug__":Str))=false:=by decide):PE X (.Call (.Name x p) [] [] pos) (zbO C sp dvs E we):=by
 intro b s σ H Q I h
 refine u0E (vF I d j ?_ a)
 exact W.callWith_K0 I.kIn M.kp (zjh (us:=[]) M F c g i e I .nil h)
end
structure yz (N P:zD) (sc:Scope):Prop where
 kind:sc.kind=.function
 co:sc.isCoroutine=false
 gen:sc.isGenerator=false
 nd:N.Nodup
 pre:N.take P.length=P
 par:∀ x∈P,sc.names.lookup x=some .local\/sc.names.lookup x=some .cell
 nofree:∀ y∈sc.names,y.2≠.free
def zbt:∀ {a:List (Str × Value)} {m:wc},(∀ v,(x,v)∉a)->bindL b a m x=m x
 | [],_,_=>rfl
 | (n,v)::r,m,h=>by
  unfold bindL
  rw[zbt λw hw=>h w (r9 _ hw)]
  split
  .have:x≠n:=by rintro rfl;exact h v g3
   simp[this]
  .rfl
def zbM:∀ {a:List (Str × Value)} {m:wc},(∀ v,(x,v)∉a)->bindC b a m x=m x
 | [],_,_=>rfl
 | (n,v)::r,m,h=>by
  unfold bindC
  rw[zbM λw hw=>h w (r9 _ hw)]
  split
  .rfl
  .have:x≠n:=by rintro rfl;exact h v g3
   simp[this]
def zaS {a:Str->Option NameKind}:∀ {P:zD} {b:zx} {i:Nat} {m:wc},P.Nodup->P[i]?=some x->b[i]?=some v->a x=some .local ->
 bindL a (P.zip b) m x=some v
 | [],_,_,_,_,h,_,_=>by simp at h
 | _::_,[],_,_,_,_,h,_=>by simp at h
 | p::P,w::b,0,m,nd,h1,h2,hk=>by
  simp at h1 h2;subst h1;subst h2
  show bindL a ((p,w)::P.zip b) m p=_
  unfold bindL
  rw[zbt λv c=>(u1Z.mp nd).1 (u1j c).1,t9 hk]
  simp
 | p::P,w::b,i+1,m,nd,h1,h2,hk=>by
  show bindL a ((p,w)::P.zip b) m x=_
  unfold bindL
  exact zaS (i:=i) (u1Z.mp nd).2 (by simpa using h1) (by simpa using h2) hk
def zbJ {a:Str->Option NameKind}:∀ {P:zD} {b:zx} {i:Nat} {m:wc},P.Nodup->P[i]?=some x->b[i]?=some v->a x≠some .local ->
 bindC a (P.zip b) m x=some v
 | [],_,_,_,_,h,_,_=>by simp at h
 | _::_,[],_,_,_,_,h,_=>by simp at h
 | p::P,w::b,0,m,nd,h1,h2,hk=>by
  simp at h1 h2;subst h1;subst h2
  show bindC a ((p,w)::P.zip b) m p=_
  unfold bindC
  rw[zbM λv c=>(u1Z.mp nd).1 (u1j c).1,j5 hk]
  simp
 | p::P,w::b,i+1,m,nd,h1,h2,hk=>by
  show bindC a ((p,w)::P.zip b) m x=_
  unfold bindC
  exact zbJ (i:=i) (u1Z.mp nd).2 (by simpa using h1) (by simpa using h2) hk
def start (N:zD)(a:zw):St:=a.map some++List.replicate (N.length-a.length) none
def vi (CX:CXT)(P:zO)(w:World)(K:zu)(mg:wc)(base:Heap)(N:zD)(qual:Str)(scope:Scope)(f:Addr)(cd:Value)(A:zM)(outer:List Env)(s:zm)(H:Hp)(E:XK):Cx where
 prog:=P
 w:=w
 K:=K
 mg:=mg
 base:=base
 A:=A.deeper (envOfC qual scope s.heap.objs.size f cd)
 N:=N
 s₀:=s
 H₀:=H
 env:=envOfC qual scope s.heap.objs.size f cd
 outer:=outer
 stack:=envOfC qual scope s.heap.objs.size f cd::outer
 ex:=[]
 calm:=true
 fn:=λ_=>true
 pn:=[]
 xe:=λe s'=>wpAny (model P w) (A.deeper (envOfC qual scope s.heap.objs.size f cd)) (leaving (envOfC qual scope s.heap.objs.size f cd) e) (λ_ s''=>CX outer H s E e s'') (λe' s''=>CX outer H s E e' s'') s'
def zdi {sc:Scope}(h:sc.names.lookup x=some .cell):∃ c,(cellsFrom n sc.names []).lookup x=some c:=by
 have q:=u0S sc.names n [] (.inl h)
 exact u2v.mp q
def Wo {CX:CXT}{P:zO}{w:World}{K:zu}{L:wc}{l:Heap}{N B:zD}{g:Str}{d:Scope}{f:Addr}{G:Value}{A:zM}{outer:List Env}{s R:zm}{H:Hp}{E:XK}{M:zx}{C:zw}
 (S:yz N B d) (T:A.handled=none) (m:zj7 P w K L l A outer s H) (Z:C.length=B.length) (r:yp C M)
 (x:InCallC s s.heap.objs.size (bindL (envOfC g d s.heap.objs.size f G).kindOf (B.zip M) λ_=>none) (cellsFrom (s.heap.objs.size+1) d.names []) (bindC (envOfC g d s.heap.objs.size f G).kindOf (B.zip M) λ_=>none) R) :
 Inv (vi CX P w K L l N g d f G A outer s H E) [] (start N C) H R:=by
 have U:B.length<=N.length:=by have:=u0z List.length S.pre;rw[u0q]at this;omega
 obtain⟨I,tk,rfl,Q⟩:=x.done
 have t:∀ b:Addr,b∉(vi CX P w K L l N g d f G A outer s H E).ex:=λb z=>absurd (show b∈([]:xX)from z) (by simp)
 refine⟨⟨m.mod,S.kind,rfl,rfl,t6 _,λy z c I j=>?_,λy o=>?_,λy c _ h=>?_,λ_=>T,Around.frames_deeper m.frames,.inr ⟨rfl,rfl⟩,λb z=>absurd z (t b),m.bs,m.bsz,λb _ _=>t b,λb z=>absurd z (t b),m.funs,m.frf⟩,
  rfl,m.bare,Un.kept Q,⟨_,x.toInCall.ns,λi y v I j Y=>?_⟩,λy c h=>⟨_,x.cell y c h⟩,m.hok.fresh (t6 _),λy c h=>?_,λp D=>absurd (show p∈([]:xp)from D) (by simp),m.hok.kept Q,?_⟩
 .exact name_of_addr x.apart (i9 I) (i9 j)
 .have o:d.names.lookup y=some .cell\/d.names.lookup y=some .free:=o
  rcases o with o | o
  .exact zdi o
  .exact absurd rfl (S.nofree _ (i9 o))
 .exact m4 (x.above y c (i9 h))
 .have J:i<C.length:=by
   unfold start at j
   by_cases J:i<C.length
   .exact J
   .rw[g9 (by simpa using J)]at j
    rw[u0d]at j
    split at j <;> cases j
  have W:C[i]?=some v:=by
   unfold start at j
   rw[g0 (by simpa using J),r8]at j
   cases e:C[i]? with
   | none=>rw[e]at j;cases j
   | some a=>rw[e]at j;cases j;rfl
  obtain⟨u,O,X⟩:=r.get W
  have D:B[i]?=some y:=by
   rw[<-S.pre,List.getElem?_take_of_lt (by omega)];exact I
  have F:B.Nodup:=by rw[<-S.pre];exact S.nd.sublist (List.take_sublist _ _)
  refine⟨u,X,?_⟩
  rcases S.par y (f8 D)with k | k
  .exact .inl ⟨k,zaS F D O k⟩
  .obtain⟨c,e⟩:=zdi (n:=s.heap.objs.size+1) k
   refine .inr ⟨.inl k,c,e,?_⟩
   have q:=x.cell y c e
   rw[zbJ F D O (by show d.names.lookup y≠_;rw[k];decide)]at q
   exact q
 .exact m.hok.fresh (m4 (x.above y c (i9 h)))
 .unfold start
  show _=N.length
  rw[j7,t4,List.length_replicate]
  omega
def zok {w:World}{K:zu}{k:Nat}{f:Addr}{g:Arguments}{kV d:Value}{N M:zD}{U:Sp}(lk:K.lookup f=some ⟨oc,od,.func (PySem.W.fnOf l c g i a Y kV F pm an d ct),W⟩)(O:PySem.W.codeIn K d c=true)(S:yz N M a)(B:∀ j H Q E,U j H Q E->j.length=M.length) (m:∀ (A:zM) (outer:List Env) (s:zm) (H:Hp) (j:zw) (Q:VK) (E:XK),yY k (A.deeper (envOfC c a s.heap.objs.size f d))->U j H Q E ->
 ∃ t,PSs (vi CX P w K G h N c a f d A outer s H E) i t/\t { nx:=λ_ H'=>Q .non H',rt:=Q } (start N j) H) :
 xu P w K G h CX (k+1) f (PySem.W.fnOf l c g i a Y kV F pm an d ct) M U:=by
 refine⟨B,λA outer s H args us j Q E T C hb r D=>?_⟩
 have hl:=B _ _ _ _ D
 have KX:K.In s.heap:=C.mod.kin.keeps λb o e=>(C.bs b o e).1
 have lim:s.heap.NoLimit:=C.mod.nolimit.keeps λb o e=>(C.bs b o e).1
 have p:∀ y∈M.zip us,a.names.lookup y.1=some .local\/(a.names.lookup y.1=some .cell/\((cellsFrom (s.heap.objs.size+1) a.names []).lookup y.1).isSome=true):=λ⟨n,v⟩ hy=>by
  rcases S.par n (u1j hy).1 with q | q
  .exact .inl q
  .exact .inr ⟨q,u0S _ _ _ (.inl q)⟩
 refine u1H T.depth (KX _ _ lk) rfl S.co S.gen rfl (u2h KX O) (hb _ _ _ _ ?_)
 refine wpAny_newFunctionEnv_cells S.kind p λenv he Z x=>?_
 subst he
 refine⟨lim.keeps x.toInCall.keep,codeAny_func ?_⟩
 obtain⟨t,ht,hq⟩:=m A outer s H j Q E (T.deeper _) D
 have I:Inv (vi CX P w K G h N c a f d A outer s H E) [] (start N j) H Z:=Wo S T.hd C hl r x
 refine p0 (ht [] Z (start N j) H _ I hq) (λfl X z=>?_) λe X z=>z
 have fin:∀ {L:St} {H':Hp} {v:V} {u:Value},Inv (vi CX P w K G h N c a f d A outer s H E) [] L H' X->yZ v u->Q v H'->CE outer P w H s Q u X :=
  λ{L H' v u} J R q=>⟨v,H',J.os,J.bare,J.base,J.hok,R,q⟩
 cases fl with
 | ret u =>
  obtain⟨v,L,H',J,R,q⟩:=z
  exact fin J R q
 | next =>
  obtain⟨L,H',J,q⟩:=z
  exact fin (v:=V.non) (u:=Value.none) J rfl q
 | brk =>
  obtain⟨_,_,_,q⟩:=z
  exact False.elim q
 | cont =>
  obtain⟨_,_,_,q⟩:=z
  exact False.elim q
section
variable {X:Cx}{x:Str}{p pos:Pos}{e:Expr}{es:yX}{t:TA}{id T:String}{r:zd8}
def tCB (r:zd8)(t:TA):TE:=fun σ H Q=>t σ H λa H1=>r a H1 Q
def yw (l:Yh X (.builtin id) r) (d:Gl X x) (u:X.mg x=none) (m:bootBuiltins x=some (.builtin id)) (g:PA X (e::es) t) (f:x≠"__name__":=by decide) (b:(x == ("__debug__":Str))=false:=by decide)
 (k:starEach (e::es) X.env=(false,eval e X.env)::starEach es X.env:=by rfl) (c:(backTo pos (starEach es X.env)).any (·.1)=false:=by rfl):PE X (.Call (.Name x p) (e::es) [] pos) (tCB r t):=by
 intro a s σ H Q I h
 refine u0E (Vv I d u m ?_ f b)
 exact PyProof.Rows.callWith_builtin1 (thn (g pos a s σ H _ I h) λj n ⟨i,H1,I1,o,q⟩=>l a n σ H1 i j Q I1 o q) k c
def zaR (l:Yh X (.type T) r) (d:Gl X x) (u:X.mg x=none) (m:bootBuiltins x=some (.type T)) (g:PA X (e::es) t) (f:x≠"__name__":=by decide) (b:(x == ("__debug__":Str))=false:=by decide)
 (k:starEach (e::es) X.env=(false,eval e X.env)::starEach es X.env:=by rfl) (c:(backTo pos (starEach es X.env)).any (·.1)=false:=by rfl):PE X (.Call (.Name x p) (e::es) [] pos) (tCB r t):=by
 intro a s σ H Q I h
 refine u0E (Vv I d u m ?_ f b)
 exact u0w (thn (g pos a s σ H _ I h) λj n ⟨i,H1,I1,o,q⟩=>l a n σ H1 i j Q I1 o q) k c
end
end L2
namespace HT
open PySem PyProof.Rows
def lexLt:zy->zy->Bool
 | [],[]=>false
 | [],_::_=>true
 | _::_,[]=>false
 | x::xs,y::ys=>if x=y then lexLt xs ys else decide (x<y)
def lexLt_cons (x y:Int)(b a:zy):lexLt (x::b) (y::a)=if x=y then lexLt b a else decide (x<y):=rfl
def zjO (A:zM)(s:zm)(a:Int)(t:Tok)(c:Int)(u:Tok):∃ e,SeqAt.EqAt A s (.int a t) (.int c u) e/\(e=true↔a=c) :=
 ⟨(a == c),u2k a t c u,by simp⟩
section
variable {prog:zO}{w:World}{A:zM}{E:yT}{s:zm}
def cat_tup {t:Addr} {d a:zx} {Q:yT} (y:IsTup s.heap t d.toArray) (x:IsTup s.heap b a.toArray) (v:d≠[]) (B:a=[]->Q (.ref t) s) (z:a≠[]->Q (.ref s.heap.objs.size) { s with heap:=s.heap.push { cls:=.type "tuple",data:=.seq (d++a).toArray } }) (l:d.length+a.length<=sizeLine):wpAny (model prog w) A (binaryOp .Add (.ref t) (.ref b)) Q E s:=by
 obtain⟨⟨cls,o,data,r⟩,j,u,n,m⟩:=id y
 obtain⟨⟨q,i,k,g⟩,c,h,p,f⟩:=id x
 simp only at u m h f
 subst u m h f
 have e:d.toArray++a.toArray=(d++a).toArray:=by simp
 by_cases hw:a=[]
 .exact concat_meets ⟨_,j,rfl⟩ ⟨_,c,rfl⟩ noFill_tuple_add seq_tuple_add u1s u1m (u1c _ _)
   (tuple_addW1 t b d.toArray a.toArray n p o i r g (by simpa using v) (by simp[hw])) ⟨j,c,B hw⟩
 .refine concat_meets ⟨_,j,rfl⟩ ⟨_,c,rfl⟩ noFill_tuple_add seq_tuple_add u1s u1m (u1c _ _)
   (tuple_addW2 t b d.toArray a.toArray n p o i r g (by simpa using v) (by simpa using hw) (by rw[t7,t7];exact l)) ⟨j,c,?_⟩
  rw[e]
  exact z hw
def sIx (n d:Nat):yx->Nat
 | none=>d
 | some v=>if v<0 then (v+(n:Int)).toNat else min v.toNat n
def sIx_none (n d:Nat):sIx n d none=d:=rfl
def sIx_nat (n d k:Nat):sIx n d (some (k:Int))=min k n:=by
 show(if (k:Int)<0 then ((k:Int)+(n:Int)).toNat else min (k:Int).toNat n)=min k n
 rw[j5 (by omega),u0H]
def znA (n d:Nat)(b:d<=n)(o:yx):sIx n d o<=n:=by
 cases o with
 | none=>exact b
 | some v =>
  show(if v<0 then (v+(n:Int)).toNat else min v.toNat n)<=n
  by_cases a:v<0
  .rw[t9 a];omega
  .rw[j5 a];exact Nat.min_le_right _ _
def zeP (v:Int)(n d:Nat):(if v<0 then max (v+(n:Int)) 0 else min v (n:Int))=((sIx n d (some v):Nat):Int):=by
 show(if v<0 then max (v+(n:Int)) 0 else min v (n:Int))=(((if v<0 then (v+(n:Int)).toNat else min v.toNat n):Nat):Int)
 by_cases a:v<0
 .simp only[t9 a];omega
 .simp only[j5 a];omega
def zd9 (b a:yx)(n:Nat):Builtin.Slice.sliceAdjust b a 1 (n:Int)=(((sIx n 0 b:Nat):Int),((sIx n n a:Nat):Int)):=by
 have c:¬ ((1:Int)<0):=by omega
 unfold Builtin.Slice.sliceAdjust
 simp only[c,u2m]
 refine u2B ?_ ?_
 .cases b with
  | none=>rfl
  | some v=>exact zeP v n 0
 .cases a with
  | none=>rfl
  | some v=>exact zeP v n n
def zd7 (i j:Nat):Builtin.Slice.slicePlaces (i:Int) (j:Int) 1=j-i:=by
 unfold Builtin.Slice.slicePlaces
 have a:(1:Int)>0:=by omega
 simp only[a,u2p,Int.ediv_one]
 split <;> omega
def VC {Q:yx->Shared->Prop}(p:IsPart v o)(h:Q o s):wpAny (model prog w) A (Builtin.Slice.slicePartIndex v) Q E s:=by
 cases p with
 | none=>exact slicePart_none h
 | int i t=>exact slicePart_int h
def Yf {g:Addr}{f:Value}{Q:Int × Int × Nat->Shared->Prop}(i:s.heap.IsSliceOf g e f .none)(pl:IsPart e a)(k:IsPart f b)(h:Q (((sIx n 0 a:Nat):Int),1,sIx n n b-sIx n 0 a) s):wpAny (model prog w) A (Builtin.Slice.sliceApplied (.ref g) (pure (n:Int))) Q E s:=by
 obtain⟨os,d,j,c⟩:=id i
 unfold Builtin.Slice.sliceApplied Builtin.Slice.sliceFields
 refine u5 (u5 (u1b d c (x:=e) rfl (u5 (u1b d c (x:=f) rfl (u5 (u1b d c (x:=.none) rfl (t5 ?_)))))))
 refine u5 (slicePart_none ?_)
 show wpAny _ _ (if ((1:Int) == 0)=true then _ else _) _ _ s
 rw[j5 (by decide)]
 refine u5 (VC pl (u5 (VC k (u5 (t5 ?_)))))
 show wpAny _ _ (match Builtin.Slice.sliceAdjust a b 1 (n:Int)with | (a,b)=>pure (a,(1:Int),Builtin.Slice.slicePlaces a b 1)) _ _ s
 rw[zd9 a b n]
 show wpAny _ _ (pure (((sIx n 0 a:Nat):Int),(1:Int),Builtin.Slice.slicePlaces ((sIx n 0 a:Nat):Int) ((sIx n n b:Nat):Int) 1)) _ _ s
 rw[zd7]
 exact t5 h
def ziv (a:wY)(i k:Nat):((List.range k).filterMap λ(m:Nat)=>a[((i:Int)+(m:Int)*1).toNat]?).toArray=((a.toList.drop i).take k).toArray:=by
 have e:(λ(m:Nat)=>a[((i:Int)+(m:Int)*1).toNat]?)=λm=>a[i+m]?:=by
  funext m
  have:((i:Int)+(m:Int)*1).toNat=i+m:=by omega
  rw[this]
 rw[e]
 have:=pick_run a i k
 rw[List.filterMap_map]at this
 have b:((λx=>a[x]?)∘λx=>i+x)=λm=>a[i+m]?:=rfl
 rw[b]at this
 rw[this]
def getItem_tuple_cut {t k:Addr} {a:wY} {d:yx} {Q:yT} (e:IsTup s.heap t a) (l:s.heap.IsSliceOf k n o .none) (pl:IsPart n c) (r:IsPart o d) (hw:¬ (sIx a.size 0 c=0/\sIx a.size a.size d=a.size)) (h:Q (.ref s.heap.objs.size) { s with heap:=s.heap.push { cls:=.type "tuple",data:=.seq ((a.toList.drop (sIx a.size 0 c)).take (sIx a.size a.size d-sIx a.size 0 c)).toArray } }) (u:a.size<=sizeLine):wpAny (model prog w) A (getItem (.ref t) (.ref k)) Q E s:=by
 have b:sizeOk (.seq ((a.toList.drop (sIx a.size 0 c)).take (sIx a.size a.size d-sIx a.size 0 c)).toArray):=by
  show((a.toList.drop (sIx a.size 0 c)).take (sIx a.size a.size d-sIx a.size 0 c)).toArray.size<=sizeLine
  rw[t7,u0q,u05,i1]
  omega
 have y:sIx a.size a.size d<=a.size:=znA _ _ (t6 _) d
 obtain⟨os,g,f,p⟩:=id l
 have j:s.TypeIs (.ref k) "slice":=⟨os,g,f⟩
 unfold getItem
 try with_reducible refine i0 ?_
 first | refine u5 (t5 ?_) | skip
 refine u5 (wpAny_sequenceKey e.typeIs (by decide) ?_)
 refine u5 (i5 (name:=Str.ofString "__getitem__") e.typeIs m9
  (u0h m9 e.typeIs entry_tuple_getitem ?_ (args_tuple_getitem _ _)))
 show wpAny _ _ (Builtin.Tuple.tupleItemsOf (.ref t)>>=_) _ _ s
 refine u5 (tupleItemsOf_ e ?_)
 refine u5 (u1I j ?_)
 rw[t9 (by decide)]
 refine u5 (Yf l pl r ?_)
 have i:¬ ((((sIx a.size 0 c:Nat):Int) == 0&&(1:Int) == 1&&(sIx a.size a.size d-sIx a.size 0 c) == a.size)=true):=by
  intro q
  rw[j6,j6]at q
  have v:((sIx a.size 0 c:Nat):Int)=0:=eq_of_beq q.1.1
  have x:sIx a.size a.size d-sIx a.size 0 c=a.size:=eq_of_beq q.2
  exact hw ⟨by omega,by omega⟩
 show wpAny _ _ (if (((sIx a.size 0 c:Nat):Int) == 0&&(1:Int) == 1&&(sIx a.size a.size d-sIx a.size 0 c) == a.size)=true then _ else _) _ _ s
 rw[j5 i,ziv]
 first
  | exact u5 (m:=Builtin.Tuple.tupleExact _) (l8 (t5 ⟨_,rfl,t5 h⟩) b)
  | exact u5 (m:=Builtin.Tuple.tupleExact _) (l8 (u5 (t5 (t5 ⟨_,rfl,t5 h⟩))) b)
  | exact u5 (u5 (m:=Builtin.Tuple.tupleExact _) (l8 (t5 (t5 ⟨_,rfl,t5 h⟩)) b))
  | exact u5 (u5 (m:=Builtin.Tuple.tupleExact _) (l8 (t5 ⟨_,rfl,t5 h⟩) b))
end
end HT
namespace L2
open PySem PySem.Spec PyProof.Rows
abbrev TO:=St->Hp->(yx->Hp->Prop)->Prop
def PO (X:Cx)(e:Option Expr)(t:TO):Prop :=
 ∀ (a:xp) (s:zm) (σ:St) (H:Hp) (Q:yx->Hp->Prop),Inv X a σ H s->t σ H Q ->
  wpAny (model X.prog X.w) X.A (evalPart e X.env) (λu b=>∃ o H',Inv X a σ H' b/\IsPart u o/\Q o H') X.xe s
def zmJ:TO:=λ_ H Q=>Q none H
def zqa (t:TE):TO:=fun σ H Q=>t σ H λx H1=>∃ i,x=.int i/\Q (some i) H1
def YF {ns:zy}:∀ {a:zx},yp (ns.map V.int) a->IntsAre a ns:=by
 induction ns with
 | nil=>intro a r;rw[List.map_nil]at r;cases r;exact .nil
 | cons n ns d =>
  intro a r
  rw[o7]at r
  cases r with
  | cons c b =>
   obtain⟨t,e⟩:=c
   subst e
   exact .cons n t (d b)
section
variable {X:Cx}{e:Expr}{te:TE}{lo hi:Option Expr}{tl th:TO}{pos p2:Pos}
def zlz:PO X none zmJ:=by
 intro a s σ H Q I h
 rw[evalPart_none]
 exact t5 ⟨none,H,I,.none,h⟩
def zl8 (h:PE X e te):PO X (some e) (zqa te):=by
 intro a s σ H Q I hw
 rw[evalPart_some]
 refine thn (h a s σ H _ I hw) λu d hh9=>?_
 obtain⟨x,H1,I1,b,c⟩:=hh9
 obtain⟨i,rfl,q⟩:=c
 obtain⟨t,rfl⟩:=b
 exact⟨some i,H1,I1,.int i t,q⟩
def SlR (X:Cx)(r:V->yx->yx->Hp->VK->Prop):Prop :=
 ∀ (a:xp) (s:zm) (σ:St) (H:Hp) (x:V) (v b c:Value) (lo hi:yx) (d:Addr) (Q:VK),Inv X a σ H s->yZ x v->s.heap.IsSliceOf d b c .none->IsPart b lo->IsPart c hi->r x lo hi H Q ->
  ∃ T id,typeLookup (.type T) "__getitem__"=pure (some (.builtin id))/\s.TypeIs v T/\wpAny (model X.prog X.w) X.A (getItem v (.ref d)) (EP X a σ Q) X.xe s
def SlR.or {r f:V->yx->yx->Hp->VK->Prop}(h:SlR X r)(j:SlR X f):SlR X (λx lo hi H Q=>r x lo hi H Q\/f x lo hi H Q):=by
 intro a s σ H x v c g lo hi i Q I d b pl e q
 rcases q with q | q
 .exact h a s σ H x v c g lo hi i Q I d b pl e q
 .exact j a s σ H x v c g lo hi i Q I d b pl e q
def tSl (r:V->yx->yx->Hp->VK->Prop)(te:TE)(tl th:TO):TE:=fun σ H Q=>te σ H λx H1=>tl σ H1 λl H2=>th σ H2 λu H3=>r x l u H3 Q
def zig (z:SlR X r)(B:PE X e te)(i:PO X lo tl)(w:PO X hi th):PE X (.Subscript e (.Slice lo hi none p2) pos) (tSl r te tl th):=by
 intro a s σ H Q I h
 refine Subscript_ (thn (B a s σ H _ I h) λv n hh9=>?_)
 obtain⟨x,H1,I1,o,t⟩:=hh9
 refine wpAny_Slice (thn (i a n σ H1 _ I1 t) λd y ⟨l,H2,I2,pl,m⟩=>thn (w a y σ H2 _ I2 m) λf c hh9=>?_)
 obtain⟨u,H3,I3,j,p⟩:=hh9
 rw[evalPart_none]
 refine t5 ?_
 have I4:Inv X a σ H3 { c with heap:=c.heap.push { cls:=.type "slice",data:=.fields #[d,f,.none] } }:=I3.kept (t':=c.toks) λb C q=>u8 _ q
 obtain⟨T,id,A,k,g⟩:=z a { c with heap:=c.heap.push { cls:=.type "slice",data:=.fields #[d,f,.none] } } σ H3 x v d f l u c.heap.objs.size Q I4 o (Heap.IsSliceOf.new ..) pl j p
 show wpAny (model X.prog X.w) X.A (subscriptTail e (.Slice lo hi none p2) v (.ref c.heap.objs.size)) (EP X a σ Q) X.xe { c with heap:=c.heap.push { cls:=.type "slice",data:=.fields #[d,f,.none] } }
 exact tail_any (ops:=[.ref c.heap.objs.size,v]) k A g (by with_unfolding_all rfl)
def zcw (a:zw)(lo hi:yx):zw:=(a.drop (HT.sIx a.length 0 lo)).take (HT.sIx a.length a.length hi-HT.sIx a.length 0 lo)
def Wr (a:zw)(lo hi:yx):(zcw a lo hi).length<=a.length:=by
 unfold zcw
 rw[u0q,u05]
 omega
def rSlT (K:zu):V->yx->yx->Hp->VK->Prop:=λx lo hi H Q=>∃ a b,x=.ref a/\SqT K H a b /\
 ¬ (HT.sIx b.length 0 lo=0/\HT.sIx b.length b.length hi=b.length)/\∀ p,H p=none->Q (.ref p) (upd H p (.tup (zcw b lo hi)))
def zpE:SlR X (rSlT X.K):=by
 intro f s σ H x v n p lo hi u Q I k j pl m h
 obtain⟨a,d,rfl,l,hw,q⟩:=h
 cases k
 obtain⟨e,r,g,i⟩:=I.tuple l
 have c:e.toArray.size=d.length:=by rw[t7];exact r.length.symm
 refine⟨"tuple",_,m9.lookup,g.typeIs,?_⟩
 refine HT.getItem_tuple_cut g j pl m (by rw[c];exact hw) ?_ (by rw[c];exact i)
 rw[c]
 refine⟨.ref s.heap.objs.size,_,I.laid (t':=s.toks) (o:=.tup (zcw d lo hi)) (λb t q=>u8 _ q) (t6 _) ?_,rfl,q _ (I.hok.fresh (t6 _))⟩
 exact⟨n0 (Wr d lo hi) i,_,(r.drop (HT.sIx d.length 0 lo)).take (HT.sIx d.length d.length hi-HT.sIx d.length 0 lo),IsTup.new _ _⟩
def zqM (K:zu):R2:=λx y H Q=>∃ a b d c,x=.ref a/\y=.ref b/\SqT K H a d/\SqT K H b c/\d≠[]/\d.length+c.length<=sizeLine /\
 (c=[]->Q (.ref a) H)/\(c≠[]->∀ p,H p=none->Q (.ref p) (upd H p (.tup (d++c))))
def yp.nil_iff (r:yp b a):a=[]↔b=[]:=by
 cases r with
 | nil=>simp
 | cons _ _=>simp
def zmK:OpR X (binaryOp .Add) (zqM X.K):=by
 intro e s σ H x y v u Q I j t h
 obtain⟨a,b,r,i,rfl,rfl,n,l,k,g,A,p⟩:=h
 cases j
 cases t
 obtain⟨B,d,m,_⟩:=I.tuple n
 obtain⟨f,c,p2,_⟩:=I.tuple l
 refine HT.cat_tup m p2 (λz=>k (d.nil_iff.mp z)) (λz=>⟨.ref a,H,I,rfl,A (c.nil_iff.mp z)⟩) (λz=>?_) (by rw[<-d.length,<- c.length];exact g)
 refine⟨.ref s.heap.objs.size,_,I.laid (t':=s.toks) (o:=.tup (r++i)) (λb C q=>u8 _ q) (t6 _) ?_,rfl,p (λw=>z (c.nil_iff.mpr w)) _ (I.hok.fresh (t6 _))⟩
 exact⟨by rw[j7];exact g,_,d.append c,IsTup.new _ _⟩
end
def ixN (n:Nat)(i:Int):Option Nat:=if 0<=i then (if i<n then some i.toNat else none)else if -(n:Int)<=i then some (i+n).toNat else none
def atI {α:Type}(a:List α)(i:Int):Option α:=(ixN a.length i).bind λj=>a[j]?
def zfO (h:ixN n i=some j):seqIndex? i n=some j/\j<n/\-(n:Int)<=i/\i<n:=by
 unfold ixN at h
 by_cases h0:0<=i
 .rw[t9 h0]at h
  by_cases a:i<n
  .rw[t9 a]at h
   have e:i.toNat=j:=g4 h
   exact⟨by rw[seqIndex_of h0 a,e],by omega,by omega,a⟩
  .rw[j5 a]at h;cases h
 .rw[j5 h0]at h
  by_cases a:-(n:Int)<=i
  .rw[t9 a]at h
   have e:(i+n).toNat=j:=g4 h
   exact⟨by rw[seqIndex_neg (by omega) a,e],by omega,a,by omega⟩
  .rw[j5 a]at h;cases h
def zao {α:Type}{a:List α}{v:α}(h:atI a i=some v):∃ j,seqIndex? i a.length=some j/\a[j]?=some v/\j<a.length/\-(a.length:Int)<=i/\i<a.length:=by
 unfold atI at h
 cases e:ixN a.length i with
 | none=>rw[e]at h;cases h
 | some j =>
  rw[e]at h
  obtain⟨d,b,c,f⟩:=zfO e
  exact⟨j,d,h,b,c,f⟩
def zgb {α:Type}{a:List α}{j:Nat}{v:α}(h:a[j]?=some v):atI a (j:Int)=some v:=by
 have b:j<a.length:=(j3.mp h).1
 have e:ixN a.length (j:Int)=some j:=by
  unfold ixN
  rw[t9 (by omega),t9 (by omega)];simp
 unfold atI;rw[e];exact h
def Y9 (b:Expr):Prop:=∀ o i,subscripted b false o i=operate [o,i] (getItem o i)
def IxR (X:Cx)(r:R2):Prop :=
 ∀ (c a:Expr) (b:xp) (s:zm) (σ:St) (H:Hp) (x y:V) (v u:Value) (Q:VK),Inv X b σ H s->yZ x v->yZ y u->r x y H Q ->
  subscripted a false v u=operate [v,u] (getItem v u)->wpAny (model X.prog X.w) X.A (subscriptTail c a v u) (EP X b σ Q) X.xe s
def MtR (X:Cx)(id:String)(r:V->zw->Hp->VK->Prop):Prop :=
 ∀ (a:xp) (s:zm) (σ:St) (H:Hp) (x:V) (c:zw) (v:Value) (b:zx) (Q:VK),Inv X a σ H s->yZ x v->yp c b->r x c H Q ->
  wpAny (model X.prog X.w) X.A (call (.builtin id) (v::b)) (EP X a σ Q) X.xe s
section
variable {X:Cx}{a b:Expr}{ta tb:TE}{pos:Pos}
def IxR.or {r f:R2}(h:IxR X r)(i:IxR X f):IxR X (λx y H Q=>r x y H Q\/f x y H Q):=by
 intro b a c s σ H x y v u Q I e g q d
 rcases q with q | q
 .exact h b a c s σ H x y v u Q I e g q d
 .exact i b a c s σ H x y v u Q I e g q d
def zbR (j:IxR X r)(g:PE X a ta)(f:PE X b tb)(d:Y9 b):PE X (.Subscript a b pos) (tOp r ta tb):=by
 intro c s σ H Q I h
 exact Subscript_ (zqy g f I h λv u i x y H2 I2 e k q=>j a b c i σ H2 x y v u Q I2 e k q (d _ _))
def zdX (K:zu):R2:=λx y H Q=>∃ p a i v,x=.ref p/\y=.int i/\SqL K H p a/\atI a i=some v/\Q v H
def rIxT (K:zu):R2:=λx y H Q=>∃ p a i v,x=.ref p/\y=.int i/\SqT K H p a/\atI a i=some v/\Q v H
def zpY:R2:=λx y H Q=>∃ z i c,x=.str z/\y=.int i/\z.length<=sizeLine/\atI z.cps.toList i=some c/\Q (.str ⟨#[c]⟩) H
def WS:IxR X (zdX X.K):=by
 intro c f a s σ H x y v u Q I o n h k
 obtain⟨p,K,i,z,rfl,rfl,C,D,q⟩:=h
 cases o
 obtain⟨t,rfl⟩:=n
 obtain⟨g,r,pl,L⟩:=I.list C
 obtain⟨j,b,B,J,A,E⟩:=zao D
 obtain⟨w,l,d⟩:=r.get B
 have m:=r.length
 have G:=Xd
 have fin:EP X a σ Q w s:=⟨z,H,I,d,q⟩
 by_cases h0:0<=i
 .have e:i.toNat=j:=by
   rw[seqIndex_of h0 E]at b
   exact g4 b
  exact item_listR pl.isList h0 (by omega) (by rw[e];simpa using l) fin k
 .have e:(i+(g.toArray.size:Int)).toNat=j:=by
   rw[seqIndex_neg (by omega) A]at b
   rw[t7,<- m]
   exact g4 b
  exact u1t (x:=w) pl.isList.typeIs slot_list_getitem.lookup
   (wpAny_getItem_list_neg (Q:=λr F=>r=w/\EP X a σ Q r F) pl.isList (by omega) (by rw[t7] <;> omega) (by omega) (by rw[e];simpa using l) ⟨rfl,fin⟩) k
def zkj:IxR X (rIxT X.K):=by
 intro b d a s σ H x y v u Q I l g h k
 obtain⟨p,F,i,z,rfl,rfl,n,A,q⟩:=h
 cases l
 obtain⟨t,rfl⟩:=g
 obtain⟨C,r,pl,K⟩:=I.tuple n
 obtain⟨j,f,m,E,G,J⟩:=zao A
 obtain⟨w,o,c⟩:=r.get m
 have e:=r.length
 have D:=Xd
 have fin:EP X a σ Q w s:=⟨z,H,I,c,q⟩
 exact u1t (x:=w) pl.typeIs slot_tuple_getitem.lookup
  (getItem_tuple (j:=j) (Q:=λr B=>r=w/\EP X a σ Q r B) pl (by omega) (by omega) (by rw[t7,<- e];exact f) (by simpa using o) ⟨rfl,fin⟩) k
def zkx:IxR X zpY:=by
 intro b a d s σ H x y v u Q I g r h f
 obtain⟨z,i,c,rfl,rfl,D,p,q⟩:=h
 obtain⟨t,rfl⟩:=g
 obtain⟨C,rfl⟩:=r
 obtain⟨j,e,n,B,l,w⟩:=zao p
 have k:z.cps.toList.length=z.length:=by simp[Str.length]
 rw[k]at e l w
 have A:=Xd
 exact tail_any (u2w s z t) slot_str_getitem.lookup (getItem_str (c:=c) (by
  have m:decide (i < -(2^63:Int))=false:=q4 (by omega)
  have o:decide (i >= 2^63)=false:=q4 (by omega)
  rw[m,o,Bool.or_false]) (by rw[e];simpa using n) ⟨.str ⟨#[c]⟩,H,I.tok _,⟨_,rfl⟩,q⟩) f
def rIx (K:zu):R2:=λx y H Q=>zdX K x y H Q\/rIxT K x y H Q\/zpY x y H Q
def znp:IxR X (rIx X.K):=WS.or (zkj.or zkx)
def zd4 (a:zx) (n j:Nat) (u:Value):Obj.mapSeq (·.setIfInBounds j u) { cls:=.type "list",data:=.seq a.toArray n }={ cls:=.type "list",data:=.seq (a.set j u).toArray n }:=by
 simp[Obj.mapSeq]
def Inv.lst {b:xp}{σ:St}{H:Hp}{s:zm}{p:Addr}{xs:zw}(I:Inv X b σ H s)(h:H p=some (.lst xs)) :
 ∃ (a:zx) (n:Nat),yp xs a/\s.heap.get? p=some { cls:=.type "list",data:=.seq a.toArray n }/\xs.length<=sizeLine:=by
 obtain⟨z,a,n,r,e⟩:=I.hok p _ h
 exact⟨a,n,r,e,z⟩
def Inv.lstUpd {H:Hp} {s:zm} {p:Addr} {g:zw} {d a:zx} {f:Obj->Obj} (I:Inv X c σ H s) (h:H p=some (.lst m)) (l:s.heap.get? p=some { cls:=.type "list",data:=.seq d.toArray n }) (j:f { cls:=.type "list",data:=.seq d.toArray n }={ cls:=.type "list",data:=.seq a.toArray i }) (r:yp g a) (o:g.length<=sizeLine) (t:Nat) :
 Inv X c σ (upd H p (.lst g)) { s with heap:=s.heap.update p f,toks:=t }:=by
 have e:(s.heap.update p f).get? p=some { cls:=.type "list",data:=.seq a.toArray i }:=by
  rw[i2 f l (by rw[j] <;> rfl),j]
 refine I.write (x:=p) (e:=p) (by rw[h];trivial) (.inl rfl) (λb u k q=>(i6 _ _ (u0k k)).trans q) ⟨_,e⟩ ?_
 exact⟨o,a,i,r,e⟩
def zqk:V->V->V->Hp->(Hp->Prop)->Prop:=λo i v H Q=>∃ p a k j,o=.ref p/\i=.int k/\H p=some (.lst a)/\ixN a.length k=some j/\Q (upd H p (.lst (a.set j v)))
def zjn:PSet X zqk:=by
 intro a s σ H o i v F D u Q I A z w h
 obtain⟨p,x,k,j,rfl,rfl,g,y,q⟩:=h
 cases A
 obtain⟨t,rfl⟩:=z
 obtain⟨b,n,r,e,B⟩:=I.lst g
 obtain⟨c,E,l,m⟩:=zfO y
 have d:=r.length
 have C:=Xd
 have I':Inv X a σ (upd H p (.lst (x.set j v))) { s with heap:=s.heap.update p (Obj.mapSeq (·.setIfInBounds j u)) } :=
  I.lstUpd g e (zd4 b n j u) (r.set w j) (by rw[u0e];exact B) s.toks
 by_cases h0:0<=k
 .have f:k.toNat=j:=by
   rw[seqIndex_of h0 m]at c
   exact g4 c
  exact W.ki_setAt e h0 (by omega) (by rw[t7,<- d];exact m) (by rw[f];exact⟨_,I',q⟩)
 .have f:(k+(b.toArray.size:Int)).toNat=j:=by
   rw[seqIndex_neg (by omega) l]at c
   rw[t7,<- d]
   exact g4 c
  exact W.ki_setBack e (by omega) (by rw[t7,<- d];exact l) (by omega) (by rw[f];exact⟨_,I',q⟩)
def zbD (b a:yx)(n:Nat):(sliceBounds b a none n).1=((HT.sIx n 0 b:Nat):Int)/\(sliceBounds b a none n).2.1=((HT.sIx n n a:Nat):Int)/\(sliceBounds b a none n).2.2=1:=by
 refine⟨?_,?_,rfl⟩
 .cases b with
  | none=>simp[sliceBounds,HT.sIx]
  | some i =>
   simp only[sliceBounds,HT.sIx,Option.getD_none,show(1:Int)>0 by decide,u2p]
   by_cases h:i<0
   .simp only[h,u2p] <;> omega
   .simp only[h,u2m] <;> omega
 .cases a with
  | none=>simp[sliceBounds,HT.sIx]
  | some i =>
   simp only[sliceBounds,HT.sIx,Option.getD_none,show(1:Int)>0 by decide,u2p]
   by_cases h:i<0
   .simp only[h,u2p] <;> omega
   .simp only[h,u2m] <;> omega
def VQ (a:zx)(b c:yx):slicePick a.toArray b c none=((a.drop (HT.sIx a.length 0 b)).take (HT.sIx a.length a.length c-HT.sIx a.length 0 b)).toArray:=by
 obtain⟨f,d,e⟩:=zbD b c a.toArray.size
 unfold slicePick
 rw[f,d,e]
 simp only[sliceRange_one,pick_run,t7] <;> rfl
def rSlL (K:zu):V->yx->yx->Hp->VK->Prop:=λx d c H Q=>∃ a b,x=.ref a/\SqL K H a b/\∀ p,H p=none->Q (.ref p) (upd H p (.lst (zcw b d c)))
def zmr:SlR X (rSlL X.K):=by
 intro g s σ H x v t u e f y Q I k j pl m h
 obtain⟨a,c,rfl,l,q⟩:=h
 cases k
 obtain⟨n,r,i,p⟩:=I.list l
 have d:=r.length
 refine⟨"list",_,slot_list_getitem.lookup,i.isList.typeIs,?_⟩
 refine wpAny_getItem_list_slice i.isList j pl m .none (by simp) ?_ (by rw[t7] <;> omega)
 rw[VQ,<- d]
 refine⟨.ref s.heap.objs.size,_,I.laid (t':=s.toks) (o:=.lst (zcw c e f)) (λb w q=>u8 _ q) (t6 _) ?_,rfl,q _ (I.hok.fresh (t6 _))⟩
 exact⟨n0 (Wr c e f) p,_,0,(r.drop (HT.sIx c.length 0 e)).take (HT.sIx c.length c.length f-HT.sIx c.length 0 e),k9 _ rfl⟩
def zm1:V->Bool
 | .non=>true
 | .bl _=>true
 | .int _=>true
 | .str _=>true
 | _=>false
def eqV:V->V->Bool
 | .non,.non=>true
 | .bl a,.bl b=>a == b
 | .bl a,.int b=>(if a then 1 else 0) == b
 | .int a,.bl b=>a == (if b then 1 else 0)
 | .int a,.int b=>a == b
 | .str a,.str b=>a == b
 | _,_=>false
def zkN (e:yZ y u)(c:yZ x v)(g:zm1 y=true)(f:zm1 x=true):SeqAt.EqAt A s u v (eqV y x):=by
 cases y with
 | non =>
  cases e
  cases x with
  | non=>cases c;exact SeqAt.EqAt.same _
  | bl b=>cases c;exact SeqAt.EqAt.none_bool b
  | int b=>obtain⟨t,rfl⟩:=c;exact SeqAt.EqAt.none_int b t
  | str b=>obtain⟨t,rfl⟩:=c;exact SeqAt.EqAt.none_str b t
  | _=>exact absurd (show false=true from f) u7
 | bl a =>
  cases e
  cases x with
  | non=>cases c;exact SeqAt.EqAt.bool_none a
  | bl b=>cases c;exact SeqAt.EqAt.bool_bool a b
  | int b=>obtain⟨t,rfl⟩:=c;exact SeqAt.EqAt.bool_int a b t
  | str b=>obtain⟨t,rfl⟩:=c;exact SeqAt.EqAt.bool_str a b t
  | _=>exact absurd (show false=true from f) u7
 | int a =>
  obtain⟨d,rfl⟩:=e
  cases x with
  | non=>cases c;exact SeqAt.EqAt.int_none a d
  | bl b=>cases c;exact SeqAt.EqAt.int_bool a d b
  | int b=>obtain⟨t,rfl⟩:=c;exact u2k a d b t
  | str b=>obtain⟨t,rfl⟩:=c;exact SeqAt.EqAt.int_str a d b t
  | _=>exact absurd (show false=true from f) u7
 | str a =>
  obtain⟨d,rfl⟩:=e
  cases x with
  | non=>cases c;exact SeqAt.EqAt.str_none a d
  | bl b=>cases c;exact SeqAt.EqAt.str_bool a d b
  | int b=>obtain⟨t,rfl⟩:=c;exact SeqAt.EqAt.str_int a d b t
  | str b=>obtain⟨t,rfl⟩:=c;exact SeqAt.EqAt.str_str a d b t
  | _=>exact absurd (show false=true from f) u7
 | _=>exact absurd (show false=true from g) u7
def xB:Yh X (.builtin "len") (λg H Q=>∃ p b,g=[.ref p]/\(SqL X.K H p b\/SqT X.K H p b)/\Q (.int b.length) H):=by
 intro f s σ H g l Q I r h
 obtain⟨p,b,rfl,c,q⟩:=h
 obtain⟨u,rfl,i⟩:=Ve r
 cases i
 have k:=Xd
 rcases c with c | c
 .obtain⟨e,d,pl,j⟩:=I.list c
  have a:=d.length
  exact Calls.call_len_list pl.isList (by simp only[t7] <;> omega) ⟨.int b.length,H,I.tok _,⟨s.toks+1,by rw[t7,a]⟩,q⟩
 .obtain⟨e,d,pl,j⟩:=I.tuple c
  have a:=d.length
  exact len_tuple pl (by simp only[t7] <;> omega) ⟨.int b.length,H,I.tok _,⟨s.toks+1,by rw[t7,a]⟩,q⟩
def Xe:Yh X (.builtin "len") (λa H Q=>∃ z,a=[.str z]/\z.length<=sizeLine/\Q (.int z.length) H):=by
 intro b s σ H a d Q I r h
 obtain⟨z,rfl,c,q⟩:=h
 obtain⟨u,rfl,t,rfl⟩:=Ve r
 have e:=Xd
 exact len_str (by omega) ⟨.int z.length,H,I.tok _,⟨_,rfl⟩,q⟩
def zbB:Yh X (.type "list") (λz H Q=>∃ p f,z=[.ref p]/\(SqL X.K H p f\/SqT X.K H p f)/\∀ l,H l=none->Q (.ref l) (upd H l (.lst f))):=by
 intro k s σ H z B Q I r h
 obtain⟨p,f,rfl,m,q⟩:=h
 obtain⟨u,rfl,A⟩:=Ve r
 cases A
 have fin:∀ (a:zx),yp f a->f.length<=sizeLine->∀ (c:Heap) (g:Nat),(∀ b y,s.heap.get? b=some y->c.get? b=some y) ->
  c.get? s.heap.objs.size=some { cls:=.type "list",dict:=none,data:=.seq a.toArray g,slots:=#[] }->EP X k σ Q (.ref s.heap.objs.size) { s with heap:=c }:=λa d t c g i e =>
  ⟨.ref s.heap.objs.size,_,I.laid (t':=s.toks) i (t6 _) (show yK X.prog X.w _ c _ (.lst f) from⟨t,a,g,d,e⟩),rfl,q _ (I.hok.fresh (t6 _))⟩
 rcases m with m | m
 .obtain⟨a,d,pl,t⟩:=I.list m
  have j:=d.length
  obtain⟨o,w,x,n,v⟩:=pl.isList
  exact call_list_seq p (.inl rfl) w x v (λc g i e=>fin a d t c g i e) (by simp only[t7] <;> omega)
 .obtain⟨a,d,pl,t⟩:=I.tuple m
  have j:=d.length
  obtain⟨o,w,x,n,v⟩:=pl
  exact call_list_seq p (.inr rfl) w x v (λc g i e=>fin a d t c g i e) (by simp only[t7] <;> omega)
def zaF:Yh X (.type "tuple") (λk H Q=>∃ p d,k=[.ref p]/\((SqL X.K H p d/\∀ l,H l=none->Q (.ref l) (upd H l (.tup d)))\/(SqT X.K H p d/\Q (.ref p) H))):=by
 intro a s σ H k v Q I r h
 obtain⟨p,d,rfl,h⟩:=h
 obtain⟨u,rfl,n⟩:=Ve r
 cases n
 rcases h with ⟨i,q⟩ | ⟨i,q⟩
 .obtain⟨c,g,pl,m⟩:=I.list i
  have j:=g.length
  refine call_tuple_list pl.isList (λf t=>?_) (by simp only[t7] <;> omega)
  have I1:Inv X a σ H { s with heap:=f }:=I.kept (t':=s.toks) t
  have I2:Inv X a σ (upd H f.objs.size (.tup d)) { s with heap:=f.push { cls:=.type "tuple",data:=.seq c.toArray } } :=
   I1.laid (t':=s.toks) (λb o e=>u8 _ e) (t6 _) (show yK X.prog X.w _ _ _ (.tup d) from⟨m,c,g,IsTup.new _ _⟩)
  exact⟨.ref f.objs.size,_,I2,rfl,q _ (I1.hok.fresh (t6 _))⟩
 .obtain⟨c,g,pl,m⟩:=I.tuple i
  exact call_tuple_same pl ⟨.ref p,H,I,rfl,q⟩
def tyV (K:zu)(T:String)(x:V)(H:Hp):Prop:=match x with
 | .str _=>T="str"
 | .int _=>T="int"
 | .ref p=>(T="list"/\∃ b,SqL K H p b)\/(T="tuple"/\∃ o,K.lookup p=some o/\o.cls=.type "tuple"/\o.dict=none) \/
  (T="dict"/\((∃ a,H p=some (.dK a))\/∃ a,H p=some (.dT a)))\/(T="set"/\∃ S n,H p=some (.set S n))
 | _=>False
def zkC {d:xp}{s:zm}(I:Inv X d σ H s)(r:yZ x v)(ty:tyV X.K T x H) :
 s.TypeIs v T/\∀ a,v=.ref a->∃ j,s.heap.get? a=some j/\j.dict=none:=by
 cases x with
 | str z =>
  obtain⟨t,rfl⟩:=r
  cases (show T="str" from ty)
  exact⟨u2w s z t,λ_ e=>nomatch e⟩
 | int i =>
  obtain⟨t,rfl⟩:=r
  cases (show T="int" from ty)
  exact⟨u2U s i t,λ_ e=>nomatch e⟩
 | ref p =>
  cases r
  rcases ty with ⟨rfl,q,k⟩ | ⟨rfl,o,b,l,f⟩ | ⟨rfl,b⟩ | ⟨rfl,S,n,b⟩
  .obtain⟨m,_,pl,_⟩:=I.list k
   refine⟨pl.isList.typeIs,λa e=>?_⟩
   cases e
   obtain⟨o,n,e,c,f,_⟩:=pl
   exact⟨o,e,f⟩
  .refine⟨⟨o,I.kIn p o b,l⟩,λa e=>?_⟩
   cases e
   exact⟨o,I.kIn _ o b,f⟩
  .have z:∃ o,s.heap.get? p=some o/\o.ExactDict:=by
    rcases b with ⟨h,b⟩ | ⟨h,b⟩
    .obtain⟨_,_,_,_,o,_,_,e,ex,_⟩:=I.hok p _ b
     exact⟨o,e,ex⟩
    .obtain⟨_,_,_,_,o,_,_,e,ex,_⟩:=I.hok p _ b
     exact⟨o,e,ex⟩
   obtain⟨o,e,ex⟩:=z
   refine⟨⟨o,e,ex.1⟩,λa g=>?_⟩
   cases g
   exact⟨o,e,ex.2.1⟩
  .obtain⟨o,_,_,_,e,ex,_⟩:=I.hok p _ b
   refine⟨⟨o,e,ex.1⟩,λa g=>?_⟩
   cases g
   exact⟨o,e,ex.2.1⟩
 | _=>exact False.elim ty
def tBM0 (K:zu)(T:String)(r:V->zw->Hp->VK->Prop)(a:TE):TE:=fun σ H Q=>a σ H λx H1=>tyV K T x H1/\r x [] H1 Q
def tBM (K:zu)(T:String)(r:V->zw->Hp->VK->Prop)(a:TE)(t:TA):TE:=fun σ H Q=>a σ H λx H1=>tyV K T x H1/\t σ H1 λb H2=>r x b H2 Q
variable {o e:Expr}{es:yX}{to:TE}{t:TA}{name:Str}{apos cpos:Pos}{T id:String}{r:V->zw->Hp->VK->Prop}
def zoI (g:PlainAttrs T) (d:Slot T name id) (e:typeOf (.builtin id)=pure (.type "method_descriptor")) (n:MtR X id r) (j:PE X o to)
 (b:attributeBase o name X.env (eval o X.env)=eval o X.env:=by rfl) (c:(apos.endLine == cpos.line)=true:=by rfl):PE X (.Call (.Attribute o name apos) [] [] cpos) (tBM0 X.K T r to):=by
 intro a s σ H Q I h
 refine wpAny_Call_method0_late b c (thn (j a s σ H _ I h) λv l hh9=>?_)
 obtain⟨x,H1,I1,f,ty,m⟩:=hh9
 obtain⟨k,i⟩:=zkC I1 f ty
 exact⟨T,id,g,d,e,k,i,u0R rfl (PySem.evalArgs_none (n a l σ H1 x [] v [] Q I1 f .nil m))⟩
theorem Xx (m:PlainAttrs T) (f:Slot T name id) (i:typeOf (.builtin id)=pure (.type "method_descriptor")) (E:MtR X id r) (w:PE X o to) (n:PA X (e::es) t)
 (c:attributeBase o name X.env (eval o X.env)=eval o X.env:=by rfl)
 (g:((backTo cpos (starEach (e::es) X.env)).all (λx=>!x.1)&&(backToKw cpos (keywordEach [] X.env)).all (λx=>x.1.isSome)
  && decide ((e::es).length+([]:List Keyword).length+(if ([]:List Keyword).isEmpty then 0 else 1) < 30))=true:=by rfl)
 (d:(apos.endLine == cpos.line)=true:=by rfl) (l:starEach (e::es) X.env=(false,eval e X.env)::starEach es X.env:=by rfl) (b:(backTo cpos (starEach es X.env)).any (·.1)=false:=by rfl) :
 PE X (.Call (.Attribute o name apos) (e::es) [] cpos) (tBM X.K T r to t):=by
 intro a s σ H Q I h
 refine u1u c g d rfl (thn (w a s σ H _ I h) λv C hh9=>?_)
 obtain⟨x,H1,I1,k,ty,D⟩:=hh9
 obtain⟨A,z⟩:=zkC I1 k ty
 refine⟨T,id,m,f,i,A,z,?_⟩
 have j:=n cpos a C σ H1 _ I1 D
 rw[l]at j ⊢
 refine u0R (by show(false||(backTo cpos (starEach es X.env)).any (·.1))=false;rw[b] <;> rfl) (u1M ?_)
 exact thn j λy p ⟨q,H2,I2,B,u⟩=>E a p σ H2 x q v y Q I2 k B u
/- xs.append(e),list.index on a module's tuple .. are MtR facts of 06m -/
end
def MtM (X:Cx)(id:String)(r:V->zw->Hp->VK->Prop):Prop :=
 ∀ (a:xp) (s:zm) (σ:St) (H:Hp) (x:V) (c:zw) (v:Value) (b:zx) (Q:VK),Inv X a σ H s->yZ x v->yp c b->r x c H Q ->
  wpAny (model X.prog X.w) X.A (call (.builtin id) (v::b)) (EP X a σ Q) X.xe s
def yp.one:∀ {x:V} {a:zx},yp [x] a->∃ u,a=[u]/\yZ x u:=by
 intro x a h
 cases h with | cons r t=>cases t;exact⟨_,rfl,r⟩
def yp.two:∀ {x y:V} {a:zx},yp [x,y] a->∃ u v,a=[u,v]/\yZ x u/\yZ y v:=by
 intro x y a h
 cases h with | cons r t=>cases t with | cons q t=>cases t;exact⟨_,_,rfl,r,q⟩
def yp.rep (h:yp b a):∀ k:Nat,yp (List.replicate k b).flatten (List.replicate k a).flatten
 | 0=>.nil
 | k+1=>by
  rw[u0j,u0j,u0I,u0I]
  exact yp.append h (yp.rep h k)
def WB (b:zx):∀ (k:Nat) (a:zx),
 List.foldl (λf d=>f++d) a.toArray (List.replicate k b.toArray)=(a++(List.replicate k b).flatten).toArray
 | 0,a=>by simp
 | k+1,a=>by
  have e:a.toArray++b.toArray=(a++b).toArray:=by simp
  have c:(a++b)++(List.replicate k b).flatten=a++(List.replicate (k+1) b).flatten:=by
   rw[u0j,u0I,u0X]
  rw[<-c,<- WB b k (a++b),<- e,u0j,List.foldl_cons]
section
variable {X:Cx}{pins:xp}{σ:St}{H:Hp}{s:zm}{l b:Addr}{xs ys zs:zw}
def Inv.lset {a its':zx} {f:wY->wY} {d:Nat} (I:Inv X pins σ H s) (b:H l=some (.lst xs)) (e:s.heap.get? l=some { cls:=.type "list",data:=.seq a.toArray n }) (j:f a.toArray=its'.toArray) (g:yp ys its') (i:ys.length<=sizeLine) :
 Inv X pins σ (upd H l (.lst ys)) { s with heap:=s.heap.update l (Obj.mapSeq f),toks:=d }:=by
 have q:=PySem.IsL.update e f
 rw[j]at q
 refine I.write (x:=l) (e:=l) (by rw[b];exact trivial) (.inl rfl) (λk u h c=>(i6 s.heap (Obj.mapSeq f) (u0k h)).trans c) ⟨_,q⟩ ?_
 exact⟨i,its',_,g,q⟩
def Inv.lnew {its:zx}{t':Nat}(I:Inv X pins σ H s)(a:yp ys its)(b:ys.length<=sizeLine) :
 Inv X pins σ (upd H s.heap.objs.size (.lst ys)) { s with heap:=s.heap.push { cls:=.type "list",data:=.seq its.toArray },toks:=t' } :=
 I.laid (λ_ _ q=>u8 _ q) (t6 _) ⟨b,its,0,a,k9 _ rfl⟩
def Inv.fresh (I:Inv X pins σ H s):H s.heap.objs.size=none:=I.hok.fresh (t6 _)
def Inv.lstM (I:Inv X pins σ H s) (b:H l=some (.lst xs)):xs.length<=sizeLine/\∃ (a:zx) (n:Nat),yp xs a/\xs.length=a.length/\s.heap.get? l=some { cls:=.type "list",data:=.seq a.toArray n }:=by
 obtain⟨z,a,n,r,e⟩:=I.hok l _ b
 exact⟨z,a,n,r,r.length,e⟩
def zc0 {n:Nat}(h:n<=sizeLine):Builtin.List.listTooLong n=false:=by
 unfold Builtin.List.listTooLong
 exact q4 (by omega)
end
section
variable {X:Cx}
def vE:V->zw->Hp->VK->Prop:=λx b H Q=>∃ l a y,x=.ref l/\b=[y]/\H l=some (.lst a)/\a.length<sizeLine/\Q .non (upd H l (.lst (a++[y])))
def Yt:MtM X "list.append" vE:=by
 intro b s σ H x j v k Q I d f h
 obtain⟨l,m,y,rfl,rfl,c,o,q⟩:=h
 cases d
 obtain⟨u,rfl,g⟩:=f.one
 obtain⟨z,a,n,r,i,e⟩:=I.lstM c
 refine u0u F.slot_list_append ⟨_,e,rfl⟩ F.entry_list_append (F.args_list_append_2 _ _) (PySem.list_append l a.toArray n u (by rw[t7];omega)) ⟨e,?_⟩
 refine⟨.non,_,I.lset (its':=a++[u]) c e (by simp) (r.append (.cons g .nil)) ?_,rfl,q⟩
 rw[j7,List.length_singleton]
 omega
def zhC:V->zw->Hp->VK->Prop:=λx c H Q=>∃ l b a zs,x=.ref l/\c=[.ref b]/\H l=some (.lst a)/\H b=some (.lst zs)/\a.length+zs.length<=sizeLine/\Q .non (upd H l (.lst (a++zs)))
def zfm:MtM X "list.extend" zhC:=by
 intro g s σ H x D v B Q I p j h
 obtain⟨l,b,C,zs,rfl,rfl,i,w,G,q⟩:=h
 cases p
 obtain⟨u,rfl,y⟩:=j.one
 cases y
 obtain⟨z,c,n,r,A,e⟩:=I.lstM i
 obtain⟨E,a,k,o,t,m⟩:=I.lstM w
 have f:c.toArray.size+a.toArray.size<=sizeLine:=by rw[t7,t7];omega
 have d:¬ (!c.toArray.isEmpty&&Builtin.List.listTooLong (c.toArray.size+a.toArray.size))=true:=by
  rw[zc0 f,u0Q]
  exact u7
 refine u0u F.slot_list_extend ⟨_,e,rfl⟩ F.entry_list_extend (F.args_list_extend_2 _ _)
  (AutoSeq1.list_extend_list_list_0 l c.toArray n b a.toArray k d (by rw[t7];omega) (by omega)) ⟨e,m,?_⟩
 refine⟨.non,_,I.lset (its':=c++a) i e (by simp) (r.append o) ?_,rfl,q⟩
 rw[j7]
 omega
def zqs:R2:=λx y H Q=>∃ l b a zs,x=.ref l/\y=.ref b/\H l=some (.lst a)/\H b=some (.lst zs)/\a.length+zs.length<=sizeLine/\∀ p,H p=none->Q (.ref p) (upd H p (.lst (a++zs)))
def zdG:OpR X (binaryOp .Add) zqs:=by
 intro d s σ H x y v u Q I f o h
 obtain⟨l,b,A,zs,rfl,rfl,j,k,C,q⟩:=h
 cases f
 cases o
 obtain⟨z,c,n,r,t,e⟩:=I.lstM j
 obtain⟨B,a,w,m,i,g⟩:=I.lstM k
 refine PySem.P.add_list e g ?_ (by rw[t7,t7];omega)
 have p:c.toArray++a.toArray=(c++a).toArray:=by simp
 rw[p]
 exact⟨.ref _,_,I.lnew (t':=s.toks) (r.append m) (by rw[j7];omega),rfl,q _ I.fresh⟩
def rRep:R2:=λx y H Q=>∃ l k a,x=.ref l/\y=.int k/\H l=some (.lst a)/\-(2^63)<=k/\k<2^63/\a.length*k.toNat<=sizeLine /\
 ∀ p,H p=none->Q (.ref p) (upd H p (.lst (List.replicate k.toNat a).flatten))
def zcD {α:Type}(a:List α)(k:Nat):(List.replicate k a).flatten.length=k*a.length:=by
 induction k with
 | zero=>simp
 | succ k b=>rw[u0j,u0I,j7,b,Nat.succ_mul,Nat.add_comm]
theorem zov:OpR X (binaryOp .Mult) rRep:=by
 intro p s σ H x y v u Q I E D h
 obtain⟨l,k,M,rfl,rfl,J,C,G,w,q⟩:=h
 cases E
 obtain⟨t,rfl⟩:=D
 obtain⟨z,b,n,r,A,e⟩:=I.lstM J
 have g:b.toArray.size*k.toNat<=sizeLine:=by rw[t7,<- A];exact w
 have d:¬ b.toArray.size*k.toNat > (2 ^ 63 - 1) / 8:=by
  have:(sizeLine:Nat)<=(2 ^ 63 - 1) / 8:=by decide
  omega
 have i:¬ (!Builtin.List.listFitsIndex k)=true:=by
  rw[fitsIndex_both C G]
  exact u7
 have c:¬ Builtin.List.listTooLong (b.toArray.size*k.toNat)=true:=by
  rw[zc0 g]
  exact u7
 have f:List.foldl (λj o=>j++o) #[] (List.replicate (if b.toArray.isEmpty=true then 0 else k.toNat) b.toArray)=(List.replicate k.toNat b).flatten.toArray:=by
  have B:∀ m:Nat,List.foldl (λj o=>j++o) #[] (List.replicate m b.toArray)=(List.replicate m b).flatten.toArray:=λm=>by
   have:=WB b m []
   rw[List.nil_append]at this
   exact this
  rw[B]
  cases b with
  | nil=>simp
  | cons a L=>rw[j5 (by simp)]
 refine wpAny_binaryOp_repeat_ref (T:="list") (U:="int") (by decide) ⟨_,e,rfl⟩ (λK=>u2U K k t) noFill_list_mul F.fills_int_mul u1U repeat_list F.slot_int_index.lookup
  (u0u u1U (u2U s k t) F.entry_int_rmul (F.args_int_rmul_2 _ _) (int___rmul___int_list k t l b.toArray n)
   ⟨e,rfl,⟨_,e,rfl⟩,u0u F.slot_list_mul ⟨_,e,rfl⟩ F.entry_list_mul (F.args_list_mul_2 _ _) (AutoListH.list___mul___list_int_3 l b.toArray n k t i d c) ⟨e,?_⟩⟩)
 rw[f]
 exact⟨.ref _,_,I.lnew (t':=s.toks) (r.rep k.toNat) (by rw[zcD,Nat.mul_comm];exact w),rfl,q _ I.fresh⟩
end
end L2
namespace Att
open PySem PySem.W PySem.Calls PyProof.Rows
def X4:∀ (ns:zy) (c:zx),WellAll P h c (ns.map WData.int)->IntsAre c ns:=by
 intro ns
 induction ns with
 | nil =>
  intro c w
  rw[List.map_nil]at w
  cases w
  exact .nil
 | cons n ns d =>
  intro c w
  rw[o7]at w
  cases w with
  | cons a b =>
   cases a
   exact .cons _ _ (d _ b)
def ze5 {l:OpenLaw}(s:l.most=some n){h:Heap}(b:l.row.toRowW.claim.pre args=true)(j:WellAll P h c args) :
 ∃ a m ns,c=[Value.ref a]/\args=[WData.list (ns.map WData.int)]/\h.get? a=some { cls:=.type "list",data:=.seq m.toArray }/\IntsAre m ns/\ns.length<=n:=by
 have k:WShape.hasAll [] args [.list .int]=true:=(pre_splitW b).1
 have o:l.pre.holds [] { args:=args }=true:=(pre_splitW b).2
 obtain⟨d,r,rfl,y,u⟩:=hasAllW_cons k
 obtain rfl:=hasAllW_nil u
 obtain⟨z,rfl,t⟩:=hasW_list y
 obtain⟨ns,rfl⟩:=items_int t
 have e:ns.length<=n:=by
  unfold OpenLaw.pre at o
  have g:(WTm.not (.lt (.lit (.int (n:Int))) (.len (.arg 0)))).holds [] { args:=[.list (ns.map .int)] }=true:=by
   have g:=(holds_andW o).1
   rw[s]at g
   exact g
  have i:=condW_of g (w_not (w_lt w_lit (w_len_list (w_arg rfl))))
  rw[t4]at i
  refine u0B λq=>?_
  have w:(n:Int)<((ns.length:Nat):Int):=by omega
  first
   | (rw[q5 w]at i;exact absurd i (by decide))
   | (simp at i;omega)
 cases j with
 | cons p v =>
  cases v
  cases p with
  | list x f=>exact⟨_,_,ns,rfl,rfl,x,X4 ns _ f,e⟩
def zgG (l:OpenLaw)(args:List WData):l.row.toRowW.claim.post args (.bool true) args=true :=
 postW_of (r:=l.row.toRowW) (X:=(true == true))
  (show WShape.has [] (.bool true) .bool=true by first | rfl | decide | simp[WShape.has,WShape.arms,WShape.armsAll])
  (show(WTm.eq .res (.lit (.bool true))).value [] { args:=args,res:=some (.bool true),after:=args }=some (.bool (true == true))from w_eq_bool (w_res rfl) w_lit) rfl
def attach_call {l:OpenLaw}{YP:World->Heap->Prop}{d:DefRec}(F:l.most=some n)(A:d.params.defaults=[]) (call:∀ (w:World) (s₀ c:zm) (p u:wc) (i:Addr) (o:Obj) (y s e:Value) (a:Addr) (h:zx) (ns:zy),
 Ground q b [] XP w s₀ p u c.heap->YP w c.heap ->
 c.heap.get? i=some o->o.data=.func (docDef d.name d.params d.body d.scope y s e)->c.heap.CodeRec s d.name->p d.name=some (.ref i) ->
 c.heap.get? a=some { cls:=.type "list",data:=.seq h.toArray }->IntsAre h ns->ns.length<=n->c.gens=#[] ->
 codeAny (model l.prog w) callerA (.call (.ref i) ⟨[.ref a],[]⟩) (λr t=>r=.ok (.ret (.bool true))/\OldK c.heap t.heap/\t.os=c.os/\AllBare t.gens) c) :
 WalkO q b XP YP l.row.toRowW d [] (λf h=>PySem.call f h):=by
 intro w s₀ c p u G Y i o y s e E kV K H v hD x D args C Q k B L z J
 obtain rfl:E=.none:=Dflts.none hD A
 obtain rfl:kV=.none:=Dflts.noKw hD
 obtain⟨a,h,ns,rfl,rfl,j,g,m⟩:=ze5 F k z
 refine enter_call (u1d (call w s₀ c p u i o y s e a h ns G Y K (fd_plain H) v x j g m D) λr t N=>?_)
 obtain⟨rfl,O,I,M⟩:=N
 exact⟨.inl ⟨.bool true,.bool true,[],rfl,λ_=>rfl,.bool true,zgG l _,λ_=>⟨List.Pairwise.nil,λ_ P=>(nomatch P)⟩⟩,O,I,M⟩
section
variable {prog:zO}{w:World}{A:zM}{E:yT}{s:zm}{K:Frag}
def ledger (h:Heap)(L d:Addr):xp:=(List.range h.objs.size).filterMap λa=>if a=L\/a=d then none else (h.get? a).map λo=>(a,o)
end
end Att
namespace L2
open PySem PySem.Spec PyProof.Rows
def zhu:∀ {a:zx} {ns:zy},IntsAre a ns->yp (ns.map V.int) a:=by
 intro a ns h
 induction h with
 | nil=>exact .nil
 | cons n t h b=>exact .cons ⟨t,rfl⟩ b
def zqv (H:Hp):Prop:=∀ b,H b=none\/∃ o a,H b=some (.frz o (.lst a))
def ziA {w:World} {K:zu} {U:wc} {CX:CXT} {k:Nat} {sp:Sp} {c:zm} {t:zx} {ns:zy} (KX:K.In c.heap) (B:c.heap.Ns mainGlobals G) (g:c.heap.Ns builtinsNs U) (W:∀ x:Str,x≠"__name__"->U x=bootBuiltins x) (J:c.heap.NoLimit) (hg:c.gens=#[]) (O:c.heap.get? a=some { cls:=.type "list",data:=.seq t.toArray }) (hi:IntsAre t ns) (hl:ns.length<=sizeLine) (hr:yY k callerA) (F:∀ i:Heap,K.In i->i.Ns mainGlobals G->xu P w K G i CX k R fd [x] sp) (y:∀ (s:zm) (u:Value),BindsTo s fd ⟨[u],[]⟩ [(x,u)]) (Q:∀ H:Hp,zqv H->SqL K H a (ns.map V.int)->sp [.ref a] H (λv _=>v=.bl true) λ_ _ _=>False) (Y:∀ H e j,CX [] H c (λ_ _ _=>False) e j->False) :
 codeAny (model P w) callerA (.call (.ref R) ⟨[.ref a],[]⟩) (λr j=>r=.ok (.ret (.bool true))/\OldK c.heap j.heap/\j.os=c.os/\AllBare j.gens) c:=by
 have rv:=zhu hi
 have N:=hi.length
 -- from an abstract heap in which nothing but the script may be tracked
 have p:∀ H:Hp,zqv H->SqL K H a (ns.map V.int)->HOk P w H c.heap->(∀ b,H b≠none->b=a)->(H a≠none->K.lookup a=none) ->
  codeAny (model P w) callerA (.call (.ref R) ⟨[.ref a],[]⟩) (λr j=>r=.ok (.ret (.bool true))/\OldK c.heap j.heap/\j.os=c.os/\AllBare j.gens) c:=by
  intro H hO hS A Z hK
  have f:∀ {b:Addr} {o:Obj},c.heap.get? b=some o->H b=none->(zjc c.heap H).get? b=some o:=λe n=>zjS e n
  have S:∀ {b:Addr} {o:Obj} {M:Array DictEntry} {I:Nat},c.heap.get? b=some o->o.data=.dict M I->H b=none:=λ{b o M I} e d=>by
   cases q:H b with
   | none=>rfl
   | some u =>
    have T:b=a:=Z b (by rw[q];simp)
    subst T
    rw[O]at e;cases e
    have d':Data.seq t.toArray _=Data.dict M I:=d
    cases d'
  have l:∀ {b:Addr} {m:wc},c.heap.Ns b m->(zjc c.heap H).Ns b m:=λ{b m} ⟨o,M,I,e,d,r⟩=>⟨o,M,I,f e (S e d),d,r⟩
  have E:K.In (zjc c.heap H):=λb o e=>f (KX b o e) (by
   cases q:H b with
   | none=>rfl
   | some u =>
    have T:b=a:=Z b (by rw[q];simp)
    subst T
    rw[hK (by rw[q];simp)]at e;cases e)
  have hM:Mod K G (zjc c.heap H):=⟨E,l B,⟨U,l g,W⟩,let ⟨mc,h1,h2⟩:=J;⟨mc,l h1,h2⟩⟩
  have e0:zj7 P w K G (zjc c.heap H) callerA [] c H:=⟨rfl,hM,λb o e=>zlv e,Nat.le_of_eq (zfG _ _),trivial,λb g=>absurd (show b∈([]:xX)from g) (by simp),A,.of_eq hg⟩
  refine u1d ((F _ E (l B)).run callerA [] c H ⟨[.ref a],[]⟩ [.ref a] [.ref a] _ _ hr e0 (y c (.ref a)) (.cons rfl .nil) (Q H hO hS)) λr j h=>?_
  cases r with
  | error e=>exact(Y H e j h).elim
  | ok fl =>
   cases fl with
   | next=>exact False.elim h
   | brk=>exact False.elim h
   | cont=>exact False.elim h
   | ret u =>
    obtain⟨v,H',os,D,un,L,r',q⟩:=h
    have q':v=.bl true:=q
    subst q'
    obtain rfl:u=Value.bool true:=r'
    refine⟨rfl,OldK.of_keep λb o e=>?_,os,D⟩
    cases q:H b with
    | none=>exact un.keep b o e q (by intro z;exact absurd (show b∈([]:xX)from z) (by simp)) (by simp)
    | some u =>
     rcases hO b with z | ⟨ob,xs,z⟩
     .rw[q]at z;cases z
     .have z2:=un.frzs b ob _ z
      obtain⟨e1,_⟩:=A b _ z
      obtain⟨e2,_⟩:=L b _ z2
      rw[e]at e1;cases e1
      exact e2
 cases X:K.lookup a with
 | some o =>
  -- the script is one of the module's own objects
  have e:=KX a o X
  rw[O]at e
  cases e
  refine p (λ_=>none) (λ_=>.inl rfl) (.inr ⟨_,t.toArray,_,X,rfl,rfl,rfl,by rw[t7,N];exact hl,by simpa using rv⟩) (λb u z=>by have C:(none:Option HO)=some u:=z;cases C) (λb z=>absurd rfl z) λz=>absurd rfl z
 | none =>
  refine p (λb=>if b=a then some (.frz { cls:=.type "list",data:=.seq t.toArray } (.lst (ns.map V.int)))else none) (λb=>?_) (.inl (.inr ⟨{ cls:=.type "list",data:=.seq t.toArray },t9 rfl⟩)) (λb u z=>?_) (λb z=>?_) λ_=>X
  .by_cases g:b=a
   .exact .inr ⟨_,_,t9 g⟩
   .exact .inl (j5 g)
  .by_cases g:b=a
   .have C:=(t9 g).symm.trans z
    cases C
    subst g
    exact⟨O,by rw[t4];exact hl,t,_,rv,O⟩
   .have C:=(j5 g).symm.trans z
    cases C
  .by_cases g:b=a
   .exact g
   .exact absurd (j5 g) z
def walk_of {l:PySem.W.OpenLaw}{k:Nat}{YP:World->Heap->Prop}{d:DefRec}{K:Params->PySem.W.Frag}{CX:World->CXT}{sp:World->Sp}(N:l.most=some n)(y:n<=sizeLine)(t:d.params.defaults=[])(R:yY k callerA)(P:∀ (w:World) (h:Heap),YP w h->(K w.params).In h) (F:∀ (w:World) (j:wc) (p:Addr) (h:Heap),(K w.params).In h->h.Ns mainGlobals j->j d.name=some (.ref p) ->
 ∃ B:FuncData,(∀ (s:zm) (u:Value),BindsTo s B ⟨[u],[]⟩ [(x,u)]) /\
  ∀ b:Heap,(K w.params).In b->b.Ns mainGlobals j->xu l.prog w (K w.params) j b (CX w) k p B [x] (sp w)) (r:∀ (w:World) (H:Hp) (a:Addr) (ns:zy),ns.length<=n->zqv H->SqL (K w.params) H a (ns.map V.int)->sp w [.ref a] H (λv _=>v=.bl true) λ_ _ _=>False) (A:∀ (w:World) (H:Hp) (s:zm) (e:Value) (C:zm),CX w [] H s (λ_ _ _=>False) e C->False) :
 PySem.W.WalkO q i XP YP l.row.toRowW d [] (λf D=>PySem.call f D):=by
 refine Att.attach_call N t λw s₀ I j Z p o W X S a D ns G Y U T O z m g c M=>?_
 have KX:=P w _ Y
 obtain⟨B,E,Q⟩:=F w j p _ KX G.T.g z
 exact ziA KX G.T.g G.T.b G.T.builtins G.T.nolimit M m g (n0 c y) R Q E (λH J L=>r w H a ns c J L) λH e C=>A w H I e C
def xJ (s:Stmt):Arguments:=match s with
 | .FunctionDef _ a _ _ _ _ _ _ _ _=>a
 | _=>{ posonlyargs:=[],args:=[],vararg:=none,kwonlyargs:=[],kw_defaults:=[],kwarg:=none,defaults:=[] }
def z7 (s:Stmt):wN:=match s with
 | .FunctionDef _ _ b _ _ _ _ _ _ _=>b
 | _=>[]
def zk (s:Stmt):Scope:=match s with
 | .FunctionDef _ _ _ _ _ _ sc _ _ _=>sc
 | _=>{ kind:=.function,names:=[],isGenerator:=false,isCoroutine:=false }
abbrev CX0:CXT:=λ_ _ _ _ _ _=>False
abbrev E0:XK:=λ_ _ _=>False
def Zq:wn CX0 X E0:=λ_ _ _ _ _ _ _ h=>h.elim
structure Fun (K:zu) (x qual:Str) (st:Stmt) (f:Addr) (fd:ww):Prop where
 ex:∃ (oc:Value) (od:yM) (kV doc pm:Value) (an:yM) (cdv ct:Value) (osl:Array (Option Value)),
  fd=W.fnOf x qual (xJ st) (z7 st) (zk st) .none kV doc pm an cdv ct/\K.lookup f=some ⟨oc,od,.func fd,osl⟩/\W.codeIn K cdv qual=true
 kp:W.keepIn K (.ref f)=true
section
variable {P:zO}{w:World}{K:zu}{mg:wc}{base:Heap}
def Fun.ok {f:Addr}{N ps:zD}{k:Nat}{l:Sp}(F:Fun K x a e f m)(S:yz N ps (zk e))(g:∀ d H Q E,l d H Q E->d.length=ps.length) (c:∀ (b:Value) (A:zM) (outer:List Env) (s:zm) (H:Hp) (d:zw) (Q:VK) (E:XK),yY k (A.deeper (envOfC a (zk e) s.heap.objs.size f b))->l d H Q E ->
 ∃ t,PSs (vi CX0 P w K mg base N a (zk e) f b A outer s H E).nox (z7 e) t/\t { nx:=λ_ H'=>Q .non H',rt:=Q } (start N d) H):xu P w K mg base CX0 (k+1) f m ps l:=by
 obtain⟨v,u,kV,o,y,z,b,ct,r,rfl,p,i⟩:=F.ex
 refine zok p i S g λA outer s H d Q E n j=>?_
 obtain⟨t,h,q⟩:=c b A outer s H d Q E n j
 exact⟨t,h.nox,q⟩
def Fun.binds {d:Stmt}{f:Addr}{ps:zD}(F:Fun K x a d f j)(h:∀ (kV b e:Value) (g:yM) (c ct:Value) (i:zx),i.length=ps.length->bindArgs (W.fnOf x a (xJ d) (z7 d) (zk d) .none kV b e g c ct) ⟨i,[]⟩=pure (ps.zip i)):xh K j ps []:=by
 obtain⟨n,m,kV,b,e,g,c,ct,l,rfl,o,k⟩:=F.ex
 exact .all (h kV b e g c ct)
def Xh {x a:Str}{st:Stmt}{f:Addr}{j:Value}{i h:yM}{e:Array (Option Value)}{kV d g b ct:Value}(l:K.lookup f=some ⟨j,i,.func (W.fnOf x a (xJ st) (z7 st) (zk st) .none kV d g h b ct),e⟩)
 (c:W.codeIn K b a=true) (k:W.keepIn K (.ref f)=true):Fun K x a st f (W.fnOf x a (xJ st) (z7 st) (zk st) .none kV d g h b ct):=⟨⟨j,i,kV,d,g,h,b,ct,e,rfl,l,c⟩,k⟩
end
def znx {A:zM}{k:Nat}(a:yY k A):A.units+1<cLine:=l9 (u0M (by decide:1<=64) _) a.units
def yR {n:Nat}(h:n<=1000):n<sizeLine:=l9 h (by decide)
section
variable {X:Cx}
def pv (i:Nat) (c:X.N[i]?=some x:=by rfl) (d:Vis X.env.scope x:=by first | exact Or.inl rfl | exact Or.inr (Or.inl rfl) | exact Or.inr (Or.inr rfl)) (e:(x == ("__debug__":Str))=false:=by decide) (b:(x == ("__classdict__":Str))=false:=by decide):PE X (.Name x a) (xz i):=zpn c d e b
end
def zN (H H':Hp):Prop:=∀ b o,H b=some o->H' b=some o
def zN.refl (H:Hp):zN H H:=λ_ _ h=>h
def zN.trans (a:zN H H1)(b:zN H1 H2):zN H H2:=λc o h=>b c o (a c o h)
def zN.free {H H':Hp}(e:zN H H')(h:H' l=Option.none):H l=Option.none:=by
 cases q:H l with
 | none=>rfl
 | some o =>
  rw[e l o q]at h
  cases h
def zN.seq {K:zu}{H H':Hp}{a:Addr}{b:zw}(e:zN H H')(h:SqL K H a b):SqL K H' a b:=by
 rcases h with (h | ⟨o,h⟩) | h
 .exact .inl (.inl (e _ _ h))
 .exact .inl (.inr ⟨o,e _ _ h⟩)
 .exact .inr h
section
variable {κ:Type}[DecidableEq κ]
def zdv (a:List (κ × V))(k:κ):Option V:=(a.find? λb=>decide (b.1=k)).map (·.2)
def zcv (a:List (κ × V))(k:κ)(v:V):List (κ × V) :=
 if (a.any λb=>decide (b.1=k))=true then a.map (λb=>if b.1=k then (b.1,v)else b)else a++[(k,v)]
def XX {p:κ × V}{k:κ}(e:p.1=k):zdv (p::r) k=some p.2:=by simp[zdv,u0U,e]
def XI {p:κ × V}{k:κ}(e:¬ p.1=k):zdv (p::r) k=zdv r k:=by simp[zdv,u0U,e]
def zaf (k:κ):∀ a:List (κ × V),(a.any λb=>decide (b.1=k))=(zdv a k).isSome
 | []=>rfl
 | p::r=>by
  rw[u1S]
  by_cases e:p.1=k
  .simp only[XX e,q5 e,Bool.true_or,Option.isSome_some]
  .rw[XI e,q4 e,Bool.false_or];exact zaf k r
def WT (a:List (κ × V))(k:κ)(v:V):(zcv a k v).length<=a.length+1:=by
 unfold zcv
 split
 .rw[t4];omega
 .rw[j7,o4,u1X];omega
def zca.isSome_eq {o:Option V}{u:Option Value}(r:zca o u):o.isSome=u.isSome:=by
 cases o with
 | none=>cases u with
  | none=>rfl
  | some _=>exact(show False from r).elim
 | some _=>cases u with
  | none=>exact(show False from r).elim
  | some _=>rfl
def KV.val {f:List (κ × Value)}(r:KV a f)(k:κ):zca (zdv a k) (valueAt f k):=by
 unfold KV at r
 induction r with
 | nil=>exact True.intro
 | @cons p q l d h t i =>
  obtain⟨g,j⟩:=h
  by_cases e:p.1=k
  .have c:q.1=k:=g.symm.trans e
   have b:valueAt (q::d) k=some q.2:=by simp[valueAt,u0U,c]
   rw[XX e,b];exact j
  .have c:¬ q.1=k:=λz=>e (g.trans z)
   have b:valueAt (q::d) k=valueAt d k:=by simp[valueAt,u0U,c]
   rw[XI e,b];exact i
def KV.any {a:List (κ × V)}{c:List (κ × Value)}(r:KV a c)(k:κ):(a.any λb=>decide (b.1=k))=c.any λb=>decide (b.1=k):=by
 unfold KV at r
 induction r with
 | nil=>rfl
 | cons h t d=>rw[u1S,u1S,d,h.1]
def KV.repl {b:List (κ × V)}{d:List (κ × Value)}(r:KV b d)(k:κ)(i:yZ y u) :
 KV (b.map λa=>if a.1=k then (a.1,y)else a) (d.map λa=>if a.1=k then (a.1,u)else a):=by
 unfold KV at r ⊢
 induction r with
 | nil=>exact .nil
 | @cons p q j l h t f =>
  rw[o7,o7]
  refine .cons ?_ f
  obtain⟨c,g⟩:=h
  by_cases e:p.1=k
  .rw[t9 e,t9 (c.symm.trans e)];exact⟨c,i⟩
  .rw[j5 e,j5 (λz=>e (c.trans z))];exact⟨c,g⟩
def KV.put (r:KV a b)(k:κ)(c:yZ y u):KV (zcv a k y) (stored b k u):=by
 unfold zcv stored
 rw[r.any k]
 by_cases e:(b.any λd=>decide (d.1=k))=true
 .rw[t9 e,t9 e];exact r.repl k c
 .rw[j5 e,j5 e];exact Paired.snoc r ⟨rfl,c⟩
def KV.length {a:List (κ × V)}{b:List (κ × Value)}(r:KV a b):a.length=b.length:=u2A r
end
def zmQ {w:World}{k:Key}(r:yZ (kV k) u):(xZ P w).is k u=true:=by
 cases k with
 | inl i=>obtain⟨t,e⟩:=(show ∃ t,u=Value.int i t from r);subst e;exact zcB P w i t
 | inr x=>obtain⟨t,e⟩:=(show ∃ t,u=Value.str x t from r);subst e;exact zbT P w x t
def zbr {w:World}:∀ {a:List Key} {b:zx},yp (a.map kV) b->ItemsAre (xZ P w) a b
 | [],_,r=>by rw[List.map_nil]at r;cases r;exact .nil
 | k::a,_,r=>by
  rw[o7]at r
  cases r with
  | cons h t=>exact .cons (zmQ h) (zbr t)
abbrev KT (H:Hp):zad->List (List Key × Addr × Value)->Prop:=Paired λp q=>p.1=q.1/\H q.2.1=some (.tup (p.1.map kV))/\yZ p.2 q.2.2
def KT.val {f:List (List Key × Addr × Value)}(r:KT H a f)(k:List Key):zca (zdv a k) ((atKey f k).map (·.2)):=by
 induction r with
 | nil=>exact True.intro
 | @cons p q l d h t i =>
  obtain⟨g,_,j⟩:=h
  by_cases e:p.1=k
  .have c:q.1=k:=g.symm.trans e
   have b:atKey (q::d) k=some q.2:=by simp[atKey,u0U,c]
   rw[XX e,b];exact j
  .have c:¬ q.1=k:=λz=>e (g.trans z)
   have b:atKey (q::d) k=atKey d k:=by simp[atKey,u0U,c]
   rw[XI e,b];exact i
def KT.repl {a:zad}{f:List (List Key × Addr × Value)}(r:KT H a f)(k:List Key)(j:yZ y u) :
 KT H (a.map λc=>if c.1=k then (c.1,y)else c) (f.map (putAt k u)):=by
 induction r with
 | nil=>exact .nil
 | @cons p q l m h t i =>
  rw[o7,o7]
  refine .cons ?_ i
  obtain⟨b,d,g⟩:=h
  unfold putAt
  by_cases e:p.1=k
  .rw[t9 e,t9 (b.symm.trans e)];exact⟨b,d,j⟩
  .rw[j5 e,j5 (λz=>e (b.trans z))];exact⟨b,d,g⟩
def KT.put {H:Hp}(r:KT H a c)(k:List Key)(f:H b=some (.tup (k.map kV)))(d:yZ y u) :
 KT H (zcv a k y) (storedH c k b u):=by
 have e:(a.any λg=>decide (g.1=k))=(atKey c k).isSome:=by
  rw[zaf,(r.val k).isSome_eq,u1x]
 unfold zcv storedH
 rw[e]
 by_cases q:(atKey c k).isSome=true
 .rw[t9 q,t9 q];exact r.repl k d
 .rw[j5 q,j5 q];exact Paired.snoc r ⟨rfl,f,d⟩
def KT.keeps {H H':Hp}{d:List (List Key × Addr × Value)}(r:KT H a d)(e:∀ b c,H b=some (.tup c)->H' b=some (.tup c)):KT H' a d :=
 Paired.mapP r λ_ _ z=>⟨z.1,e _ _ z.2.1,z.2.2⟩
section
variable {P:zO}{w:World}{H:Hp}{h:Heap}{a:Addr}
def zn9 (ok:HOk P w H h)(e:Rd H a u):yK P w H h a u:=e.ok ok
def zpl {b:List (Key × V)}(ok:HOk P w H h)(e:Rd H a (.dK b)):b.length<=sizeLine/\(a == sysModules)=false/\∃ c,KV b c/\h.DictOf (xZ P w) a c :=
 show yK P w H h a (.dK b)from zn9 ok e
def zqg {b:List (Key × V)}(ok:HOk P w H h)(e:H a=some (.dK b)):b.length<=sizeLine/\(a == sysModules)=false/\∃ c,KV b c/\h.DictOf (xZ P w) a c:=zpl ok (.inl e)
def zeW {b:List Key}(ok:HOk P w H h)(e:H a=some (.tup (b.map kV))):(tupleKind (xZ P w)).is h b a:=by
 obtain⟨_,c,r,o,f,d,n,g⟩:=(show yK P w H h a (.tup (b.map kV))from ok a _ e)
 exact⟨o,c.toArray,n,f,d,g,by simpa using zbr r⟩
def znq {b:zad}(ok:HOk P w H h)(e:Rd H a (.dT b)):b.length<=sizeLine/\(a == sysModules)=false /\
 ∃ d,KT H b d/\h.DictOfH (tupleKind (xZ P w)) a d:=by
 obtain⟨z,y,d,r,o,A,n,u,s,k,i,v⟩:=(show yK P w H h a (.dT b)from zn9 ok e)
 refine⟨z,y,d,r,o,A,n,u,s,k,i,λx c=>?_,v⟩
 have f:∀ {l:zad} {m:List (List Key × Addr × Value)},KT H l m->∀ x∈m,(tupleKind (xZ P w)).is h x.1 x.2.1:=by
  intro l m q
  induction q with
  | nil=>intro x c;exact nomatch c
  | @cons p q B C g t j =>
   intro x c
   rcases j9.mp c with e | c
   .subst e
    exact zeW ok (by rw[<-g.1];exact g.2.1)
   .exact j x c
 exact f r x c
def zqV {b:zad}(ok:HOk P w H h)(e:H a=some (.dT b)):b.length<=sizeLine/\(a == sysModules)=false /\
 ∃ c,KT H b c/\h.DictOfH (tupleKind (xZ P w)) a c:=znq ok (.inl e)
end
def zqG (H:Hp)(a:Addr)(y:V)(r:Option V):Prop :=
 (∃ c k,Rd H a (.dK c)/\y=kV k/\r=zdv c k)\/∃ c k b,Rd H a (.dT c)/\y=.ref b/\H b=some (.tup (k.map kV))/\r=zdv c k
def zjG (H:Hp)(a:Addr)(y v:V)(H':Hp):Prop :=
 (∃ c k,H a=some (.dK c)/\y=kV k/\c.length<sizeLine/\H'=upd H a (.dK (zcv c k v))) \/
 ∃ c k b,H a=some (.dT c)/\y=.ref b/\H b=some (.tup (k.map kV))/\c.length<sizeLine/\H'=upd H a (.dT (zcv c k v))
def zjG.k {H:Hp}{b:List (Key × V)}{k:Key}(e:H a=some (.dK b))(c:b.length<sizeLine):zjG H a (kV k) v (upd H a (.dK (zcv b k v))):=.inl ⟨b,k,e,rfl,c,rfl⟩
def zjG.t {H:Hp}{c:zad}{k:List Key}(e:H a=some (.dT c))(f:H b=some (.tup (k.map kV)))(d:c.length<sizeLine) :
 zjG H a (.ref b) v (upd H a (.dT (zcv c k v))):=.inr ⟨c,k,b,e,rfl,f,d,rfl⟩
section
variable {X:Cx}{pins:xp}{σ:St}{H:Hp}{s:zm}{a:Addr}{y v:V}{u r:Value}{o:Option V}{A:zM}{E:yT}
def Inv.big (I:Inv X pins σ H s):sysModules<s.heap.objs.size:=by
 have h:mainGlobals<s.heap.objs.size:=(I.mod.glob.keeps I.bk).lt
 exact Nat.lt_trans (by decide) h
def d_in {Q:yT}(p:A.units+1<cLine)(I:Inv X pins σ H s)(g:zqG H a y o)(m:yZ y u)(h:∀ n,Inv X pins σ H n->Q (.bool o.isSome) n) :
 wpAny (model X.prog X.w) A (compareOp .In u (.ref a)) Q E s:=by
 rcases g with ⟨j,k,e,d,l⟩ | ⟨j,k,b,e,d,r,l⟩
 .subst d
  obtain⟨z,f,t,c,i⟩:=zpl I.hok e
  refine wpAny_in_of (zmQ m) f i.mapOf ?_
  rw[<-(c.val k).isSome_eq,<- l]
  exact h _ (I.tok _)
 .subst d
  cases (show u=Value.ref b from m)
  obtain⟨z,f,v,c,i⟩:=znq I.hok e
  refine wpAny_in_heap (tupleKind_room_in1 p) (zeW I.hok r) f i ?_
  have q:=(c.val k).isSome_eq
  rw[u1x]at q
  rw[<-q,<- l]
  exact h _ (I.tok _)
def zfi {c:Heap}{i:Nat}{d:HO}(I:Inv X pins σ H s)(k:Mut (H a))(g:Heap.SameBut a s.heap c)(h:∃ q,c.get? a=some q)(f:yK X.prog X.w (upd H a d) c a d) :
 Inv X pins σ (upd H a d) { s with heap:=c,toks:=i } :=
 I.write (x:=a) (e:=a) k (.inl rfl) (λb q j z=>(g.2 b j).trans z) h f
def zn1 {w:World}{e:Heap}{b:List (Key × V)}{d:List (Key × Value)}(z:b.length<=sizeLine)(g:(a == sysModules)=false)(c:KV b d)(f:e.DictOf (xZ P w) a d) :
 yK P w H' e a (.dK b):=⟨z,g,d,c,f⟩
def zfc {Q:Unit->Shared->Prop}(P:A.units+1<cLine)(I:Inv X pins σ H s)(g:zjG H a y v H')(C:yZ y u)(B:yZ v r)(h:∀ J,Inv X pins σ H' J->Q () J) :
 wpAny (model X.prog X.w) A (setItem (.ref a) u r) Q E s:=by
 rcases g with ⟨f,k,e,t,l,w⟩ | ⟨f,k,b,e,t,G,l,w⟩
 .subst t w
  obtain⟨z,n,R,d,o⟩:=zqg I.hok e
  have x:R.length<=sizeLine:=by rw[<-d.length];exact z
  have m:(zcv f k v).length<=sizeLine:=by have:=WT f k v;omega
  refine wpAny_setItem_pairs (hsz:=x) (zmQ C) o λF i p=>h _ ?_
  have T:∃ q,F.get? a=some q:=let ⟨q,_,_,j,_⟩:=i;⟨q,j⟩
  exact zfi I (by rw[e];exact True.intro) p T (zn1 m n (d.put k B) i)
 .subst t w
  cases (show u=Value.ref b from C)
  obtain⟨z,n,M,d,o⟩:=zqV I.hok e
  have x:M.length<=sizeLine:=by rw[<-u2A d];exact z
  have m:(zcv f k v).length<=sizeLine:=by have:=WT f k v;omega
  refine wpAny_setItem_heap (hsz:=x) (tupleKind_room_in1 P) (zeW I.hok G) o λF i p=>h _ ?_
  obtain⟨q,N,L,j,S,K,O,_,U⟩:=i
  refine zfi I (by rw[e];exact True.intro) p ⟨q,j⟩ ⟨m,n,_,(d.put k G B).keeps λc V D=>?_,q,N,L,j,S,K,O,U⟩
  rw[zf (zjD D e (λz=>nomatch z))]
  exact D
end
def zqL (b ty c:TE):TS:=λD σ H=>c σ H λv H1=>b σ H1 λx H2=>ty σ H2 λy H3=>∃ a H4,x=.ref a/\zjG H3 a y v H4/\D.nx σ H4
section
variable {X:Cx}{o i e value:Expr}{pos pos' tpos:Pos}{td ty tv:TE}
def zlM (q:X.A.units+1<cLine)(e:PE X o td)(w:PE X i ty)(f:PE X value tv)(n:swapsWith value (some (.Subscript o i pos')) pos.line X.env=pure false) :
 PS X (.Assign [.Subscript o i pos'] value pos) (zqL td ty tv):=by
 intro b s σ H D I h
 refine wpAny_Assign_Subscript (thn (f b s σ H _ I h) λr j ⟨v,H1,I1,d,l⟩=>thn (e b j σ H1 _ I1 l) λu t ⟨x,H2,I2,p,c⟩=>thn (w b t σ H2 _ I2 c) λz A hh9=>?_) n
 obtain⟨y,H3,I3,k,a,H4,ex,g,m⟩:=hh9
 subst ex
 obtain rfl:u=Value.ref a:=p
 exact zfc q I3 g k d λB I4=>⟨σ,H4,I4,m⟩
end
def zjE {w:World} (h:Heap) (a:sysModules<h.objs.size):yK P w H (h.push { cls:=.type "dict",data:=.dict #[] }) h.objs.size (.dK []) :=
 ⟨p9 _,g6.mpr (u0k (r0 a)),[],.nil,Heap.DictOf.new h⟩
def zje {w:World} (h:Heap) (a:sysModules<h.objs.size):yK P w H (h.push { cls:=.type "dict",data:=.dict #[] }) h.objs.size (.dT []) :=
 ⟨p9 _,g6.mpr (u0k (r0 a)),[],.nil,_,#[],0,k9 _ rfl,⟨rfl,rfl,rfl⟩,rfl,rfl,List.nodup_nil⟩
def zo7:TE:=λ_ H Q=>∀ p,H p=none->Q (.ref p) (upd H p (.dK []))
def znz:TE:=λ_ H Q=>∀ p,H p=none->Q (.ref p) (upd H p (.dT []))
section
variable {X:Cx}{pos:Pos}
def ziZ:PE X (.Dict [] [] pos) zo7:=λb s σ H Q I h =>
 wpAny_Dict_empty ⟨.ref s.heap.objs.size,_,I.laid (a:=s.heap.objs.size) (o:=.dK []) (t':=s.toks) (λ_ _ q=>u8 _ q) (t6 _) (zjE s.heap I.big),rfl,h _ (I.hok.fresh (t6 _))⟩
def ziV:PE X (.Dict [] [] pos) znz:=λb s σ H Q I h =>
 wpAny_Dict_empty ⟨.ref s.heap.objs.size,_,I.laid (a:=s.heap.objs.size) (o:=.dT []) (t':=s.toks) (λ_ _ q=>u8 _ q) (t6 _) (zje s.heap I.big),rfl,h _ (I.hok.fresh (t6 _))⟩
end
def zcF {X:Cx}:Yh X (.builtin "isinstance") (λc H Q=>∃ x n t b,c=[x,.ty n]/\zdI X.K H x t/\W.kitOne X.K t (.type n)=some b/\Q (.bl b) H):=by
 intro a s σ H c g Q I r h
 obtain⟨x,n,t,b,rfl,ty,e,q⟩:=h
 obtain⟨u,f,rfl,d,rt⟩:=zlq r
 cases (show f=Value.type n from rt)
 exact zho I d ty e λi=>⟨.bl b,H,I.tok _,rfl,q⟩
def zb8:OpR X (compareOp .IsNot) (λx y H Q=>∃ i j,x=.bl i/\y=.bl j/\Q (.bl (!(i == j))) H):=by
 intro a s σ H x y v u Q I b c h
 obtain⟨i,j,rfl,rfl,q⟩:=h
 cases b
 cases c
 refine wpAny_isNot_plain (by rfl) ⟨.bl (!(i == j)),H,I,?_,q⟩
 cases i <;> cases j <;> rfl
def zkP (K:zu):R2:=λx y H Q=>∃ a b c d,x=.ref a/\y=.ref b/\SqT K H a c/\SqT K H b d/\c.length+d.length<=sizeLine /\
 (c=[]->Q (.ref b) H)/\(c≠[]->d=[]->Q (.ref a) H)/\(c≠[]->d≠[]->∀ p,H p=none->Q (.ref p) (upd H p (.tup (c++d))))
def zi1 {X:Cx}:OpR X (binaryOp .Add) (zkP X.K):=by
 intro g s σ H x y v u Q I A z h
 obtain⟨a,b,w,N,rfl,rfl,q,B,P,K,L,E⟩:=h
 by_cases j:w=[]
 .subst j
  cases A
  cases z
  obtain⟨O,r,p,_⟩:=I.tuple q
  obtain⟨i,R,J,_⟩:=I.tuple B
  cases r
  obtain⟨⟨cls,F,data,M⟩,t,D,n,o⟩:=id p
  obtain⟨⟨C,m,l,k⟩,c,f,G,d⟩:=id J
  simp only at D o f d
  subst D o f d
  exact concat_meets ⟨_,t,rfl⟩ ⟨_,c,rfl⟩ noFill_tuple_add seq_tuple_add u1s u1m (u1c _ _)
   (tuple_addW0 a b #[] i.toArray n G F m M k rfl) ⟨t,c,⟨.ref b,H,I,rfl,K rfl⟩⟩
 .refine zmK g s σ H (.ref a) (.ref b) v u Q I A z ⟨a,b,w,N,rfl,rfl,q,B,j,P,?_⟩
  exact⟨λe=>L j e,λe=>E j e⟩
inductive Z9:St->St->Prop where
 | nil:Z9 [] []
 | non {a:Option V} {s t:St}:Z9 s t->Z9 (none::s) (a::t)
 | same {a:Option V} {s t:St}:Z9 s t->Z9 (a::s) (a::t)
def Z9.refl:∀ s:St,Z9 s s
 | []=>.nil
 | _::r=>.same (Z9.refl r)
def Z9.length {s t:St}(h:Z9 s t):s.length=t.length:=by
 induction h with
 | nil=>rfl
 | non _ a=>simp[a]
 | same _ a=>simp[a]
def Z9.get {t:St}(h:Z9 s t):∀ (i:Nat) (v:V),s[i]?=some (some v)->t[i]?=some (some v):=by
 induction h with
 | nil=>intro i v e;exact e
 | non _ a =>
  intro i v e
  cases i with
  | zero=>simp at e
  | succ i=>simpa using a i v (by simpa using e)
 | same _ a =>
  intro i v e
  cases i with
  | zero=>simpa using e
  | succ i=>simpa using a i v (by simpa using e)
def Z9.set {n:Nat}:∀ {s t:St},Z9 s t->s[n]?=some none->Z9 s (t.set n (some v))
 | _,_,.nil,_=>.nil
 | _,_,.non (a:=a) h,e=>by
  cases n with
  | zero=>exact .non h
  | succ n=>exact .non (Z9.set h (by simpa using e))
 | _,_,.same (a:=a) h,e=>by
  cases n with
  | zero =>
   have b:a=none:=by simpa using e
   subst b
   exact .non h
  | succ n=>exact .same (Z9.set h (by simpa using e))
def Inv.sub (I:Inv X a σ H s)(h:Z9 b σ):Inv X a b H s:=I.weak h.length h.get
def PIf (X:Cx)(b:yX)(t:TT):Prop :=
 ∀ (a:xp) (s:zm) (σ:St) (H:Hp) (Q:Bool->Hp->Prop),Inv X a σ H s->t σ H Q ->
  wpAny (model X.prog X.w) X.A (forIn b true λc r=>if r=true then do let ok<-isTrue c X.env (eval c X.env);pure (ForInStep.yield ok)else pure (ForInStep.yield r)) (TP X a σ Q) X.xe s
def tYes:TT:=λ_ H Q=>Q true H
def zgB:PIf X [] tYes:=by
 intro a s σ H Q I h
 rw[List.forIn_nil]
 exact t5 ⟨H,I,h⟩
def zmh {t:TT}(d:PT X c t):PIf X [c] t:=by
 intro a s σ H Q I h
 rw[u2P]
 refine u5 ?_
 rw[t9 rfl]
 refine u5 (thn (d a s σ H Q I h) λb e q=>t5 ?_)
 show wpAny _ _ (forIn [] b _) _ _ _
 rw[List.forIn_nil]
 exact t5 q
section
variable {prog:zO}{w:World}{A:zM}{R:Result->Shared->Prop}{s:zm}
def YO {g:Expr}{f:yX}{k:Pos}(I:Nat->Shared->Prop) (turn:∀ n s,I n s->wpAny (model prog w) A (pyNext l) (λr p=>match r with
 | none=>R (.ok .next) p
 | some v=>wpAny (model prog w) A (letOwnedTupleGo a l v) (λ_ j=>wpAny (model prog w) A (assign a env v) (λ_ u =>
  wpAny (model prog w) A (forIn f true λc r=>if r=true then do let ok<-isTrue c env (eval c env);pure (ForInStep.yield ok)else pure (ForInStep.yield r)) (λok o =>
   if ok=true then wpAny (model prog w) A (eval g env) (λx z =>
    wpAny (model prog w) A (call (.builtin "list.append") [i,x]) (λ_ y=>∃ m,m<n/\I m y) (λ_ _=>False) z) (λ_ _=>False) o
   else ∃ m,m<n/\I m o) (λ_ _=>False) u) (λ_ _=>False) j) (λ_ _=>False) p) (λ_ _=>False) s) (n:Nat) (h:I n s) :
 codeAny (model prog w) A (.compLoop (.ListComp g [⟨a,e,f,0⟩] b k) 0 l i env) R s:=by
 refine codeAny_loop rfl I (λn s D=>?_) n h
 show wpAny _ A ((compTurn (.ListComp g [⟨a,e,f,0⟩] b k) 0 l i env).onRaise (λx=>do noteFrame x env;theTreesLotGoes x)) _ _ s
 refine wpAny_noted ?_
 rw[compTurn_list]
 refine u5 (u1q (u5 (p0 (turn n s D) (λr p B=>?_) λ_ _ d=>d.elim)))
 cases r with
 | none=>exact t5 B
 | some v =>
  refine u5 (p0 B (λ_ j q=>?_) λ_ _ d=>d.elim)
  refine u5 (p0 q (λ_ u C=>u5 (p0 C (λok o t=>?_) λ_ _ d=>d.elim)) λ_ _ d=>d.elim)
  cases ok with
  | false=>exact t5 ⟨rfl,t⟩
  | true =>
   exact u5 (u5 (p0 t (λx z E=>u5 (p0 E (λ_ y F=>t5 (t5 ⟨rfl,F⟩)) λ_ _ d=>d.elim)) λ_ _ d=>d.elim))
end
def tLC (e:TI)(n:Nat)(g:TG)(h:TT)(f:TE):TE:=fun σ H Q=>e σ H λJ H1=>∀ D,H1 D=none->∃ W:Nat->Nat->zw->Hp->Prop,(∃ m,W 0 m [] (upd H1 D (.lst []))) /\
 ∀ i m a H2,W i m a H2->(J.stop i H2/\Q (.ref D) H2)\/(J.go i H2/\a.length<sizeLine/\∀ x H3,J.yld i H2 x H3->g x (List.replicate n none++σ) H3 λd H4=>h d H4 λb H5 =>
  if b=true then f d H5 λy H6=>H6 D=some (.lst a)/\∃ c,c<m/\W (i+1) c (a++[y]) (upd H6 D (.lst (a++[y])))else ∃ c,c<m/\W (i+1) c a H5)
def YW {α:Type}:∀ {l:List (Str × α)} {y:Str},y∈l.map Prod.fst->∃ c,l.lookup y=some c
 | [],_,h=>by simp at h
 | (k,v)::r,y,h=>by
  by_cases e:y=k
  .exact⟨v,by simp[List.lookup,e]⟩
  .obtain⟨c,a⟩:=YW (l:=r) (y:=y) (by simpa [e]using h)
   have b:(y == k)=false:=g6.mpr e
   exact⟨c,by simp only[List.lookup,b];exact a⟩
def v9 {α:Type}{P:α->Prop}:∀ p∈([]:List α),P p:=λ_ h=>nomatch h
def all_cons {α:Type}{P:α->Prop}{a:α}{l:List α}(h:P a)(t:∀ p∈l,P p):∀ p∈a::l,P p:=λp b=>by
 rcases j9.mp b with e | b
 .rw[e];exact h
 .exact t p b
def gs1 (σ:St)(v:V)(H:Hp)(Q:vV)(h:xG 0 v (List.replicate 1 none++σ) H Q):xG 0 v (List.replicate 1 none++σ) H (λa H2=>Z9 (List.replicate 1 none++σ) a/\Q a H2):=⟨.set (.refl _) rfl,h⟩
def XH (X:Cx)(L M:zD)(a:Scope)(b:Vc)(s₀:zm)(H₀:Hp)(ex:xX)(pn:xp):Cx :=
 { X with N:=L++M,s₀:=s₀,H₀:=H₀,env:=compEnvC a b s₀.heap.objs.size X.env,outer:=X.stack,stack:=X.stack,ex:=ex,fn:=λ_=>false,pn:=pn,xe:=λ_ _=>False }
structure xT (X:Cx) (L M:zD) (scope:Scope) (cl:Vc):Prop where
 clos:closureFor scope X.env=pure cl
 cell:∀ y∈scope.names,y.2≠.cell
 kind:scope.kind=.function
 names:∀ y∈scope.names,y.2=.local->scope.names.lookup y.1=some .local
 sub:∀ y c,cl.lookup y=some c->X.env.cells.lookup y=some c
 has:∀ y,((relabel scope X.env).names.lookup y=some .cell\/(relabel scope X.env).names.lookup y=some .free)->∃ c,cl.lookup y=some c
 mlen:M.length=X.N.length
 msk:∀ (i:Nat) y,M[i]?=some y->Vis (relabel scope X.env) y->X.N[i]?=some y
 vis:∀ (i:Nat) y,M[i]?=some y->Vis (relabel scope X.env) y->((relabel scope X.env).names.lookup y=some .cell\/(relabel scope X.env).names.lookup y=some .free)
 out:∀ (i:Nat) y,M[i]?=some y->Vis (relabel scope X.env) y->Vis X.env.scope y/\X.env.kindOf y≠some .local
def Inv.letGo {s:zm}(I:Inv X a σ H s)(f:zeD X a H C)(g:Heap.SameBut C s.heap j):Inv X a σ H { s with heap:=j }:=by
 obtain⟨k,m,w,l,p,r⟩:=f
 have h:∀ b,b∉[C]->b≠C:=λb i z=>i (by rw[z];exact t8.mpr rfl)
 refine I.call' (s':={ s with heap:=j }) (ch:=[C]) rfl ⟨λb o e _ _ d=>(g.2 b (h b d)).trans e,λb o e _ _ d=>⟨o.slots,(g.2 b (h b d)).trans e⟩,λ_ _ _ n _=>n,λb o e d=>⟨o,(g.2 b (h b d)).trans e⟩,λ_ _ q=>q,λ_ _ _ q=>q,λ_ x q=>⟨#[],by rw[q];simp⟩⟩ ?_ I.bare λb i=>?_
 .intro b t e
  refine(I.hok b t e).stay (λc v u q=>(g.2 c ?_).trans q) (λ_ q=>q) λ_ _ q=>q
  rintro rfl
  rcases u with z | z
  .rw[<-z,k]at e;cases e
  .rw[k]at z;cases z
 .rw[t8.mp i]
  exact⟨l,m,p,r⟩
def zh0 {X:Cx}{t:Expr}{L:zD}{g:TG}{tt:TT}(hc:X.calm=true)(S:xT X L M a cl)(hi:PI X tg t wi)(e6:∀ (σ:St) (v:V) (H:Hp) (Q:vV),g v (List.replicate L.length none++σ) H Q->g v (List.replicate L.length none++σ) H (fun σ2 H2=>Z9 (List.replicate L.length none++σ) σ2/\Q σ2 H2))(hg:∀ s₀ H₀ ex pn,PG (XH X L M a cl s₀ H₀ ex pn) tg g)(ht:∀ s₀ H₀ ex pn,PIf (XH X L M a cl s₀ H₀ ex pn) a0 tt)(he:∀ s₀ H₀ ex pn,PE (XH X L M a cl s₀ H₀ ex pn) a8 te)(hs:∀ x,foldedSetIterable t X.env x=pure x:=by intro _;rfl) :
 ∀ (N:Pos) (f:xp) (s:zm) (σ:St) (H:Hp) (Q:VK),Inv X f σ H s->tLC wi L.length g tt te σ H Q ->
  (∀ (D C:Addr) (H':Hp) (F:zm),Inv X f σ H' F->(∃ m,F.heap.Ns C m)->zeD X f H' C->Q (.ref D) H'->compPost (model X.prog X.w) X.A X.xe use Qf (.ref D) C (.ok .next) F) ->
  wpAny (model X.prog X.w) X.A (comprehension (.ListComp a8 [⟨tg,t,a0,0⟩] a c9) a X.env N (newList []) false (eval t X.env) use) Qf X.xe s:=by
 intro N f s σ H Q I h fin
 refine wpAny_comprehension_free (use:=use) rfl hs S.clos S.kind S.names (thn (hi f s σ H _ I h) λv s1 h1=>thn h1 λe9 l h2=>?_)
 obtain⟨it,B,tn,J,H2,e,I2,T,b9,f2,q⟩:=h2
 subst e
 have hD:H2 l.heap.objs.size=none:=I2.hok.fresh (t6 _)
 obtain⟨W,⟨m0,w0⟩,turn⟩:=q _ hD
 refine l8 (wpAny_newFunctionEnv S.cell (by intro y hy;simp at hy) (λh₁ Z O=>?_) S.kind)
 have I3:Inv X f σ (upd H2 l.heap.objs.size (.lst [])) { l with heap:=l.heap.push { cls:=.type "list",data:=.seq ([]:zx).toArray } }:=by
  refine I2.laid (t':=l.toks) (λb u e=>u8 _ e) (t6 _) ?_
  exact⟨p9 _,[],0,.nil,k9 _ rfl⟩
 generalize c0:({ l with heap:=l.heap.push { cls:=.type "list",data:=.seq ([]:zx).toArray } }:zm)=s3 at I3 Z O ⊢
 have P:∀ b∈B,b<l.heap.objs.size:=λb j=>by
  obtain⟨o,ho,_⟩:=T.obj _ _ b9 b j
  exact j4 ho
 have e7:s3.heap.objs.size=l.heap.objs.size+1:=by rw[<-c0];exact u0c ..
 have d9:∀ b o,l.heap.get? b=some o->s3.heap.get? b=some o:=λb o e=>by rw[<-c0];exact u8 _ e
 have w:∀ b o,s3.heap.get? b=some o->h₁.get? b=some o:=λb o e=>(O.2 b (r0 (j4 e))).trans (u8 _ e)
 generalize d5:upd H2 l.heap.objs.size (.lst [])=H3 at I3 w0
 have b5:∀ b∈B,H3 b=none:=λb j=>by
  rw[<-d5,zf (r0 (P b j))]
  exact(f2 b j).1
 have b6:∀ b∈B,b∉frs X.stack:=λb j z=>by
  obtain⟨_,n1,n2,_⟩:=f2 b j
  rcases j9.mp (I3.stkSub b z)with e | e
  .exact n1 e
  .exact n2 e
 let Y:Cx:=XH X L M a cl s3 H3 B (X.pn++f)
 have OkY:Y.Ok:=by
  refine⟨I.ok.mod,S.kind,I.ok.glob,I.ok.blt,t6 _,λx y c h1 h2=>I.ok.inj x y c (S.sub x c h1) (S.sub y c h2),λx hx=>S.has x hx,(λx c h _=>absurd h u7),I.ok.hd,I.ok.frames,.inl rfl,λb j=>⟨?_,λx c e z=>?_⟩,
   λb o e=>I3.bs b o e,n0 I.ok.bsz I3.sz,λb o e j=>?_,b6,I3.stack,I3.stkFree⟩
  .show b≠s3.heap.objs.size
   exact r0 (q7 (P b j) (by rw[e7];exact u1w _))
  .exact(f2 b j).2.2.2.2.1 x c (S.sub x c e) z
  .rcases(f2 b j).2.2.2.1 with z | z
   .exact I.ok.noex b o e z
   .have h1:=j4 e
    have h2:=I.ok.bsz
    exact absurd (q7 h1 (n0 h2 z)) (u0t _)
 have I4:Inv Y [] (List.replicate L.length none++σ) H3 { s3 with heap:=h₁,toks:=s3.toks+([]:List (Str × Value)).length }:=by
  refine⟨OkY,rfl,I3.bare,Un.kept w,⟨_,Z,λi y v e1 e2 e3=>?_⟩,λx c e=>?_,I3.hok.fresh (t6 _),λx c e=>I3.freeC x c (S.sub x c e),λp hp=>?_,I3.hok.kept w,?_⟩
  .have hi:¬ i<L.length:=λe4=>by
    rw[g0 (by simpa using e4),u0d]at e2
    split at e2 <;> cases e2
   have a9:M[i-L.length]?=some y:=by
    have e1:(L++M)[i]?=some y:=e1
    rw[g9 (by omega)]at e1
    exact e1
   have d2:σ[i-L.length]?=some (some v):=by rw[g9 (by simpa using u0B hi)]at e2;simpa using e2
   have e0:=S.msk _ y a9 e3
   obtain⟨ov,ok⟩:=S.out _ y a9 e3
   obtain⟨m,hn,hl⟩:=I3.loc
   obtain⟨u,ru,lk⟩:=hl _ y v e0 d2 ov
   refine⟨u,ru,?_⟩
   rcases lk with ⟨hk,_⟩ | ⟨_,c,d7,b0⟩
   .exact absurd hk ok
   .have kn:=S.vis _ y a9 e3
    obtain⟨c',c5⟩:=S.has y kn
    have:=S.sub y c' c5
    rw[d7]at this
    cases this
    refine .inr ⟨kn,c,c5,?_⟩
    obtain⟨o,ho,hd⟩:=b0
    exact⟨o,w _ _ ho,hd⟩
  .obtain⟨v,o,ho,hd⟩:=I3.cell x c (S.sub x c e)
   exact⟨v,o,w _ _ ho,hd⟩
  .have a6:p∈X.pn++f:=o5 (X.pn++f) ▸ hp
   obtain⟨a1,a2,a3,a4,a5⟩:=I3.pin p a6
   refine⟨w _ _ a1,a2,r0 (j4 a1),λz=>?_,a5⟩
   rcases j9.mp (I3.stkSub p.1 z)with e | e
   .exact a3 e
   .exact a4 e
  .show(List.replicate L.length none++σ).length=(L++M).length
   rw[j7,j7,List.length_replicate,I.len,S.mlen]
 have b4:∀ {H':Hp},(∀ b∈B,H' b=none)->∀ b∈B,zeD Y [] H' b:=λ{H'} hn b j=>by
  refine⟨hn b j,(OkY.exf b j).1,b6 b j,.inl j,(OkY.exf b j).2,λp hp=>?_⟩
  have a6:p∈X.pn++f:=o5 (X.pn++f) ▸ hp
  exact(f2 b j).2.2.2.2.2 p a6
 have c2:tn 0 h₁:=T.keep _ _ _ b9 λb j o e=>w b o (d9 b o e)
 -- behind the E
 have c3:∀ (H':Hp) (F:zm),Inv Y [] (List.replicate L.length none++σ) H' F->Q (.ref l.heap.objs.size) H'->compPost (model X.prog X.w) X.A X.xe use Qf (.ref l.heap.objs.size) s3.heap.objs.size (.ok .next) F:=λH' F J' q'=>by
  obtain⟨m,hn,_⟩:=J'.loc
  refine fin _ _ H' F (I3.call' (ch:=B) J'.os J'.base J'.hok J'.bare λb j=>?_) ⟨m,hn⟩ (I3.fpOk (t6 _) J'.free) q'
  obtain⟨_,n1,_,n3,n4,n5⟩:=f2 b j
  exact⟨n3,n1,n4,n5⟩
 have E:codeAny (model X.prog X.w) X.A (.compLoop (.ListComp a8 [⟨tg,t,a0,0⟩] a c9) 0 (.ref it) (.ref l.heap.objs.size) (compEnvC a cl s3.heap.objs.size X.env))
  (compPost (model X.prog X.w) X.A X.xe use Qf (.ref l.heap.objs.size) s3.heap.objs.size) { s3 with heap:=h₁,toks:=s3.toks+([]:List (Str × Value)).length }:=by
  refine YO (λn F=>∃ i G H',Inv Y [] (List.replicate L.length none++σ) H' F/\tn i F.heap/\(∀ b∈B,H' b=none)/\W i n G H') ?_ m0 ⟨0,[],H3,I4,c2,b5,w0⟩
  rintro n s5 ⟨i,G,H5,I5,c4,c8,w5⟩
  rcases turn i n G H5 w5 with ⟨b8,qn⟩ | ⟨go,c7,c1⟩
  .refine thn (T.done Y rfl rfl rfl hc i [] s5 _ H5 _ I5 (b4 c8) c4 b8) λr s6 hh9=>?_
   obtain⟨hr,I6⟩:=hh9
   subst hr
   exact c3 H5 s6 I6 qn
  .refine thn (T.item Y rfl rfl rfl hc i [] s5 _ H5 _ I5 (b4 c8) c4 go) λr s6 hh9=>?_
   obtain⟨u,hr,h6⟩:=hh9
   subst hr
   refine thn h6 λ_ s7 hh9=>?_
   obtain⟨x,H7,I7,r7,y7,a7,e8⟩:=hh9
   have I7':=I7.pinned (b4 e8) (T.obj _ _ a7)
   have g7:=e6 σ x H7 _ (c1 x H7 y7)
   refine thn (hg _ _ _ _ _ s7 _ H7 x u _ I7' r7 g7) λ_ s8 hh9=>?_
   obtain⟨σ8,H8,I8,R,q8⟩:=hh9
   have again:∀ {σ9:St} {H9:Hp} {s9:zm} {zs:zw},Inv Y ([]++VF B s7.heap) σ9 H9 s9->Z9 (List.replicate L.length none++σ) σ9->(∃ m',m'<n/\W (i+1) m' zs H9) ->
    ∃ m,m<n/\∃ i G H',Inv Y [] (List.replicate L.length none++σ) H' s9/\tn i s9.heap/\(∀ b∈B,H' b=none)/\W i m G H':=λ{σ9 H9 s9 zs} I9 sub9 w9=>by
    obtain⟨m',hm,w9⟩:=w9
    refine⟨m',hm,i+1,zs,H9,(I9.sub sub9).unpinned,T.keep _ _ _ a7 λb j o e=>(I9.pin (b,o) (o8 _ (o8 _ (vJ j e)))).1,λb j=>?_,w9⟩
    obtain⟨o,e,d⟩:=T.obj _ _ a7 b j
    exact(I9.pin (b,o) (o8 _ (o8 _ (vJ j e)))).2.1
   refine thn (ht _ _ _ _ _ s8 σ8 H8 _ I8 q8) λb s9 hh9=>?_
   obtain⟨H9,I9,q9⟩:=hh9
   cases b with
   | false =>
    rw[j5 u7]at q9
    rw[j5 u7]
    exact again I9 R q9
   | true =>
    rw[t9 rfl]at q9
    rw[t9 rfl]
    refine thn (he _ _ _ _ _ s9 σ8 H9 _ I9 q9) λy K hh9=>?_
    obtain⟨yv,H10,I10,d3,U,d6⟩:=hh9
    obtain⟨d4,A,k,rv,d8⟩:G.length<=sizeLine/\∃ (A:zx) (n:Nat),yp G A/\K.heap.get? l.heap.objs.size=some { cls:=.type "list",data:=.seq A.toArray n }:=I10.hok _ _ U
    have c6:K.heap.PlainList l.heap.objs.size A.toArray:=⟨k,d8⟩
    refine wpAny_list_append_plain (hsz:=by rw[t7,<- rv.length];exact d4) c6 λe5 b7 d0=>?_
    obtain⟨k',d1⟩:=b7
    have I11:Inv Y ([]++VF B s7.heap) σ8 (upd H10 l.heap.objs.size (.lst (G++[yv]))) { K with heap:=e5 }:=by
     refine I10.write (x:=l.heap.objs.size) (e:=l.heap.objs.size) (t':=K.toks) (by rw[U];exact True.intro) (.inl rfl) (λb u j e=>(d0.2 b j).trans e) ⟨_,d1⟩ ?_
     refine⟨by rw[j7];show G.length+1<=sizeLine;exact c7,A++[y],k',rv.append (.cons d3 .nil),?_⟩
     rw[d1]
     simp
    exact again I11 R d6
 exact codeAny_compStart_list E (T.self _ 0 _ _ _ c2 E)
def zkn {X:Cx}{L:zD}{g:TG}{p:TT}(E:X.calm=true)(S:xT X L M a i)(B:PI X j b r)(k:∀ (σ:St) (v:V) (H:Hp) (Q:vV),g v (List.replicate L.length none++σ) H Q->g v (List.replicate L.length none++σ) H (λn H2=>Z9 (List.replicate L.length none++σ) n/\Q n H2))(u:∀ s₀ H₀ ex pn,PG (XH X L M a i s₀ H₀ ex pn) j g)(y:∀ s₀ H₀ ex pn,PIf (XH X L M a i s₀ H₀ ex pn) c p)(t:∀ s₀ H₀ ex pn,PE (XH X L M a i s₀ H₀ ex pn) e o)(A:∀ x,foldedSetIterable b X.env x=pure x:=by intro _;rfl) :
 PE X (.ListComp e [⟨j,b,c,0⟩] a l) (tLC r L.length g p o):=by
 intro d s σ H Q I h
 rw[eval_ListComp]
 refine zh0 E S B k u y t A _ d s σ H Q I h λD C H' G I' ⟨m,w⟩ f q=>⟨m,w,λF z=>⟨.ref D,_,I'.letGo f z,rfl,q⟩⟩
def znv {i:Nat}{t p:Pos}{X:Cx}{k:Expr}{L:zD}{g:TG}(hN:X.N.Nodup)(A:X.N[i]?=some x)(T:Loc X.env.scope x)(hc:X.calm=true)(S:xT X L M a y)(hi:PI X r c R)(F:∀ (σ:St) (v:V) (H:Hp) (Q:vV),g v (List.replicate L.length none++σ) H Q->g v (List.replicate L.length none++σ) H (λw H2=>Z9 (List.replicate L.length none++σ) w/\Q w H2))(W:∀ s₀ H₀ ex pn,PG (XH X L M a y s₀ H₀ ex pn) r g)(Y:∀ s₀ H₀ ex pn,PIf (XH X L M a y s₀ H₀ ex pn) j O)(U:∀ s₀ H₀ ex pn,PE (XH X L M a y s₀ H₀ ex pn) k J)(hs:∀ x,foldedSetIterable c X.env x=pure x:=by intro _;rfl)(G:swapsWith (.ListComp k [⟨r,c,j,0⟩] a l) (some (.Name x t)) p.line X.env=pure true:=by rfl)(Z:X.fn x=true\/X.env.scope.names.lookup x=some .local:=by first | exact .inl rfl | exact .inr rfl | assumption) :
 PS X (.Assign [.Name x t] (.ListComp k [⟨r,c,j,0⟩] a l) p) (XF (tLC R L.length g O J) (xG i)):=by
 intro n s σ H D I h
 rw[exec_Assign_Name_used _ _ _ _ G]
 refine u5 (u1q (u5 ?_))
 show wpAny _ X.A (do let _<-comprehension (.ListComp k [⟨r,c,j,0⟩] a l) a X.env _ (newList []) false (eval c X.env) (some (assign (.Name x t) X.env))) _ _ s
 refine u5 (thn (zh0 (use:=some (assign (.Name x t) X.env)) (Qf:=λ_ u=>SP X n D .next u) hc S hi F W Y U hs _ n s σ H _ I h λD' C H' u I' ⟨m,K⟩ f q=>?_) λ_ u hq=>t5 (t5 hq))
 have B:∀ b∈[C],∃ o,u.heap.get? b=some o/\∀ v,o.data≠.cell v:=λb E=>by
  rw[t8.mp E]
  obtain⟨o,P,N,e,d,_⟩:=K
  exact⟨o,e,λv z=>by rw[z]at d;cases d⟩
 have I2:=I'.pinned (fp:=[C]) (λb E=>by rw[t8.mp E];exact f) B
 refine thn (xy (pos:=t) hN A T Z _ u σ H' (.ref D') (.ref D') _ I2 rfl q) λ_ s2 hh9=>?_
 obtain⟨w,H2,I3,q3⟩:=hh9
 obtain⟨o,P,N,e,d⟩:=K
 have pn:=I3.pin (C,o) (o8 _ (o8 _ (vJ (t8.mpr rfl) e)))
 exact⟨m,⟨o,P,N,pn.1,d⟩,λh' sb=>⟨w,H2,I3.unpinned.letGo ⟨pn.2.1,f.2⟩ sb,q3⟩⟩
def YJ (names a b:List (Str × NameKind))(N M c:zD):Bool :=
 names.all (λy=>decide (y.2≠.cell))&&names.all (λy=>decide (y.2=.local->names.lookup y.1=some .local)) &&
 a.all (λy=>decide ((y.2=.cell\/y.2=.free)->y.1∈c)) &&
 (M.length == N.length)&&(M.zip N).all (λp=>decide ((a.lookup p.1=some .local\/a.lookup p.1=some .cell\/a.lookup p.1=some .free)->p.1=p.2)) &&
 M.all (λy=>decide ((a.lookup y=some .local\/a.lookup y=some .cell\/a.lookup y=some .free) ->
  (a.lookup y=some .cell\/a.lookup y=some .free)/\(b.lookup y=some .local\/b.lookup y=some .cell\/b.lookup y=some .free)/\b.lookup y≠some .local))
def Wx {X:Cx}{N k:zD}{a:Scope}{j:Vc}(g:(relabel a X.env).names=n)(m:X.env.scope.names=s)(t:X.N=N)(d:closureFor a X.env=pure j)(kind:a.kind=.function)(C:j.map Prod.fst=k)(b:YJ a.names n s N M k=true)(l:∀ p∈j,X.env.cells.lookup p.1=some p.2):xT X L M a j:=by
 unfold YJ at b
 simp only[j6,m7,k7]at b
 obtain⟨⟨⟨⟨⟨z,B⟩,o⟩,f⟩,x⟩,r⟩:=b
 have f:M.length=N.length:=by simpa using f
 refine⟨d,z,kind,B,λy c h=>l (y,c) (i9 h),λy h=>?_,by rw[t];exact f,λi y e v=>?_,λi y e v=>?_,λi y e v=>?_⟩
 .rw[g]at h
  have w:y∈k:=by
   rcases h with h | h
   .exact o _ (i9 h) (.inl rfl)
   .exact o _ (i9 h) (.inr rfl)
  exact YW (by rw[C];exact w)
 .unfold Vis at v
  rw[g]at v
  have A:=(j3.mp e).1
  have q:i<N.length:=by rw[<-f];exact A
  have E:(M.zip N)[i]?=some (y,N[i]):=by
   rw[List.getElem?_zip_eq_some]
   exact⟨e,o6 q⟩
  have:=x _ (f8 E) v
  rw[t,o6 q]
  exact u0z some this.symm
 .unfold Vis at v
  rw[g]at v ⊢
  exact(r y (f8 e) v).1
 .unfold Vis at v
  rw[g]at v
  obtain⟨_,u,D⟩:=r y (f8 e) v
  refine⟨?_,?_⟩
  .unfold Vis;rw[m];exact u
  .show X.env.scope.names.lookup y≠_;rw[m];exact D
end L2
namespace PySem
open Sem (wp)
open AutoSeq1 (wpAny_loadPart')
section
variable {prog:zO}{w:World}{A:zM}{E:yT}{s:zm}
def Yq {items}{Q:yT}(hit:s.heap.IsTupleIter a l i)(hl:s.heap.IsTuple l items)(hx:items[i]?=some x)(hQ:∀ e,e.IsTupleIter a l (i+1)->Heap.SameBut a s.heap e->Q x { s with heap:=e }) :
 wpAny (model prog w) A (Builtin.SmallTypes.nextOf (.ref a)) Q E s:=by
 obtain⟨o,c,g,b⟩:=id hit
 obtain⟨h,d,_,j,f⟩:=hl
 unfold Builtin.SmallTypes.nextOf
 refine u5 (i5 (name:=Str.ofString "__next__") hit.typeIs u0A
  (u0h u0A hit.typeIs F.entry_tuple_iterator_next ?_ (F.args_tuple_iterator_next_1 _)))
 show wpAny _ _ (field (.ref a) 0>>=_) _ _ s
 refine u5 (u1b c b (x:=.ref l) rfl ?_)
 show wpAny _ _ (if (Value.ref l == Value.none)=true then _ else _) _ _ s
 rw[j5 (show ¬ ((Value.ref l == Value.none)=true)from u7)]
 show wpAny _ _ (field (.ref a) 1>>=_) _ _ s
 refine u5 (u1b c b (x:=.int i 0) rfl ?_)
 show wpAny _ _ (seqItems? (.ref l)>>=_) _ _ s
 refine u5 (wpAny_seqItems d f ?_)
 simp only[u0H,hx]
 refine u5 (u2r c b (by simp) (t5 ⟨x,rfl,t5 (hQ _ ?_ (u08 ..))⟩))
 exact⟨_,i2 _ c (Obj.isFreed_of_fields (u1l b _)),(Obj.cls_mapFields ..).trans g,by
  rw[u1l b];simp[rawInt]⟩
def wG {items} (hh:A.handled=none) (hit:s.heap.IsTupleIter b l i) (hl:s.heap.IsTuple l items) (hx:items[i]?=none) (hE:∀ g e,Heap.ExtBut b s.heap g->(∃ o,g.get? e=some o/\o.cls=.type "StopIteration")->E (.ref e) { s with heap:=g }) :
 wpAny (model prog w) A (Builtin.SmallTypes.nextOf (.ref b)) Q E s:=by
 obtain⟨o,c,k,f⟩:=id hit
 obtain⟨j,d,_,n,h⟩:=hl
 unfold Builtin.SmallTypes.nextOf
 refine u5 (i5 (name:=Str.ofString "__next__") hit.typeIs u0A
  (u0h u0A hit.typeIs F.entry_tuple_iterator_next ?_ (F.args_tuple_iterator_next_1 _)))
 show wpAny _ _ (field (.ref b) 0>>=_) _ _ s
 refine u5 (u1b c f (x:=.ref l) rfl ?_)
 show wpAny _ _ (if (Value.ref l == Value.none)=true then _ else _) _ _ s
 rw[j5 (show ¬ ((Value.ref l == Value.none)=true)from u7)]
 show wpAny _ _ (field (.ref b) 1>>=_) _ _ s
 refine u5 (u1b c f (x:=.int i 0) rfl ?_)
 show wpAny _ _ (seqItems? (.ref l)>>=_) _ _ s
 refine u5 (wpAny_seqItems d h ?_)
 simp only[u0H,hx]
 refine u5 (u2y (u5 (u2r c f (by simp) ?_)))
 show wpAny _ _ (newExc (.type "StopIteration") []>>=_) _ _ _
 refine u5 ?_
 simp only[newExc,newTuple]
 refine u5 (l8 ?_ (by size_fits))
 refine u5 (m:=firstArgMember _ _) (wpAny_of_eq (a:=Value.none) (by first | rfl | (simp only[firstArgMember];rfl)) ?_)
 refine l8 ?_ (by size_fits)
 simp only[raiseNew]
 refine u5 (wpAny_handled ?_)
 first | rw[show A.in1.handled=none from hh] | rw[hh]
 refine u5 (t5 (wpAny_throw ?_))
 exact hE _ _ (((u08 ..).extBut.push _).push _) ⟨_,k9 _ rfl,rfl⟩
end
def YR {c:zO}{w:World}{A:zM}{E:yT}{s:zm}{e d l:Addr}{i:Nat}{a:wY}{k:Value}{Q:Option Value->Shared->Prop}(r:A.handled=none)
 (n:IsEnum s.heap e d i k) (h:s.heap.IsTupleIter d l i) (p:s.heap.IsTuple l a) (q:a[i]?=none)
 (v:∀ g,Heap.ExtBut d s.heap g->Q none { s with heap:=g }):wpAny (model c w) A (pyNext (.ref e)) Q E s:=by
 have m:s.TypeIs (.ref e) "enumerate":=⟨_,n,rfl⟩
 unfold pyNext
 refine u5 (u1o (i5 (name:=Str.ofString "__next__") m F.slot_enumerate_next
  (u0h F.slot_enumerate_next m F.entry_enumerate_next ?_ (F.args_enumerate_next_1 _))))
 show wpAny _ _ (field (.ref e) 2>>=_) _ _ _
 refine u5 (u1b n rfl (x:=.ref d) rfl ?_)
 refine u5 (wG r h p q λg x j f=>?_)
 obtain⟨o,t,u⟩:=f
 refine u5 (wpAny_isInstance (T:="StopIteration") (b:=true) ⟨o,t,u⟩ isSubtype_stop ?_)
 exact t5 (v _ j)
def Ws {prog:zO}{w:World}{A:zM}(hh:A.handled=none)(it l:Addr)(hne:l≠it)(items:wY) :
 Draws prog w A it [it,l] items.size (λi v=>items[i]?=some v) (λi h=>h.IsTupleIter it l i/\h.IsTuple l items) where
 live:=λ_ _ st=>let ⟨o,ho,_⟩:=st.1;⟨o,ho⟩
 frame:=λ_ _ _ st hk=>by
  obtain⟨⟨o,ho,r⟩,⟨o2,ho2,r2⟩⟩:=st
  exact⟨⟨o,hk it (by simp) o ho,r⟩,⟨o2,hk l (by simp) o2 ho2,r2⟩⟩
 item:=λi s Q E hi st hQ=>by
  refine Yq st.1 st.2 (x:=items[i]) (by simp[hi]) λh' hit' hs'=>?_
  exact hQ _ h' s.toks (by simp[hi]) ⟨hit',st.2.extBut hs'.extBut hne⟩ hs'
 done:=λs Q E st hE=>wG hh st.1 st.2 (by simp) hE
def ZA (l:Addr)(a:wY)(n:Nat)(k:yM)(o:Array (Option Value)) :
 Meets (Builtin.«enumerate.__new__» ⟨[.type "enumerate",.ref l],[]⟩) (λ_ R s=>s.heap.get? l=some { cls:=.type "tuple",dict:=k,data:=.seq a n,slots:=o } /\
  R (.ok (.ret (.ref (s.heap.push { cls:=.type "tuple_iterator",data:=.fields #[.ref l,.int 0 0] }).objs.size)))
   { s with heap:=(s.heap.push { cls:=.type "tuple_iterator",data:=.fields #[.ref l,.int 0 0] }).push { cls:=.type "enumerate",data:=.fields #[.none,.bool false,.ref s.heap.objs.size,rawInt 0,.none,.none] } }) :=
 .of_wp λf w A R s h=>by
  obtain⟨j,g,d,m,os⟩:=s;obtain⟨b,h⟩:=h
  have i:=sub_enumerate
  have e:Heap.IsTuple (Shared.heap ⟨j,g,d,m,os⟩) l a:=⟨_,b,rfl,n,rfl⟩
  wp_walk using u0x b
  refine wpAny_stack_any λp=>t5 ?_
  split
  .rename_i c _ _ _ _ _
   cases (c == Value.type "enumerate")
   .wp_walk using u0x b,u0T e
    exact⟨_,rfl,h⟩
   .wp_walk using u0x b,u0T e
    exact⟨_,rfl,h⟩
  .wp_walk using u0x b,u0T e
   exact⟨_,rfl,h⟩
section
variable {prog:zO}{w:World}{A:zM}{E:yT}{s:zm}
def YQ {Q:yT}(i:s.heap.IsTuple l a) (h:∀ c,IsEnum c (s.heap.objs.size+1) s.heap.objs.size 0 .none->c.IsTupleIter s.heap.objs.size l 0->c.objs.size=s.heap.objs.size+2 ->
 (∀ b o,s.heap.get? b=some o->c.get? b=some o)->Q (.ref (s.heap.objs.size+1)) { s with heap:=c }) :
 wpAny (model prog w) A (call (.type "enumerate") [.ref l]) Q E s:=by
 obtain⟨⟨cls,j,data,m⟩,k,f,n,e⟩:=i
 simp only at f e
 subst f e
 refine callType_new F.called_enumerate (by decide) (F.typeCall_enumerate_1 _) (F.newCall_enumerate_1 _) (λobj=>F.args_object_init_2 obj _) F.entry_enumerate_new
  (ZA l a n j m) ⟨k,?_⟩
 have d:(s.heap.push { cls:=.type "tuple_iterator",data:=.fields #[.ref l,.int 0 0] }).objs.size=s.heap.objs.size+1:=u0c ..
 show _/\_
 rw[d]
 have g:IsEnum ((s.heap.push { cls:=.type "tuple_iterator",data:=.fields #[.ref l,.int 0 0] }).push
  { cls:=.type "enumerate",data:=.fields #[.none,.bool false,.ref s.heap.objs.size,rawInt 0,.none,.none] }) (s.heap.objs.size+1) s.heap.objs.size 0 .none:=by
  have:=k9 (s.heap.push { cls:=.type "tuple_iterator",data:=.fields #[.ref l,.int 0 0] })
   (o:={ cls:=.type "enumerate",data:=.fields #[.none,.bool false,.ref s.heap.objs.size,rawInt 0,.none,.none] }) rfl
  rw[d]at this;exact this
 refine⟨⟨_,g,rfl⟩,h _ g ⟨_,u8 _ (k9 _ rfl),rfl,rfl⟩ (by rw[u0c,d]) λb o x=>u8 _ (u8 _ x)⟩
end
end PySem
namespace L2
open PySem PySem.Spec PyProof.Rows
section
variable {X:Cx}{pins:xp}{σ:St}{H:Hp}{s:zm}{h':Heap}
def Inv.grown {ch:xX}{T:Addr}{o:HO}{E:Nat}(I:Inv X pins σ H s)(a:∀ b∈ch,zeD X pins H b)(p:s.heap.objs.size<=T)(k:∀ b u,b∉ch->s.heap.get? b=some u->h'.get? b=some u)
 (j:yK X.prog X.w (upd H T o) h' T o):Inv X pins σ (upd H T o) { s with heap:=h',toks:=E }:=by
 have g:H T=none:=I.hok.fresh p
 have i:∀ b u,s.heap.get? b=some u->b≠T:=λb u e=>r0 (q7 (j4 e) p)
 have f:∀ b u,H b=some u->b∉ch:=λb u e z=>by rw[(a b z).1]at e;cases e
 refine I.step (g':=s.gens) (d':=s.drawn) (ch:=ch) (λb h=>?_) (λb u _ _ d e _=>k b u d e) (λb u _ _ d e _=>⟨u.slots,k b u d e⟩) (λb u _ e n=>by rw[zf (i b u e)];exact n)
  (λb u d e=>⟨u,k b u d e⟩) (λb l e=>by rw[zf (ze e g)];exact e) (λb u l e=>by rw[zf (ze e g)];exact e) (λb G e=>⟨#[],by rw[zf (ze e g),e];simp⟩) (λm F=>?_) (λb u e=>?_) I.bare
 .obtain⟨_,B,_,D,w,x⟩:=a b h
  exact⟨D,B,w,x⟩
 .obtain⟨t,C,y,A,r⟩:=F
  exact⟨t,C,y,k _ t (λz=>(a _ z).2.1 rfl) A,r⟩
 .by_cases h:b=T
  .subst h;rw[zd]at e;cases e;exact j
  .rw[zf h]at e
   refine(I.hok b u e).stay (λc v d q=>k c v ?_ q) (λc q=>by rw[zf (ze q g)];exact q) λc l q=>by rw[zf (ze q g)];exact q
   rcases d with z | z
   .rw[z];exact f b u e
   .exact f c _ z
def Inv.turnedN {ch:xX}{t':Nat}(I:Inv X pins σ H s)(a:∀ b∈ch,zeD X pins H b)(k:∀ b u,b∉ch->s.heap.get? b=some u->h'.get? b=some u):Inv X pins σ H { s with heap:=h',toks:=t' }:=by
 have f:∀ b u,H b=some u->b∉ch:=λb u e z=>by rw[(a b z).1]at e;cases e
 refine I.step (g':=s.gens) (d':=s.drawn) (ch:=ch) (λb j=>?_) (λb u _ _ d e _=>k b u d e) (λb u _ _ d e _=>⟨u.slots,k b u d e⟩) (λb u _ e n=>n)
  (λb u d e=>⟨u,k b u d e⟩) (λb g e=>e) (λb u g e=>e) (λb A e=>⟨#[],by rw[e];simp⟩) (λm x=>?_) (λb u e=>?_) I.bare
 .obtain⟨_,l,_,p,i,o⟩:=a b j
  exact⟨p,l,i,o⟩
 .obtain⟨h,y,t,w,r⟩:=x
  exact⟨h,y,t,k _ h (λz=>(a _ z).2.1 rfl) w,r⟩
 .refine(I.hok b u e).stay (λc v d q=>k c v ?_ q) (λc q=>q) λc g q=>q
  rcases d with z | z
  .rw[z];exact f b u e
  .exact f c _ z
end
def Iel (K:zu)(a:Addr):It :=
 ⟨λi H=>∃ b x,SqL K H a b/\b[i]?=some x,λi H v H'=>∃ T x,v=.ref T/\H T=none/\H'=upd H T (.tup [.int i,x])/\∀ b,SqL K H a b->b[i]?=some x,λi H=>∃ b,SqL K H a b/\b.length<=i⟩
def Iet (K:zu)(a:Addr):It :=
 ⟨λi H=>∃ b x,SqT K H a b/\b[i]?=some x,λi H v H'=>∃ T x,v=.ref T/\H T=none/\H'=upd H T (.tup [.int i,x])/\∀ b,SqT K H a b->b[i]?=some x,λi H=>∃ b,SqT K H a b/\b.length<=i⟩
def zeH {P:zO}{w:World}{K:zu}{es:yX}{k:Nat}{tp:Pos}(a e it:Addr)(hne:e≠it) :
 zm3 P w K (.Tuple es k tp) (Iel K a) [e,it] e (λi h=>(∃ old,IsEnum h e it i old)/\h.IsListIter it a i) where
 mem:=by simp
 obj:=λi h st b hb=>by
  obtain⟨⟨old,he⟩,o,ho,_,hd⟩:=st
  rcases j9.mp hb with rfl | hb
  .exact⟨_,he,λv z=>by cases z⟩
  .rw[t8.mp hb]
   exact⟨o,ho,λv z=>by rw[hd]at z;cases z⟩
 keep:=λi h h' st kk=>by
  obtain⟨⟨old,he⟩,hit⟩:=st
  exact⟨⟨old,kk e (by simp) _ he⟩,hit.at λo q=>kk it (by simp) o q⟩
 item:=by
  intro X hP hw hK hc i pins s σ H E I hf st hg
  subst hP hw hK
  obtain⟨⟨old,he⟩,hit⟩:=st
  obtain⟨xs,x,hq,hx⟩:=hg
  obtain⟨its,rv,p,hz⟩:=I.list hq
  obtain⟨u,hu,ru⟩:=rv.get hx
  refine wpAny_pyNext_enum_item he hit p.isList (x:=u) (by simpa using hu) hne λh1 ho1 hit1 hT1 hz1 hk1=>?_
  refine⟨_,rfl,wpAny_letOwnedTupleGo_enum ho1 λh2 he2 hs2=>?_⟩
  have hfr:H s.heap.objs.size=none:=I.hok.fresh (t6 _)
  have neE:s.heap.objs.size≠e:=u1F (j4 he)
  have hT2:h2.get? s.heap.objs.size=some { cls:=.type "tuple",data:=.seq #[.int i s.toks,u] }:=(hs2.2 _ neE).trans hT1
  refine⟨.ref s.heap.objs.size,upd H s.heap.objs.size (.tup [.int i,x]),?_,rfl,⟨_,x,rfl,hfr,rfl,λys hy=>by rw[I.list_inj hy hq];exact hx⟩,⟨⟨_,by simpa using he2⟩,hit1.at λo q=>(hs2.2 it (u0k hne)).trans q⟩,λb hb=>?_⟩
  .refine I.grown (ch:=[e,it]) hf (t6 _) (λb v hb q=>?_) ?_
   .have n1:b≠e:=λz=>hb (by simp[z])
    have n2:b≠it:=λz=>hb (by simp[z])
    exact(hs2.2 b n1).trans (hk1 b v n1 n2 q)
   .exact⟨by show 2<=sizeLine;decide,[.int i s.toks,u],.cons ⟨_,rfl⟩ (.cons ru .nil),⟨_,hT2,rfl,0,rfl⟩⟩
  .obtain⟨o,hb2,_⟩:∃ o,s.heap.get? b=some o/\True:=by
    rcases j9.mp hb with rfl | hb
    .exact⟨_,he,trivial⟩
    .rw[t8.mp hb]
     obtain⟨o,ho,_⟩:=hit
     exact⟨o,ho,trivial⟩
   rw[zf (r0 (j4 hb2))]
   exact(hf b hb).1
 done:=by
  intro X hP hw hK hc i pins s σ H E I hf st hg
  subst hP hw hK
  obtain⟨⟨old,he⟩,hit⟩:=st
  obtain⟨xs,hq,hx⟩:=hg
  obtain⟨its,rv,p,hz⟩:=I.list hq
  have hl:=rv.length
  exact wpAny_pyNext_enum_end (I.ok.hd hc) he hit p.isList (by simp;omega) λh1 hx1=>⟨rfl,I.turnedN (ch:=[e,it]) (t':=s.toks) hf λb v hb q=>hx1 b v (λz=>hb (by simp[z])) q⟩
 self:=λ_ _ _ _ _ st h=>u1B st.1.choose_spec h
def zeo {P:zO}{w:World}{K:zu}{es:yX}{k:Nat}{tp:Pos}(a e it:Addr)(hne:e≠it)(hai:a≠it)(hae:a≠e) :
 zm3 P w K (.Tuple es k tp) (Iet K a) [e,it] e (λi h=>(∃ old,IsEnum h e it i old)/\h.IsTupleIter it a i) where
 mem:=by simp
 obj:=λi h st b hb=>by
  obtain⟨⟨old,he⟩,o,ho,_,hd⟩:=st
  rcases j9.mp hb with rfl | hb
  .exact⟨_,he,λv z=>by cases z⟩
  .rw[t8.mp hb]
   exact⟨o,ho,λv z=>by rw[hd]at z;cases z⟩
 keep:=λi h h' st kk=>by
  obtain⟨⟨old,he⟩,o,ho,r⟩:=st
  exact⟨⟨old,kk e (by simp) _ he⟩,o,kk it (by simp) o ho,r⟩
 item:=by
  intro X hP hw hK hc i pins s σ H E I hf st hg
  subst hP hw hK
  obtain⟨⟨old,he⟩,hit⟩:=st
  obtain⟨xs,x,hq,hx⟩:=hg
  obtain⟨its,rv,p,hz⟩:=I.tuple hq
  obtain⟨u,hu,ru⟩:=rv.get hx
  have p':s.heap.IsTuple a its.toArray:=p
  have D:=Ws (prog:=X.prog) (w:=X.w) (A:=X.A.in1) (I.ok.hd hc) it a hai its.toArray
  have hlt:i<its.toArray.size:=by
   obtain⟨h1,_⟩:=j3.mp hu
   simpa using h1
  refine wpAny_pyNext_enum_itemD D he ⟨hit,p'⟩ hlt hne (by simp[hne,u0k hae]) λu' h1 tk hP1 ho1 hit1 hT1 hz1 hk1=>?_
  have eu:u'=u:=by
   have:its[i]?=some u':=by simpa using hP1
   rw[hu]at this
   exact(g4 this).symm
  subst eu
  refine⟨_,rfl,wpAny_letOwnedTupleGo_enum ho1 λh2 he2 hs2=>?_⟩
  have hfr:H s.heap.objs.size=none:=I.hok.fresh (t6 _)
  have neE:s.heap.objs.size≠e:=u1F (j4 he)
  have hT2:h2.get? s.heap.objs.size=some { cls:=.type "tuple",data:=.seq #[.int i tk,u'] }:=(hs2.2 _ neE).trans hT1
  refine⟨.ref s.heap.objs.size,upd H s.heap.objs.size (.tup [.int i,x]),?_,rfl,⟨_,x,rfl,hfr,rfl,λys hy=>by rw[I.tuple_inj hy hq];exact hx⟩,⟨⟨_,by simpa using he2⟩,?_⟩,λb hb=>?_⟩
  .refine I.grown (ch:=[e,it]) hf (t6 _) (λb v hb q=>?_) ?_
   .have n1:b≠e:=λz=>hb (by simp[z])
    have n2:b≠it:=λz=>hb (by simp[z])
    exact(hs2.2 b n1).trans (hk1 b v n1 n2 q)
   .exact⟨by show 2<=sizeLine;decide,[.int i tk,u'],.cons ⟨_,rfl⟩ (.cons ru .nil),⟨_,hT2,rfl,0,rfl⟩⟩
  .obtain⟨o,ho,r⟩:=hit1.1
   exact⟨o,(hs2.2 it (u0k hne)).trans ho,r⟩
  .obtain⟨o,hb2,_⟩:∃ o,s.heap.get? b=some o/\True:=by
    rcases j9.mp hb with rfl | hb
    .exact⟨_,he,trivial⟩
    .rw[t8.mp hb]
     obtain⟨o,ho,_⟩:=hit
     exact⟨o,ho,trivial⟩
   rw[zf (r0 (j4 hb2))]
   exact(hf b hb).1
 done:=by
  intro X hP hw hK hc i pins s σ H E I hf st hg
  subst hP hw hK
  obtain⟨⟨old,he⟩,hit⟩:=st
  obtain⟨xs,hq,hx⟩:=hg
  obtain⟨its,rv,p,hz⟩:=I.tuple hq
  have hl:=rv.length
  have p':s.heap.IsTuple a its.toArray:=p
  exact YR (I.ok.hd hc) he hit p' (by simp;omega) λh1 hx1=>⟨rfl,I.turnedN (ch:=[e,it]) (t':=s.toks) hf λb v hb q=>hx1 b v (λz=>hb (by simp[z])) q⟩
 self:=λ_ _ _ _ _ st h=>u1B st.1.choose_spec h
def zqO (K:zu)(d:TA):TI:=fun σ H R=>d σ H λc H1=>∃ a,c=[.ref a]/\((∃ b,H1 a=some (.lst b)/\R (Iel K a) H1)\/(∃ b,SqT K H1 a b/\R (Iet K a) H1))
def zmR {X:Cx} {K:yX} {k:Nat} {D:Pos} {a:Expr} {B:TA} {p t:Pos} (C:Gl X "enumerate") (P:X.mg "enumerate"=none) (g:bootBuiltins "enumerate"=some (.type "enumerate")) (E:PA X [a] B)
 (L:starEach [a] X.env=[(false,eval a X.env)]:=by rfl):PI X (.Tuple K k D) (.Call (.Name "enumerate" p) [a] [] t) (zqO X.K B):=by
 intro c s σ H R I h
 refine Call_ (Vv I C P g (u0w (thn (E t c s σ H _ I h) λQ f hh9=>?_) L rfl))
 obtain⟨S,H1,I1,G,J⟩:=hh9
 obtain⟨l,e,q⟩:=J
 subst e
 obtain⟨u,rfl,N⟩:=Ve G
 cases N
 have A:∀ b,f.heap.objs.size<=b->zeD X c H1 b:=λb g=>I1.fpOk g (I1.hok.fresh g)
 have m:f.heap.objs.size+1≠f.heap.objs.size:=by omega
 have j:∀ b∈[f.heap.objs.size+1,f.heap.objs.size],zeD X c H1 b:=λb g=>by
  rcases j9.mp g with rfl | g
  .exact A _ (u1w _)
  .rw[t8.mp g];exact A _ (t6 _)
 rcases q with ⟨w,x,q⟩ | ⟨w,x,q⟩
 .obtain⟨_,d,n,_,e⟩:w.length<=sizeLine/\∃ (d:zx) (n:Nat),yp w d/\f.heap.get? l=some { cls:=.type "list",data:=.seq d.toArray n }:=I1.hok _ _ x
  refine call_enumerate_1 e λM r i O v=>u1B r ?_
  exact⟨_,_,_,_,H1,rfl,I1.kept (t':=f.toks) v,zeH l _ _ m,⟨⟨_,r⟩,i⟩,j,q⟩
 .obtain⟨d,_,z,_⟩:=I1.tuple x
  have y:l<f.heap.objs.size:=by
   obtain⟨o,F,_⟩:=z
   exact j4 F
  refine YQ (show f.heap.IsTuple l d.toArray from z) λM r i O v=>u1B r ?_
  exact⟨_,_,_,_,H1,rfl,I1.kept (t':=f.toks) v,zeo l _ _ m (r0 y) (r0 (u0K y)),⟨⟨_,r⟩,i⟩,j,q⟩
end L2
namespace HT
open PySem PyProof.Rows
def lexLe:zy->zy->Bool
 | [],_=>true
 | _::_,[]=>false
 | x::xs,y::ys=>if x=y then lexLe xs ys else decide (x<=y)
def zem (x y:Int)(b a:zy):lexLe (x::b) (y::a)=if x=y then lexLe b a else decide (x<=y):=rfl
def zjX (A:zM)(s:zm)(a:Int)(t:Tok)(c:Int)(u:Tok)(b:zO)(w:World)(E:yT)(Q:yT)(h:Q (.bool (decide (a<=c))) s) :
 wpAny (model b w) A (richCompare .LtE (.int a t) (.int c u)) Q E s :=
 (PyProof.Rows.le_int h:wpAny (model b w) A (compareOp .LtE (.int a t) (.int c u)) Q E s)
section
open PySem.SeqAt
open PySem.AutoSeq1 (wpAny_loadPart')
open PySem.MeetsSeq PySem.MeetsSeq2 PySem.MeetsSeq3
theorem V1 (l b:Addr)(i f:wY)(n U:Nat)(T L:yM)(V K:Array (Option Value))(ns F:zy)(Q:IntsAre i.toList ns)(O:IntsAre f.toList F) :
 Meets (Builtin.«tuple.__le__» ⟨[.ref l,.ref b],[]⟩)
  (λ_ R s=>s.heap.get? l=some { cls:=.type "tuple",dict:=T,data:=.seq i n,slots:=V }/\s.heap.get? b=some { cls:=.type "tuple",dict:=L,data:=.seq f U,slots:=K } /\
   R (.ok (.ret (.bool (lexLe ns F)))) s) :=
 .of_wp λr w A R s h=>by
  obtain⟨G,g,d,I,os⟩:=s;obtain⟨S,W,h⟩:=h
  have Y:=AutoSeq1.sub_tuple_tuple
  have Z:i.size=ns.length:=by rw[<-Q.length];simp
  have z2:f.size=F.length:=by rw[<-O.length];simp
  wp_walk using u0x S,u0x W,wpAny_forIn_list _ (λrest b N=>b.1=none/\N=⟨G,g,d,I,os⟩/\∃ (J H:zx) (m k:zy),rest=J.zip H /\
   IntsAre J m/\IntsAre H k/\m.length+f.size=k.length+i.size/\R (.ok (.ret (.bool (lexLe m k)))) ⟨G,g,d,I,os⟩) _
  case turn =>
   rintro⟨y,x⟩ rest b N ⟨z,rfl,J,H,m,k,o,B,C,j,p⟩
   cases B with
   | nil=>rw[List.zip_nil_left]at o;cases o
   | cons a t E =>
    cases C with
    | nil=>rw[List.zip_nil_right]at o;cases o
    | cons c u D =>
     rw[u2f]at o
     injection o with hyx hrest
     injection hyx with hy hx
     subst hy hx
     rw[zem]at p
     simp only[o4]at j
     obtain⟨e,X,v⟩:=zjO A.in1 ⟨G,g,d,I,os⟩ a t c u
     refine u5 (X r w _ _ ?_)
     cases e with
     | true =>
      rw[t9 (v.mp rfl)]at p
      wp_walk
      exact⟨rfl,rfl,_,_,_,_,hrest,E,D,by omega,p⟩
     | false =>
      rw[j5 (λq=>absurd (v.mpr q) u7)]at p
      have M:=zjX A.in1 ⟨G,g,d,I,os⟩ a t c u r w
      wp_walk using M
      exact⟨_,rfl,by simpa using p⟩
  case fin =>
   rintro⟨b1,b2⟩ N ⟨z,rfl,J,H,m,k,o,B,C,j,p⟩
   simp only at z
   subst z
   have P:lexLe m k=decide (i.size<=f.size):=by
    cases B with
    | nil =>
     simp only[u1X]at j
     show true=_
     exact(q5 (by omega)).symm
    | cons a t P =>
     cases C with
     | nil =>
      simp only[u1X,o4]at j
      show false=_
      exact(q4 (by omega)).symm
     | cons c u hw =>
      rw[u2f]at o
      cases o
   rw[P]at p
   wp_walk
   exact⟨_,rfl,by simpa [Builtin.Tuple.tupleCompareSizes]using p⟩
  case h =>
   exact⟨rfl,rfl,i.toList,f.toList,ns,F,rfl,Q,O,by omega,h⟩
end
section
variable {prog:zO}{w:World}{A:zM}{E:yT}{s:zm}
def le_tupInts {c a:wY}{d:zy}{Q:yT}(r:IsTup s.heap l c)(u:IsTup s.heap b a)(y:IntsAre c.toList ns)(z:IntsAre a.toList d)(t:A.units<cLine)(h:Q (.bool (lexLe ns d)) s):wpAny (model prog w) A (compareOp .LtE (.ref l) (.ref b)) Q E s:=by
 obtain⟨⟨cls,v,data,C⟩,o,q,n,m⟩:=id r
 obtain⟨⟨p,k,j,i⟩,e,g,B,f⟩:=id u
 simp only at q m g f
 subst q m g f
 exact richCompare_meets_room (op:=.LtE) ⟨_,o,rfl⟩ ⟨_,e,rfl⟩ PySem.F.slot_tuple_le PySem.F.entry_tuple_le (PySem.F.args_tuple_le_2 _ _) (V1 l b c a n B v k C i ns d y z)
  ⟨o,e,show Value.bool (lexLe ns d)≠Value.notImplemented/\Q (.bool (lexLe ns d)) s from⟨(λx=>nomatch x),h⟩⟩ t
end
end HT
namespace L2
open PySem PySem.Spec PyProof.Rows
def rLeT (K:zu):R2:=λx y H Q=>∃ a b ns c,x=.ref a/\y=.ref b/\SqT K H a (ns.map V.int)/\SqT K H b (c.map V.int)/\Q (.bl (HT.lexLe ns c)) H
def zn6 {X:Cx}(j:X.A.units<cLine):OpR X (compareOp .LtE) (rLeT X.K):=by
 intro f s σ H x y v u Q I g p h
 obtain⟨a,b,ns,e,rfl,rfl,m,k,q⟩:=h
 cases g
 cases p
 obtain⟨d,r,l,_⟩:=I.tuple m
 obtain⟨c,o,n,_⟩:=I.tuple k
 have i:IntsAre d.toArray.toList ns:=YF r
 have t:IntsAre c.toArray.toList e:=YF o
 exact HT.le_tupInts l n i t j ⟨.bl (HT.lexLe ns e),H,I,rfl,q⟩
end L2
namespace HT
open PySem PyProof.Rows
section
variable {prog:zO}{w:World}{A:zM}{E:yT}{s:zm}
def own_getItem_whole {t:Addr}{a:wY}{Q:yT}(c:IsTup s.heap t a)(k:s.heap.IsSliceOf j l n .none)(pl:IsPart l b)(p:IsPart n e)(hw:sIx a.size 0 b=0/\sIx a.size a.size e=a.size)(h:Q (.ref t) s):wpAny (model prog w) A (getItem (.ref t) (.ref j)) Q E s:=by
 obtain⟨os,g,f,o⟩:=id k
 have i:s.TypeIs (.ref j) "slice":=⟨os,g,f⟩
 unfold getItem
 try with_reducible refine i0 ?_
 first | refine u5 (t5 ?_) | skip
 refine u5 (wpAny_sequenceKey c.typeIs (by decide) ?_)
 refine u5 (i5 (name:=Str.ofString "__getitem__") c.typeIs m9
  (u0h m9 c.typeIs entry_tuple_getitem ?_ (args_tuple_getitem _ _)))
 show wpAny _ _ (Builtin.Tuple.tupleItemsOf (.ref t)>>=_) _ _ s
 refine u5 (tupleItemsOf_ c ?_)
 refine u5 (u1I i ?_)
 rw[t9 (by decide)]
 refine u5 (Yf k pl p ?_)
 have d:(((sIx a.size 0 b:Nat):Int) == 0&&(1:Int) == 1&&(sIx a.size a.size e-sIx a.size 0 b) == a.size)=true:=by
  rw[hw.1,hw.2]
  simp
 show wpAny _ _ (if (((sIx a.size 0 b:Nat):Int) == 0&&(1:Int) == 1&&(sIx a.size a.size e-sIx a.size 0 b) == a.size)=true then _ else _) _ _ s
 rw[t9 d]
 refine u5 (m:=Builtin.Tuple.tupleIsExact (.ref t)) ?_
 unfold Builtin.Tuple.tupleIsExact
 refine u5 (u1I c.typeIs (t5 ?_))
 rw[t9 (by decide)]
 refine u5 (u2y ?_)
 first
  | exact t5 ⟨_,rfl,t5 h⟩
  | exact u5 (t5 (t5 ⟨_,rfl,t5 h⟩))
end
end HT
namespace OwnSort
open PySem PyProof.Rows
section pure
variable {κ:KeyKind}{xs:Array Keyed}
def up1 (b:SortedToK κ xs x)(f:1<=x)(h:κ.kle (KK κ xs (x-1)) (KK κ xs x)):SortedToK κ xs (x+1):=λi j a e=>by
 by_cases c:j<x
 .exact b i j a c
 .obtain rfl:j=x:=by omega
  by_cases d:i=j
  .rw[d];exact u0v _
  .exact u1K (b i (j-1) (by omega) (by omega)) h
def zjz (b:NonIncK κ xs x)(f:1<=x)(h:κ.kle (KK κ xs x) (KK κ xs (x-1))):NonIncK κ xs (x+1):=λi j a e=>by
 by_cases c:j<x
 .exact b i j a c
 .obtain rfl:j=x:=by omega
  by_cases d:i=j
  .rw[d];exact u0v _
  .exact u1K h (b i (j-1) (by omega) (by omega))
def X2 (e:∀ i,KK κ b i=KK κ xs i)(h:NonIncK κ xs n):NonIncK κ b n:=λi j a c=>by rw[e,e];exact h i j a c
def turned {n:Nat}(a:n<=xs.size)(h:NonIncK κ xs n):SortedToK κ (mirror xs 0 n ((n-0)/2)) n:=λi j b c=>by
 rw[KK_mirror a,KK_mirror a,t9 ⟨by omega,by omega⟩,t9 ⟨by omega,by omega⟩]
 exact h _ _ (by omega) (by omega)
def zd0:SortedToK κ xs 1:=λi j a b=>by
 obtain rfl:i=j:=by omega
 exact u0v _
def zek:NonIncK κ xs 1:=λi j a b=>by
 obtain rfl:i=j:=by omega
 exact u0v _
end pure
structure SB (k:SortKind) (a₀:Array Keyed) (st:SortSt):Prop where
 pm:(arrOf st).Perm a₀
 kd:kindOf st=k
 fl:failedOf st=none
 pd:pendingOf st=#[]
def SB.sz {k:SortKind}{a:Array Keyed}(B:SB k a b):(arrOf b).size=a.size:=B.pm.size_eq
def SB.put {k:SortKind}{b:Array Keyed}(B:SB k c a)(p:b.Perm (arrOf a)):SB k c (setArr a b):=⟨p.trans B.pm,B.kd,B.fl,B.pd⟩
section
variable {prog:zO}{w:World}{A:zM}{E:yT}{s:zm}{a₀:Array Keyed}{κ:KeyKind}{k:SortKind}{st:SortSt}
def LtOk (prog:zO)(w:World)(A:zM)(E:yT)(s:zm)(a₀:Array Keyed)(κ:KeyKind)(k:SortKind):Prop :=
 ∀ (st:SortSt) (i j:Nat) (Q:Option Bool->SortSt->Prop),SB k a₀ st->i<a₀.size->j<a₀.size->Q (some (κ.blt (KK κ (arrOf st) i) (KK κ (arrOf st) j))) st->wpS (model prog w) A E s (ltAt' i j) Q st
def zfe {a n:Nat}{Q:AscSt->SortSt->Prop}(L:LtOk prog w A E s a₀ κ k)(j:n<=a₀.size)(l:1<=a)(f:a<=n)(B:SB k a₀ st)(g:SortedToK κ (arrOf st) a)
 (h:∀ m,a<=m->m<=n->SortedToK κ (arrOf st) m->(m=n\/κ.klt (KK κ (arrOf st) m) (KK κ (arrOf st) (m-1)))->Q (none,m) st):wpS (model prog w) A E s (ascLoop a n) Q st:=by
 unfold ascLoop
 refine u1J (I:=λx c t=>(t=st/\c=(none,x))/\SortedToK κ (arrOf st) x) (λx c t i o d=>?_) (λc t d=>?_) ⟨⟨rfl,rfl⟩,g⟩
 .obtain⟨⟨rfl,rfl⟩,b⟩:=d
  refine l5 (L _ x (x-1) _ B (by omega) (by omega) ?_)
  cases c:κ.blt (KK κ (arrOf t) x) (KK κ (arrOf t) (x-1)) with
  | true=>exact u0m (h x i (by omega) b (.inr c))
  | false=>exact u0m ⟨⟨rfl,rfl⟩,up1 b (by omega) c⟩
 .obtain⟨⟨rfl,rfl⟩,b⟩:=d
  have e:max a n=n:=by omega
  rw[e]at b ⊢
  exact h n f (t6 _) b (.inl rfl)
def zdE {n m:Nat}{Q:Option Nat->SortSt->Prop}(L:LtOk prog w A E s a₀ κ k)(e:m<=a₀.size)(f:1<=n)(a:n<=m)(B:SB k a₀ st)(b:NonIncK κ (arrOf st) n)
 (h:∀ r t,SB k a₀ t->1<=r->r<=m->SortedToK κ (arrOf t) r->Q (some r) t):wpS (model prog w) A E s (tail3 n m) Q st:=by
 unfold tail3
 have B':=B.put (mirror_perm (arrOf st) 0 n ((n-0)/2))
 exact l5 (wpS_reverse (l5 (zfe L e f a B' (turned (by rw[B.sz];omega) b) λr g d c _=>u0m (h r _ B' (by omega) d c))))
def zid {n m:Nat}{Q:DescSt->SortSt->Prop}(L:LtOk prog w A E s a₀ κ k)(J:m<=a₀.size)(D:1<=n)(v:n<=m)(B:SB k a₀ st)(G:NonIncK κ (arrOf st) n)
 (h:∀ r q t,SB k a₀ t->n<=r->r<=m->NonIncK κ (arrOf t) r->q+1<=r->(∀ i,r-(q+1)<=i->i<r->KK κ (arrOf t) i=KK κ (arrOf t) (r-1))->Q (none,r,q) t):wpS (model prog w) A E s (descLoop n m) Q st:=by
 unfold descLoop
 refine u1J (I:=λx c t=>∃ q,c=(none,x,q)/\SB k a₀ t/\NonIncK κ (arrOf t) x/\q+1<=x/\∀ i,x-(q+1)<=i->i<x->KK κ (arrOf t) i=KK κ (arrOf t) (x-1))
  (λx c t z C y=>?_) (λc t y=>?_) ⟨0,rfl,B,G,D,λi u f=>by rw[show i=n-1 from u10 (u01 f) u]⟩
 .obtain⟨q,rfl,B1,g,p,j⟩:=y
  have a:x<a₀.size:=q7 C J
  have b:x-1<a₀.size:=l9 (Nat.sub_le _ _) a
  have o:1<=x:=n0 D z
  have H:x<=(arrOf t).size:=by rw[B1.sz];exact m4 a
  refine l5 (L _ x (x-1) _ B1 a b ?_)
  cases c:κ.blt (KK κ (arrOf t) x) (KK κ (arrOf t) (x-1)) with
  | true =>
   have d:=zjz g o (u1v c)
   by_cases l:q>0
   .show wpS _ _ _ _ (if q>0 then _ else _) _ _
    rw[t9 l]
    exact l5 (wpS_reverse (u0m ⟨0,rfl,B1.put (mirror_perm _ _ _ _),X2 (KK_mirror_equal H j) d,u0C (p9 _),λi u f=>by rw[show i=x+1-1 from u10 (i4 f) u]⟩))
   .show wpS _ _ _ _ (if q>0 then _ else _) _ _
    rw[j5 l]
    exact u0m ⟨0,rfl,B1,d,u0C (p9 _),λi u f=>by rw[show i=x+1-1 from u10 (i4 f) u]⟩
  | false =>
   refine l5 (L _ (x-1) x _ B1 b a ?_)
   cases f:κ.blt (KK κ (arrOf t) (x-1)) (KK κ (arrOf t) x) with
   | true=>exact u0m (h x q t B1 z (m4 C) g p j)
   | false =>
    have same:KK κ (arrOf t) x=KK κ (arrOf t) (x-1):=KeyOrd.kle_antisymm f c
    refine u0m ⟨q+1,rfl,B1,zjz g o f,u0C p,λi M K=>?_⟩
    show KK κ (arrOf t) i=KK κ (arrOf t) x
    by_cases F:i=x
    .rw[F]
    .rw[same];exact j i (by omega) (by omega)
 .obtain⟨q,rfl,B1,g,p,j⟩:=y
  have e:max n m=m:=Nat.max_eq_right v
  rw[e]at g p j ⊢
  exact h m q t B1 v (t6 _) g p j
def Z1 {n m:Nat}{Q:Option Nat->SortSt->Prop}(L:LtOk prog w A E s a₀ κ k)(c:m<=a₀.size)(b:n+1<=m)(B:SB k a₀ st)(f:NonIncK κ (arrOf st) (n+1))
 (h:∀ r t,SB k a₀ t->1<=r->r<=m->SortedToK κ (arrOf t) r->Q (some r) t):wpS (model prog w) A E s (descPart n m) Q st:=by
 unfold descPart
 refine l5 (wpS_lift (u2y ⟨rfl,l5 (zid L c (by omega) b B f λr q t B1 l e d j g=>?_)⟩))
 have i:r<=(arrOf t).size:=by rw[B1.sz];omega
 by_cases a:q>0
 .show wpS _ _ _ _ (if q>0 then _ else _) _ _
  rw[t9 a]
  exact l5 (wpS_reverse (zdE (n:=r) L c (by omega) e (B1.put (mirror_perm _ _ _ _)) (X2 (KK_mirror_equal i g) d) h))
 .show wpS _ _ _ _ (if q>0 then _ else _) _ _
  rw[j5 a]
  exact zdE (n:=r) L c (by omega) e B1 d h
def zlT {m:Nat}{Q:Option Nat->SortSt->Prop}(L:LtOk prog w A E s a₀ κ k)(b:m<=a₀.size)(v:1<=m)(B:SB k a₀ st)
 (h:∀ r t,SB k a₀ t->1<=r->r<=m->SortedToK κ (arrOf t) r->Q (some r) t):wpS (model prog w) A E s (countRun' 0 m) Q st:=by
 rw[countRun0_eq]
 refine l5 (zfe L b (t6 1) v B zd0 λn o l a or=>?_)
 show wpS _ _ _ _ (if (n == m)=true then _ else if n>1 then _ else _) _ _
 by_cases e:n=m
 .rw[t9 (by rw[e];exact u0P m)]
  exact u0m (h n st B o l a)
 .rw[j5 (λz=>e (eq_of_beq z))]
  have f:=or.resolve_left e
  by_cases g:n>1
  .rw[t9 g]
   refine l5 (L _ 0 (n-1) _ B (by omega) (by omega) ?_)
   cases c:κ.blt (KK κ (arrOf st) 0) (KK κ (arrOf st) (n-1)) with
   | true=>exact u0m (h n st B o l a)
   | false =>
    have x:n<=(arrOf st).size:=by rw[B.sz];omega
    have d:∀ i,0<=i->i<n->KK κ (arrOf st) i=KK κ (arrOf st) (n-1):=λi _ q =>
     KeyOrd.kle_antisymm (a i (n-1) (by omega) (by omega)) (u1K c (a 0 i (by omega) q))
    have p:NonIncK κ (arrOf st) n:=λi j _ u=>by rw[d i (by omega) (by omega),d j (by omega) u];exact u0v _
    exact l5 (wpS_reverse (Z1 L b (by omega) (B.put (mirror_perm _ _ _ _)) (X2 (KK_mirror_equal x d) (zjz p (by omega) (u1v f))) h))
  .rw[j5 g]
   obtain rfl:n=1:=by omega
   exact Z1 L b (by omega) B (zjz zek (t6 1) (u1v f)) h
def zpf {l u a:Nat}(h:(l+u)/2=a)(c:¬ l >= u):l<=a/\a<u:=by
 have b:l<u:=Nat.lt_of_not_le c
 rw[<-h]
 exact⟨(Nat.le_div_iff_mul_le (by decide)).mpr (by rw[Nat.mul_two];exact u0M (m4 b) l),(Nat.div_lt_iff_lt_mul (by decide)).mpr (by rw[Nat.mul_two];exact Nat.add_lt_add_right b u)⟩
def zqE {l u a x y:Nat}(c:l<=a)(b:a<u)(d:u-l<=x-y):a-l<=x-(y+1) :=
 n0 (u01 (Nat.sub_lt_sub_right c b)) (u1N d 1)
def zqW {l u a x y:Nat}(b:l<=a)(c:u-l<=x-y):u-(a+1)<=x-(y+1) :=
 n0 (Nat.sub_le_sub_left (u0C b) u) (u1N c 1)
def zph (r n:Nat):min (max (max r 1) n) n=n:=u2G (Nat.le_max_right _ _)
def zoL {r n:Nat}(a:¬ r=0)(b:r<=n):min (max r 1) n=r:=by
 rw[Nat.max_eq_left (Nat.pos_of_ne_zero a),u1k b]
def zpm {i j r:Nat}(b:r=0)(a:i<=j)(c:j<min (max r 1) n):i=j:=by
 subst b
 have h0:j=0:=Nat.lt_one_iff.mp (q7 c (Nat.min_le_left _ _))
 subst h0
 exact Nat.le_zero.mp a
def zk4 {n r:Nat}{Q:Bool->SortSt->Prop}(L:LtOk prog w A E s a₀ κ k)(V:n<=a₀.size)(Y:r<=n)(B:SB k a₀ st)(W:SortedToK κ (arrOf st) r)
 (h:∀ t,SB k a₀ t->SortedToK κ (arrOf t) n->Q true t):wpS (model prog w) A E s (binarySort' 0 n r) Q st:=by
 rw[binarySort'_eq]
 refine l5 (wpS_mono (u1J (I:=λx c t=>(c=(none,())/\SB k a₀ t)/\SortedToK κ (arrOf t) (min x n)) (Q:=λc t=>(c=(none,())/\SB k a₀ t)/\SortedToK κ (arrOf t) n)
  (λx c t Z M H=>?_) (λc t H=>?_) ⟨⟨rfl,B⟩,?_⟩) λc t H=>?_)
 .obtain⟨⟨rfl,B1⟩,b⟩:=H
  rw[u1k (m4 M)]at b
  have N:x<a₀.size:=q7 M V
  refine l5 (wpS_mono (u1J
   (I:=λy c g=>g=t/\∃ l u,c=(none,l,u)/\(l<=u/\u<=x/\u-l<=x-y)/\(∀ i,i<l->κ.kle (KK κ (arrOf t) i) (KK κ (arrOf t) x))/\∀ i,u<=i->i<x->κ.klt (KK κ (arrOf t) x) (KK κ (arrOf t) i))
   (Q:=λc g=>g=t/\∃ l u,c=(none,l,u)/\l<=x/\(∀ i,i<l->κ.kle (KK κ (arrOf t) i) (KK κ (arrOf t) x))/\∀ i,l<=i->i<x->κ.klt (KK κ (arrOf t) x) (KK κ (arrOf t) i))
   (λy c g y1 y2 K=>?_) (λc g K=>?_) ⟨rfl,0,x,rfl,⟨p9 _,t6 _,t6 _⟩,λi X=>absurd X (Nat.not_lt_zero _),λi d o=>absurd (l9 d o) (u0t _)⟩) λc g K=>?_)
  .obtain⟨rfl,l,u,rfl,⟨G,f,P⟩,v,z⟩:=K
   show wpS _ _ _ _ (if l >= u then _ else _) _ _
   by_cases J:l >= u
   .rw[t9 J]
    obtain rfl:l=u:=u10 G J
    exact u0m ⟨rfl,l,l,rfl,f,v,z⟩
   .rw[j5 J]
    generalize F:(l+u)/2=md
    obtain⟨O,D⟩:=zpf F J
    clear F J G
    refine l5 (L _ (0+x) (0+md) _ B1 (by rw[l0];exact N) (by rw[l0];exact q7 D (n0 f (m4 N))) ?_)
    rw[l0,l0]
    cases S:κ.blt (KK κ (arrOf g) x) (KK κ (arrOf g) md) with
    | true=>exact u0m ⟨rfl,l,md,rfl,⟨O,n0 (m4 D) f,zqE O D P⟩,v,λi d o=>KeyOrd.klt_of_klt_of_kle S (b _ _ d o)⟩
    | false=>exact u0m ⟨rfl,md+1,u,rfl,⟨D,f,zqW O P⟩,λi d=>u1K (b i md (i4 d) (q7 D f)) S,z⟩
  .obtain⟨rfl,l,u,rfl,⟨G,f,P⟩,v,z⟩:=K
   obtain rfl:l=u:=by omega
   exact⟨rfl,l,l,rfl,f,v,z⟩
  .obtain⟨rfl,l,u,rfl,f,v,z⟩:=K
   show wpS _ _ _ _ (do moveDown' (0+x) (0+l);pure (ForInStep.yield (none,()))) _ _
   rw[moveDown'_eq,l0,l0]
   refine l5 (wpS_modify (u0m ⟨⟨rfl,B1.put (bubble_perm _ _ _)⟩,?_⟩))
   have U:x<(arrOf g).size:=by rw[B1.sz];exact N
   rw[u1k (Nat.succ_le_of_lt M)]
   show SortedToK κ (bubble (arrOf g) x (x-l)) (x+1)
   intro i j a m
   rw[KK_bubble U (Nat.sub_le _ _),KK_bubble U (Nat.sub_le _ _),Nat.sub_sub_self f]
   by_cases d:i=l
   .rw[t9 d]
    by_cases p:j=l
    .rw[t9 p];exact u0v _
    .have q:l<j:=u2g (by rw[<-d];exact a) (λe=>p e.symm)
     rw[j5 p,t9 ⟨q,i4 m⟩];exact u1v (z _ (u01 q) (q7 (Nat.sub_lt (u2u q) Nat.one_pos) (i4 m)))
   .rw[j5 d]
    by_cases o:l<i/\i<=x
    .have q:=q7 o.1 a
     rw[t9 o,j5 (λe=>absurd q (by rw[e];exact u0t _)),t9 ⟨q,i4 m⟩];exact b _ _ (u1N a 1) (q7 (Nat.sub_lt (u2u q) Nat.one_pos) (i4 m))
    .rw[j5 o]
     have R:i<l:=u2g (u0B λh=>o ⟨h,n0 a (i4 m)⟩) d
     clear o d
     by_cases p:j=l
     .rw[t9 p];exact v i R
     .rw[j5 p]
      by_cases C:l<j/\j<=x
      .rw[t9 C];exact b _ _ (u01 (Nat.lt_trans R C.1)) (q7 (Nat.sub_lt (u2u C.1) Nat.one_pos) (i4 m))
      .rw[j5 C];exact b _ _ a (q7 (u2g (u0B λh=>C ⟨h,i4 m⟩) p) f)
 .obtain⟨⟨G,B1⟩,b⟩:=H
  rw[zph]at b
  exact⟨⟨G,B1⟩,b⟩
 .by_cases T:r=0
  .intro i j a m
   obtain rfl:i=j:=zpm T a m
   exact u0v _
  .rw[zoL T Y];exact W
 .obtain⟨⟨rfl,B1⟩,b⟩:=H
  exact u0m (h t B1 b)
def own_runs {Q:Unit->SortSt->Prop}(L:LtOk prog w A E s a₀ κ k)(B:SB k a₀ st)(G:2<=a₀.size)(u:a₀.size<64)
 (h:∀ t,(arrOf t).Perm a₀->failedOf t=none->SortedToK κ (arrOf t) a₀.size->Q () t):wpS (model prog w) A E s sortRuns' Q st:=by
 rw[sortRuns'_eq]
 have l:minRun' a₀.size a₀.size 0=a₀.size:=by
  cases e:a₀.size with
  | zero=>omega
  | succ f=>rw[minRun'_succ,t9 (by omega),Nat.add_zero]
 refine l5 (wpS_get ?_)
 simp only[B.sz,l]
 let Dn:SortSt->Prop:=λt=>(arrOf t).Perm a₀/\failedOf t=none/\pendingOf t=#[(0,a₀.size,0)]/\SortedToK κ (arrOf t) a₀.size
 have fin:∀ t,SB k a₀ t->SortedToK κ (arrOf t) a₀.size->Dn (setPending t ((pendingOf t).push (0,a₀.size,0))):=λt B1 m=>⟨B1.pm,B1.fl,by show(pendingOf t).push _=_;rw[B1.pd];rfl,m⟩
 refine l5 (wpS_mono (u1J (I:=λx c t=>(x=0/\c=(none,0)/\SB k a₀ t)\/(1<=x/\c=(none,a₀.size)/\Dn t)) (Q:=λc t=>c=(none,a₀.size)/\Dn t)
  (λx c t C D a=>?_) (λc t a=>?_) (.inl ⟨rfl,rfl,B⟩)) λc t a=>?_)
 .rcases a with ⟨rfl,rfl,B1⟩ | ⟨_,rfl,D1⟩
  .show wpS _ _ _ _ (if 0 >= a₀.size then _ else _) _ _
   rw[j5 (by omega)]
   simp only[Nat.sub_zero,Nat.min_self,l0]
   refine l5 (zlT L (t6 _) (by omega) B1 λr d B2 F p g=>?_)
   show wpS _ _ _ _ (if r<a₀.size then _ else _) _ _
   by_cases j:r<a₀.size
   .rw[t9 j]
    refine l5 (wpS_lift (u2y ⟨rfl,l5 (zk4 L (t6 _) p B2 g λi B3 v=>?_)⟩))
    refine l5 (wpS_get ?_)
    rw[show(pendingOf i).back?=none by rw[B3.pd];rfl]
    exact l5 (wpS_modify (u0m (.inr ⟨by omega,rfl,fin i B3 v⟩)))
   .rw[j5 j]
    obtain rfl:r=a₀.size:=by omega
    refine l5 (wpS_get ?_)
    rw[show(pendingOf d).back?=none by rw[B2.pd];rfl]
    exact l5 (wpS_modify (u0m (.inr ⟨by omega,rfl,fin d B2 g⟩)))
  .show wpS _ _ _ _ (if a₀.size >= a₀.size then _ else _) _ _
   rw[t9 (t6 _)]
   exact u0m ⟨rfl,D1⟩
 .rcases a with ⟨z,_,_⟩ | ⟨_,e,D1⟩
  .omega
  .exact⟨e,D1⟩
 .obtain⟨rfl,y,q,o,n⟩:=a
  refine l5 (wpS_mono (u1J (I:=λ_ c b=>b=t/\c=(none,())) (Q:=λc b=>b=t/\c=(none,())) (λx c b _ _ a=>?_) (λ_ _ z=>z) ⟨rfl,rfl⟩) λc b a=>?_)
  .obtain⟨rfl,rfl⟩:=a
   refine l5 (wpS_get ?_)
   rw[t9 (by rw[o];exact t6 1)]
   exact u0m ⟨rfl,rfl⟩
  .obtain⟨rfl,rfl⟩:=a
   exact u0m (h _ y q n)
end
abbrev Pr:=Int × Int
def bltP (s t:Pr):Bool:=decide (s.1<t.1\/(s.1=t.1/\s.2<t.2))
def TP (h:Heap) (v:Value) (t:Pr):Prop:=∃ a o n b ty,v=.ref a/\h.get? a=some o/\o.cls=.type "tuple"/\o.data=.seq #[.int t.1 b,.int t.2 ty] n
def TP.uniq {t:Pr}(x:TP h v s)(y:TP h v t):s=t:=by
 obtain⟨a,o,n,i,ty,rfl,f,_,g⟩:=x
 obtain⟨b,k,j,l,m,e,d,_,c⟩:=y
 cases e
 rw[f]at d
 cases d
 rw[g]at c
 injection c with c _
 have:=u0z Array.toList c
 simp at this
 exact u2B this.1.1 this.2.1
def TP.keep {h c:Heap}{t:Pr}(x:TP h v t)(k:∀ b o,h.get? b=some o->c.get? b=some o):TP c v t:=by
 obtain⟨a,o,n,d,ty,e,f,r⟩:=x
 exact⟨a,o,n,d,ty,e,k _ _ f,r⟩
open Classical in
noncomputable def keyP (h:Heap)(v:Value):Option Pr:=if x:∃ t,TP h v t then some x.choose else none
@[reducible] noncomputable def kindP (h:Heap):KeyKind where
 α:=Pr
 blt:=bltP
 irrefl a:=by unfold bltP;exact q4 (by omega)
 trans a b c h1 h2:=by unfold bltP at *;rw[k7]at *;omega
 negTrans a b c h:=by unfold bltP at *;rw[k7]at *;rw[k7];omega
 total a b h1 h2:=by
  unfold bltP at *
  rw[p6]at *
  exact u2B (by omega) (by omega)
 keyOf:=keyP h
 dflt:=(0,0)
def zfY (b:Bool)(x y:Value):keyLt' (tuples' b) x y=(do
 let xs<-Builtin.List.listItems x
 let ys<-Builtin.List.listItems y
 for ((p,q),i)in (xs.toList.zip ys.toList).zipIdx do
  if !(<- eqBool p q)then return<-oneLt' (b&&i == 0) p q
 return xs.size<ys.size):=rfl
def zhM (v:Value):firstOfTuple' v=(do
 if (<- typeOf v) != .type "tuple" then return none
 return (<- Builtin.List.listItems v)[0]?):=rfl
section
variable {prog:zO}{w:World}{A:zM}{E:yT}{s:zm}
def lt0 {a b:Int}{t:Tok}{Q:Bool->Shared->Prop}(h:Q (decide (a<b)) s):wpAny (model prog w) A (oneLt' false (.int a t) (.int b u)) Q E s:=by
 rw[oneLt'_eq]
 rw[j5 u7]
 exact u5 (PyProof.Rows.lt_int (u0b h))
def zdz:∀ {a:zx},(∀ f∈a,∃ i t,f=.int i t)->a.mapM typeOf=pure (a.map λ_=>Value.type "int")
 | [],_=>by simp
 | f::a,h=>by
  obtain⟨i,t,rfl⟩:=h f g3
  rw[List.mapM_cons,zdz λg b=>h g (r9 _ b),show typeOf (.int i t)=pure (.type "int")from rfl]
  simp
end
end OwnSort
namespace OwnTim
open PySem PyProof.Rows
def ky (κ:KeyKind)(x:Keyed):κ.α:=(κ.keyOf x.1).getD κ.dflt
def LtE (a:zO)(w:World)(A:zM)(E:yT)(s:zm)(κ:KeyKind)(k:SortKind)(D:Keyed->Prop):Prop :=
 ∀ (b:SortSt) (x y:Keyed) (Q:Option Bool->SortSt->Prop),kindOf b=k->D x->D y->Q (some (κ.blt (ky κ x) (ky κ y))) b->wpS (model a w) A E s (lt' x y) Q b
section
variable {prog:zO}{w:World}{A:zM}{E:yT}{s:zm}{a₀:Array Keyed}{κ:KeyKind}{k:SortKind}{st:SortSt}
def zoR {i:Nat}(h:a[i]?=some x):KK κ a i=ky κ x:=by
 unfold KK
 rw[h]
 rfl
def zlU (L:LtE prog w A E s κ k (·∈a₀.toList)):OwnSort.LtOk prog w A E s a₀ κ k:=by
 intro st i j Q S b f q
 have a:∀ {i},i<a₀.size->∃ x,(arrOf st)[i]?=some x/\x∈a₀.toList:=λ{i} b=>by
  have c:i<(arrOf st).size:=by rw[S.sz];exact b
  exact⟨(arrOf st)[i],getElem?_pos _ i c,(u16.mp S.pm).mem_iff.mp (by simp)⟩
 obtain⟨x,e,h⟩:=a b
 obtain⟨y,d,g⟩:=a f
 rw[zoR e,zoR d]at q
 rw[ltAt'_eq]
 refine l5 (wpS_get ?_)
 show wpS _ _ _ _ (elem' (arrOf st) i>>=λx=>elem' (arrOf st) j>>=λy=>lt' x y) Q st
 rw[elem'_eq,elem'_eq,e,d]
 exact l5 (u0m (l5 (u0m (L _ _ _ _ S.kd h g q))))
def own_runsE {Q:Unit->SortSt->Prop}(L:LtE prog w A E s κ k (·∈a₀.toList))(d:(arrOf st).Perm a₀)(f:kindOf st=k)(e:failedOf st=none)(c:pendingOf st=#[])
 (h:∀ t,(arrOf t).Perm a₀->failedOf t=none->SortedToK κ (arrOf t) a₀.size->Q () t) (b:2<=a₀.size) (a:a₀.size<64):wpS (model prog w) A E s sortRuns' Q st:=OwnSort.own_runs (zlU L) ⟨d,f,e,c⟩ b a h
end
end OwnTim
namespace OwnSortT
open PySem PyProof.Rows OwnSort
def lex_irr:∀ a:zy,HT.lexLt a a=false:=by
 intro a
 induction a with
 | nil=>rfl
 | cons x c b=>rw[HT.lexLt_cons,t9 rfl,b]
def lex_trans:∀ a b c:zy,HT.lexLt a b=true->HT.lexLt b c=true->HT.lexLt a c=true:=by
 intro a
 induction a with
 | nil =>
  intro b c e d
  cases c with
  | nil=>cases b <;> cases d
  | cons _ _=>rfl
 | cons x i h =>
  intro b c e d
  cases b with
  | nil=>cases e
  | cons y j=>cases c with
   | nil=>cases d
   | cons z zs =>
    rw[HT.lexLt_cons]at e d ⊢
    by_cases g:x=y
    .rw[t9 g]at e
     by_cases f:y=z
     .rw[t9 f]at d;rw[t9 (g.trans f)];exact h _ _ e d
     .rw[j5 f,k7]at d;rw[j5 (by omega),k7];omega
    .rw[j5 g,k7]at e
     by_cases f:y=z
     .rw[j5 (by omega),k7];omega
     .rw[j5 f,k7]at d;rw[j5 (by omega),k7];omega
def lex_total:∀ a b:zy,HT.lexLt a b=false->HT.lexLt b a=false->a=b:=by
 intro a
 induction a with
 | nil =>
  intro b d c
  cases b with
  | nil=>rfl
  | cons _ _=>cases d
 | cons x g f =>
  intro b d c
  cases b with
  | nil=>cases c
  | cons y h =>
   rw[HT.lexLt_cons]at d c
   by_cases e:x=y
   .rw[t9 e]at d;rw[t9 e.symm]at c;rw[e,f _ d c]
   .rw[j5 e,p6]at d;rw[j5 (u0k e),p6]at c;omega
def lex_neg (a b c:zy)(h:HT.lexLt a c=true):HT.lexLt a b=true\/HT.lexLt b c=true:=by
 cases e:HT.lexLt a b with
 | true=>exact .inl rfl
 | false =>
  refine .inr ?_
  cases d:HT.lexLt b a with
  | true=>exact lex_trans _ _ _ d h
  | false=>rw[<-lex_total _ _ e d];exact h
def TT (h:Heap) (v:Value) (t:zy):Prop:=∃ a o n b,v=.ref a/\h.get? a=some o/\o.cls=.type "tuple"/\o.data=.seq b.toArray n/\IntsAre b t/\t≠[]
def zfv:∀ {c:zx} {ns a:zy},IntsAre c ns->IntsAre c a->ns=a:=by
 intro c ns a h
 induction h generalizing a with
 | nil=>intro b;cases b;rfl
 | cons n t h e=>intro b;cases b with | cons f g d=>rw[e d]
def TT.uniq {t:zy}(x:TT h v s)(y:TT h v t):s=t:=by
 obtain⟨a,o,n,d,rfl,j,_,l,i,_⟩:=x
 obtain⟨b,p,m,c,e,g,_,f,q,_⟩:=y
 cases e
 rw[j]at g
 cases g
 rw[l]at f
 have k:d.toArray=c.toArray:=by injection f
 cases List.toArray_inj k
 exact zfv i q
def TT.keep {h d:Heap}{t:zy}(x:TT h v t)(k:∀ b o,h.get? b=some o->d.get? b=some o):TT d v t:=by
 obtain⟨a,o,n,c,e,f,r⟩:=x
 exact⟨a,o,n,c,e,k _ _ f,r⟩
def TT.keepT {h f:Heap} {t:zy} (x:TT h v t) (k:∀ b o,o.cls=.type "tuple"->h.get? b=some o->f.get? b=some o):TT f v t:=by
 obtain⟨a,o,n,d,e,g,c,r⟩:=x
 exact⟨a,o,n,d,e,k _ _ c g,c,r⟩
open Classical in
noncomputable def keyTT (h:Heap)(v:Value):Option zy:=if x:∃ t,TT h v t then some x.choose else none
def keyTT_of {t:zy}(x:TT h v t):keyTT h v=some t:=by
 unfold keyTT
 have y:∃ t,TT h v t:=⟨t,x⟩
 rw[dif_pos y,y.choose_spec.uniq x]
@[reducible] noncomputable def zdF (h:Heap):KeyKind where
 α:=zy
 blt:=HT.lexLt
 irrefl:=lex_irr
 trans:=lex_trans
 negTrans:=lex_neg
 total:=lex_total
 keyOf:=keyTT h
 dflt:=[]
section
variable {prog:zO}{w:World}{A:zM}{E:yT}{s:zm}
def znj (d:Bool):zy->zy->Bool
 | x::xs,y::ys=>if x=y then znj d xs ys else decide (x<y)
 | _,_=>d
def zlJ:∀ a b:zy,znj (decide (a.length<b.length)) a b=HT.lexLt a b:=by
 intro a
 induction a with
 | nil=>intro b;cases b with
  | nil=>rfl
  | cons _ _=>rfl
 | cons x d e=>intro b;cases b with
  | nil=>rfl
  | cons y c =>
   rw[HT.lexLt_cons,<- e c]
   show(if x=y then znj (decide (d.length+1<c.length+1)) d c else decide (x<y))=_
   rw[show decide (d.length+1<c.length+1)=decide (d.length<c.length) by congr 1;apply propext;omega]
def zgP (x:(Value × Value) × Nat)(_:Option Bool × Unit):Sem (ForInStep (Option Bool × Unit)):=do
 let b<-eqBool x.1.1 x.1.2
 if (!b)=true then do
  let c<-oneLt' (true&&x.2 == 0) x.1.1 x.1.2
  pure (ForInStep.done (some c,()))
 else pure (ForInStep.yield (none,()))
def ziJ {d:Bool}:∀ {f:zx} {ns:zy} {a:zx} {b:zy} {k:Nat} {Q:Option Bool × Unit->Shared->Prop},IntsAre f ns->IntsAre a b->(∀ r:Option Bool × Unit,r.1.getD d=znj d ns b->Q r s) ->
 wpAny (model prog w) A (forIn ((f.zip a).zipIdx k) ((none,()):Option Bool × Unit) zgP) Q E s:=by
 intro f ns a b k Q g
 induction g generalizing a b k with
 | nil=>intro e q;exact t5 (q (none,()) rfl)
 | cons x t g i =>
  intro e q
  cases e with
  | nil=>exact t5 (q (none,()) rfl)
  | cons y u e =>
   rw[u2f,List.zipIdx_cons,u2P]
   refine u5 (u5 (u2k x t y u prog w E _ ?_))
   by_cases c:x=y
   .rw[show(x == y)=true by rw[c];exact u0P _]
    refine t5 (i e λr j=>q r (j.trans ?_))
    show _=(if x=y then znj d _ _ else decide (x<y))
    rw[t9 c]
   .rw[show(x == y)=false by simpa using c]
    have h:Q (some (decide (x<y)),()) s:=q _ (by
     show decide (x<y)=(if x=y then znj d _ _ else decide (x<y))
     rw[j5 c])
    cases k with
    | zero=>exact u5 (oneLt_int (t5 (t5 h)))
    | succ k=>exact u5 (lt0 (t5 (t5 h)))
def zmn {Q:Bool->Shared->Prop}(j:TT s.heap x a)(k:TT s.heap y b)(h:Q (HT.lexLt a b) s):wpAny (model prog w) A (keyLt' (tuples' true) x y) Q E s:=by
 obtain⟨p,o,n,f,rfl,l,_,z,g,_⟩:=j
 obtain⟨q,F,D,c,rfl,t,_,C,i,_⟩:=k
 rw[zfY]
 refine u5 (listItems_at l z (u5 (listItems_at t C ?_)))
 show wpAny _ _ (forIn ((f.zip c).zipIdx 0) ((none,()):Option Bool × Unit) zgP>>=_) _ _ _
 refine u5 (ziJ (d:=decide (f.length<c.length)) g i λr m=>?_)
 have e:Q (r.1.getD (decide (f.length<c.length))) s:=by
  rw[m,g.length,i.length,zlJ];exact h
 obtain⟨B,u⟩:=r
 cases B with
 | none=>exact t5 e
 | some v=>exact t5 e
def zj9 {d:zx}(k:∀ v∈d,∃ t,TT s.heap v t):OwnTim.LtE prog w A E s (zdF s.heap) (tuples' true) (·∈(pairsOf d).toList):=by
 intro o x y Q l g i h
 have c:∀ {x:Keyed},x∈(pairsOf d).toList->∃ t,TT s.heap x.1 t/\OwnTim.ky (zdF s.heap) x=t:=λ{x} hm=>by
  rw[pairsOf_toList]at hm
  obtain⟨t,e⟩:=k _ (mem_zip_self hm).2
  refine⟨t,e,?_⟩
  unfold OwnTim.ky
  show(keyTT s.heap x.1).getD _=t
  rw[keyTT_of e]
  rfl
 obtain⟨a,j,n⟩:=c g
 obtain⟨b,m,f⟩:=c i
 rw[n,f]at h
 rw[lt'_eq]
 refine l5 (wpS_get ?_)
 rw[l]
 exact l5 (wpS_lift (u1o (zmn j m ⟨rfl,u0m h⟩)))
def VJ:∀ {e:zx} {Q:List (Option Value)->Shared->Prop},(∀ v∈e,∃ t,TT s.heap v t)->(∀ c:zx,c.length=e.length->(∀ f∈c,∃ i t,f=.int i t)->Q (c.map some) s)->wpAny (model prog w) A (e.mapM firstOfTuple') Q E s
 | [],Q,_,h=>by rw[List.mapM_nil];exact t5 (h [] rfl (by simp))
 | v::e,Q,hT,h=>by
  obtain⟨t,a,o,n,k,rfl,l,y,x,m,j⟩:=hT v g3
  obtain⟨z,zs,d,g,rfl,rfl⟩:∃ z zs d g,k=z::zs/\z=.int d g:=by
   cases m with
   | nil=>exact absurd rfl j
   | cons d g m=>exact⟨_,_,_,_,rfl,rfl⟩
  rw[List.mapM_cons,zhM]
  refine u5 (u5 (u1I (T:="tuple") ⟨o,l,y⟩ ?_))
  rw[j5 (by simp)]
  refine u5 (listItems_at l x (t5 (u5 (VJ (λu q=>hT u (r9 _ q)) λc p r=>t5 ?_))))
  exact h (.int d g::c) (by simp[p]) λf b=>by
   rcases j9.mp b with rfl | b
   .exact⟨_,_,rfl⟩
   .exact r f b
def zft {Q:SortKind->Shared->Prop}(g:∀ v∈c::b,∃ t,TT s.heap v t)(h:Q (tuples' true) s):wpAny (model prog w) A (keyKind' (c::b).toArray) Q E s:=by
 rw[keyKind'_eq,List.mapM_toArray,<- bind_pure_comp,bind_assoc]
 refine u5 (VJ g λa d e=>u5 (t5 ?_))
 cases a with
 | nil=>simp at d
 | cons f a =>
  rw[t9 (by simp)]
  have i:((f::a).map some).toArray.filterMap id=(f::a).toArray:=by simp
  refine u5 (u2y ?_)
  rw[i,oneTypeOnly'_eq,List.mapM_toArray,zdz e]
  simp only[map_pure,pure_bind]
  rw[show(List.map (λ_=>Value.type "int") (f::a)).toArray[0]?=some (Value.type "int") by simp]
  have j:((List.map (λ_=>Value.type "int") (f::a)).toArray.all λx=>x == Value.type "int")=true:=by
   simp only[List.all_toArray,u1D,m7]
   intro _ _
   rfl
  simp only[j,u2p,pure_bind,Option.any_some]
  rw[show(Value.type "int" != Value.type "tuple")=true by decide +kernel]
  exact t5 h
end
def Rise (h:Heap)(c:zx):Prop:=∃ d:Zu,c.length=d.length/\(∀ (i:Nat) (v:Value) (t:zy),c[i]?=some v->d[i]?=some t->TT h v t)/\d.Pairwise λa b=>HT.lexLt b a=false
def zag {xs:Array Keyed}(u:∀ v∈a,∃ t,TT h v t)(w:∀ v t,TT h v t->TT c v t)(l:xs.Perm (pairsOf a))(n:SortedToK (zdF c) xs (pairsOf a).size):(xs.map (·.2)).toList.Perm a/\Rise h (xs.map (·.2)).toList:=by
 have m:xs.toList.Perm (a.zip a):=by rw[<-pairsOf_toList];exact u16.mp l
 have o:∀ p∈xs.toList,p.1=p.2/\p.1∈a:=λp q=>mem_zip_self (m.mem_iff.mp q)
 have y:(xs.map (·.2)).toList=xs.toList.map (·.2):=by simp
 rw[y]
 refine⟨?_,xs.toList.map λp=>(keyTT c p.1).getD ([]:zy),by simp,λi v t d b=>?_,?_⟩
 .have:=m.map (·.2)
  rwa[show(a.zip a).map (·.2)=a from List.map_snd_zip (t6 _)]at this
 .rw[r8]at d b
  cases f:xs.toList[i]? with
  | none=>rw[f]at d;cases d
  | some p =>
   rw[f]at d b
   cases d
   cases b
   obtain⟨z,r⟩:=o p (f8 f)
   obtain⟨t,b⟩:=u _ r
   show TT h p.2 ((keyTT c p.1).getD ([]:zy))
   rw[keyTT_of (w _ _ b),<- z]
   exact b
 .rw[List.pairwise_iff_getElem]
  intro i j s x g
  have k:i<xs.size:=by simpa using s
  have e:j<xs.size:=by simpa using x
  have:=n i j (m4 g) (by rw[<-l.size_eq];exact e)
  unfold KK at this
  rw[getElem?_pos xs i k,getElem?_pos xs j e]at this
  have this:HT.lexLt ((keyTT c xs[j].1).getD ([]:zy)) ((keyTT c xs[i].1).getD ([]:zy))=false:=this
  simpa using this
section
variable {prog:zO}{w:World}{A:zM}{E:yT}{s:zm}
def ownT_list_sort {d:zx} {P:Fin->Shared->Prop} (m:s.heap.get? a=some (seqObj "list" d.toArray n)) (F:∀ v∈d,∃ t,TT s.heap v t) (C:d.length<64) (h:∀ f:wY,f.toList.Perm d->Rise s.heap f.toList->P (.done (.ret .none)) { s with heap:=sortedHeap s.heap a d f }):wpAny (model prog w) A (Builtin.«list.sort» ⟨[.ref a],[]⟩) P E s:=by
 have M:a<s.heap.objs.size:=j4 m
 have L:d.toArray.size=d.length:=t7
 obtain⟨g,G⟩:∃ g,(s.heap.update a (Obj.mapSeq λ_=>#[])).get? a=some (seqObj "list" #[] g):=⟨_,get?_update_seq m (λ_=>#[])⟩
 have q:(((s.heap.update a (Obj.mapSeq λ_=>#[])).push (seqObj "tuple" d.toArray 0)).push (seqObj "list" #[] 0)).get? a=some (seqObj "list" #[] g):=u8 _ (u8 _ G)
 have H:∀ b o,o.cls=.type "tuple"->s.heap.get? b=some o->(((s.heap.update a (Obj.mapSeq λ_=>#[])).push (seqObj "tuple" d.toArray 0)).push (seqObj "list" #[] 0)).get? b=some o:=λb o c e=>by
  refine u8 _ (u8 _ ((i6 _ _ λz=>?_).trans e))
  subst z
  rw[m]at e
  cases e
  exact absurd (show Value.type "list"=Value.type "tuple" from c) (by decide +kernel)
 have p:∀ v∈d,∃ t,TT (((s.heap.update a (Obj.mapSeq λ_=>#[])).push (seqObj "tuple" d.toArray 0)).push (seqObj "list" #[] 0)) v t:=λv J=>let ⟨t,l⟩:=F v J;⟨t,l.keepT H⟩
 rw[list_sort_plain]
 refine u5 (listItems_at m rfl (u5 (listUpdate_at m rfl (u5 (seqEpoch_at G rfl (u5 (wpAny_newTuple (u5 (wpAny_newList (i0 ?_))))))))))
 show wpAny (model prog w) A _ P E { s with heap:=((s.heap.update a (Obj.mapSeq λ_=>#[])).push (seqObj "tuple" d.toArray 0)).push (seqObj "list" #[] 0) }
 by_cases k:d.toArray.size<2
 .rw[t9 k,t9 k]
  refine u5 (t5 ?_)
  dsimp only
  rw[StateT.run_pure]
  refine u5 (t5 ?_)
  obtain⟨y,x⟩:=zag (xs:=pairsOf d) F (λv t l=>l) (Array.Perm.refl _) (λi j K I=>by
   obtain rfl:i=j:=by rw[u2n]at I;omega
   exact u0v _)
  refine u5 (seqEpoch_at q rfl (u5 (listUpdate_at q rfl ?_ (hsz2:=by rw[Array.size_map];show(pairsOf d).size<=_;rw[u2n,u0G];omega))))
  rw[show(g != g)=false by simp]
  exact t5 (h _ y x)
 .rw[j5 k,j5 k]
  cases d with
  | nil=>simp at k
  | cons u rest =>
   refine u5 (zft p ?_)
   refine u5 (p0 (OwnTim.own_runsE (st:=SortSt.mk' (tuples' true) ((u::rest).toArray.zip (u::rest).toArray) #[] 7 none) (Q:=λ_ t=>(arrOf t).Perm (pairsOf (u::rest))/\failedOf t=none/\SortedToK (zdF _) (arrOf t) (pairsOf (u::rest)).size)
    (zj9 p) (Array.Perm.refl _) rfl rfl rfl (λt r B D=>⟨r,B,D⟩) (by rw[u2n];rw[t7]at k;omega) (by rw[u2n];exact C)) ?_ λ_ _ e=>e)
   rintro⟨⟨⟩,t⟩ N ⟨rfl,r,B,D⟩
   obtain⟨y,x⟩:=zag F (λv t l=>l.keepT H) r D
   refine u5 (seqEpoch_at q rfl (u5 (listUpdate_at q rfl ?_ (hsz2:=by rw[Array.size_map];show(arrOf t).size<=_;rw[r.size_eq,u2n,u0G];omega))))
   rw[B,show(g != g)=false by simp]
   exact t5 (h _ y x)
end
end OwnSortT
namespace OwnSort
open PySem PyProof.Rows
def Rise (h:Heap)(c:zx):Prop:=∃ d:List Pr,c.length=d.length/\(∀ (i:Nat) (v:Value) (t:Pr),c[i]?=some v->d[i]?=some t->TP h v t)/\d.Pairwise λa b=>bltP b a=false
def TP.tt {t:Pr}(x:TP h v t):OwnSortT.TT h v [t.1,t.2]:=by
 obtain⟨a,o,n,d,ty,e,b,f,c⟩:=x
 exact⟨a,o,n,[.int t.1 d,.int t.2 ty],e,b,f,c,.cons _ _ (.cons _ _ .nil),List.cons_ne_nil _ _⟩
end OwnSort
namespace Dl
open PySem L2
class KK where
 K:W.Frag
 dk:Addr
inductive D where
 | non | bl (b:Bool) | int (i:Int) | str (x:Str) | tup (ds:List D) | lst (ds:List D) | scr (ns:zy)
  | dct (z t:Bool) (ks:List (List Key)) (vs:List D)
  | obj (w h:D) (ps:List D)
 deriving Inhabited
abbrev zi9:=List D->Option (List D)
abbrev xW:=List D->Option D
abbrev zh4:=List D->Option Nat
abbrev xE:=D->D->Option D
abbrev za7:=D->Option (List (Option D))
abbrev zg:=List D
def ZH (b a:V) (q:Addr):List (Str × V):=[("web",b),("heap",a),("past",.ref q)]
section
variable [KK]
def zcz (o:HO)(t:Bool)(b:List (List Key))(c:zw):Prop :=
 if t=true then ∃ a,o=.dT a/\a.map (·.1)=b/\a.map (·.2)=c else ∃ a:List (Key × V),o=.dK a/\a.map (λp=>[p.1])=b/\a.map (·.2)=c
def V8 (H:Hp)(a:Addr)(z t:Bool)(b:List (List Key))(c:zw):Prop :=
 ∃ u,zcz u t b c/\if z=true then ∃ d,H a=some (.frz d u)else H a=some u
def V8.mono {t:Bool}{d:zw}(s:zN H H')(h:V8 H a z t c d):V8 H' a z t c d:=by
 obtain⟨u,e,b⟩:=h
 refine⟨u,e,?_⟩
 cases z with
 | true =>
  rw[t9 rfl]at b ⊢
  obtain⟨f,b⟩:=b
  exact⟨f,s _ _ b⟩
 | false =>
  rw[j5 u7]at b ⊢
  exact s _ _ b
def V8.rd {t:Bool}{d:zw}(h:V8 H a z t c d):∃ u,zcz u t c d/\Rd H a u:=by
 obtain⟨u,f,b⟩:=h
 refine⟨u,f,?_⟩
 cases z with
 | true =>
  rw[t9 rfl]at b
  obtain⟨e,b⟩:=b
  exact .inr ⟨e,b⟩
 | false =>
  rw[j5 u7]at b
  exact .inl b
mutual
def At (H:Hp):D->V->Prop
 | .non,v=>v=.non
 | .bl b,v=>v=.bl b
 | .int i,v=>v=.int i
 | .str x,v=>v=.str x
 | .tup ds,v=>∃ a c,v=.ref a/\H a=some (.tup c)/\AtL H ds c
 | .lst ds,v=>∃ a c,v=.ref a/\H a=some (.lst c)/\AtL H ds c
 | .scr ns,v=>∃ a,v=.ref a/\SqL KK.K H a (ns.map V.int)
 | .dct z t ks vs,v=>∃ a c,v=.ref a/\V8 H a z t ks c/\AtL H vs c
 | .obj w h ps,v=>∃ p f q d e c,v=.ref p/\H p=some (.ins KK.dk f (ZH d e q))/\H q=some (.lst c)/\At H w d/\At H h e/\AtL H ps c
def AtL (H:Hp):zg->zw->Prop
 | [],xs=>xs=[]
 | d::ds,xs=>∃ x r,xs=x::r/\At H d x/\AtL H ds r
end
mutual
def At.mono (s:zN H H'):∀ {d:D} {v:V},At H d v->At H' d v
 | .non,_,h=>by unfold At at h ⊢;exact h
 | .bl _,_,h=>by unfold At at h ⊢;exact h
 | .int _,_,h=>by unfold At at h ⊢;exact h
 | .str _,_,h=>by unfold At at h ⊢;exact h
 | .tup ds,_,h=>by
  unfold At at h ⊢
  obtain⟨a,f,e,b,c⟩:=h
  exact⟨a,f,e,s _ _ b,AtL.mono s c⟩
 | .lst ds,_,h=>by
  unfold At at h ⊢
  obtain⟨a,f,e,b,c⟩:=h
  exact⟨a,f,e,s _ _ b,AtL.mono s c⟩
 | .scr ns,_,h=>by
  unfold At at h ⊢
  obtain⟨a,e,b⟩:=h
  exact⟨a,e,s.seq b⟩
 | .dct z t ks vs,_,h=>by
  unfold At at h ⊢
  obtain⟨a,f,e,b,c⟩:=h
  exact⟨a,f,e,b.mono s,AtL.mono s c⟩
 | .obj w d ps,_,h=>by
  unfold At at h ⊢
  obtain⟨p,i,q,k,m,f,e,b,j,g,l,c⟩:=h
  exact⟨p,i,q,k,m,f,e,s _ _ b,s _ _ j,At.mono s g,At.mono s l,AtL.mono s c⟩
def AtL.mono (s:zN H H'):∀ {ds:zg} {a:zw},AtL H ds a->AtL H' ds a
 | [],_,h=>by unfold AtL at h ⊢;exact h
 | d::ds,_,h=>by
  unfold AtL at h ⊢
  obtain⟨x,r,e,c,b⟩:=h
  exact⟨x,r,e,At.mono s c,AtL.mono s b⟩
end
mutual
def noL:D->Bool
 | .tup ds=>zfD ds
 | .lst _=>false
 | .scr _=>false
 | .dct _ _ _ _=>false
 | .obj _ _ _=>false
 | _=>true
def zfD:zg->Bool
 | []=>true
 | d::ds=>noL d&&zfD ds
end
mutual
def At.flat {G F:Hp}(h:∀ q b,G q=some (.tup b)->F q=some (.tup b)):∀ {d:D} {v:V},noL d=true->At G d v->At F d v
 | .non,_,_,a=>by unfold At at a ⊢;exact a
 | .bl _,_,_,a=>by unfold At at a ⊢;exact a
 | .int _,_,_,a=>by unfold At at a ⊢;exact a
 | .str _,_,_,a=>by unfold At at a ⊢;exact a
 | .tup ds,_,n,a=>by
  unfold At at a ⊢
  unfold noL at n
  obtain⟨p,b,e,c,f⟩:=a
  exact⟨p,b,e,h _ _ c,AtL.flat h n f⟩
 | .lst ds,_,n,_=>by unfold noL at n;cases n
 | .scr ds,_,n,_=>by unfold noL at n;cases n
 | .dct _ _ _ _,_,n,_=>by unfold noL at n;cases n
 | .obj _ _ _,_,n,_=>by unfold noL at n;cases n
def AtL.flat {G F:Hp}(h:∀ q b,G q=some (.tup b)->F q=some (.tup b)):∀ {c:zg} {b:zw},zfD c=true->AtL G c b->AtL F c b
 | [],_,_,a=>by unfold AtL at a ⊢;exact a
 | d::c,_,n,a=>by
  unfold AtL at a ⊢
  unfold zfD at n
  rw[j6]at n
  obtain⟨x,r,e,g,f⟩:=a
  exact⟨x,r,e,At.flat h n.1 g,AtL.flat h n.2 f⟩
end
section
variable {H H':Hp}{d:D}{ds es:zg}{v x:V}{xs ys:zw}
def At.int:At H (.int i) (.int i):=by unfold At;rfl
def At.bl:At H (.bl b) (.bl b):=by unfold At;rfl
def At.non:At H .non .non:=by unfold At;rfl
def At.str:At H (.str y) (.str y):=by unfold At;rfl
def At.tup {a:Addr}(h:H a=some (.tup xs))(b:AtL H ds xs):At H (.tup ds) (.ref a):=by unfold At;exact⟨a,xs,rfl,h,b⟩
def At.lst {a:Addr}(h:H a=some (.lst xs))(b:AtL H ds xs):At H (.lst ds) (.ref a):=by unfold At;exact⟨a,xs,rfl,h,b⟩
def AtL.nil:AtL H [] []:=by unfold AtL;rfl
def AtL.cons (h:At H d x)(a:AtL H ds xs):AtL H (d::ds) (x::xs):=by unfold AtL;exact⟨x,xs,rfl,h,a⟩
def At.int_inv (h:At H (.int i) v):v=.int i:=by unfold At at h;exact h
def At.bl_inv (h:At H (.bl b) v):v=.bl b:=by unfold At at h;exact h
def At.non_inv (h:At H .non v):v=.non:=by unfold At at h;exact h
def At.str_inv (h:At H (.str y) v):v=.str y:=by unfold At at h;exact h
def At.tup_inv (h:At H (.tup ds) v):∃ a xs,v=.ref a/\H a=some (.tup xs)/\AtL H ds xs:=by unfold At at h;exact h
def At.lst_inv (h:At H (.lst ds) v):∃ a xs,v=.ref a/\H a=some (.lst xs)/\AtL H ds xs:=by unfold At at h;exact h
def At.scr_inv {ns:zy}(h:At H (.scr ns) v):∃ a,v=.ref a/\SqL KK.K H a (ns.map V.int):=by unfold At at h;exact h
def At.dct_inv {t:Bool}(h:At H (.dct z t b c) v):∃ a xs,v=.ref a/\V8 H a z t b xs/\AtL H c xs:=by unfold At at h;exact h
def At.obj_inv {w d:D}(h:At H (.obj w d b) v):∃ p e q a c xs,v=.ref p/\H p=some (.ins KK.dk e (ZH a c q))/\H q=some (.lst xs)/\At H w a/\At H d c/\AtL H b xs:=by unfold At at h;exact h
def AtL.nil_inv (h:AtL H [] xs):xs=[]:=by unfold AtL at h;exact h
def AtL.cons_inv (h:AtL H (d::ds) xs):∃ x r,xs=x::r/\At H d x/\AtL H ds r:=by unfold AtL at h;exact h
def AtL.length:∀ {ds:zg} {xs:zw},AtL H ds xs->xs.length=ds.length
 | [],_,h=>by rw[h.nil_inv];rfl
 | _::_,_,h=>by
  obtain⟨x,r,rfl,_,a⟩:=h.cons_inv
  rw[o4,o4,AtL.length a]
def AtL.get:∀ {ds:zg} {xs:zw} {i:Nat} {d:D},AtL H ds xs->ds[i]?=some d->∃ x,xs[i]?=some x/\At H d x
 | [],_,_,_,_,e=>by simp at e
 | _::_,_,i,_,h,e=>by
  obtain⟨x,r,rfl,c,a⟩:=h.cons_inv
  cases i with
  | zero =>
   simp at e
   subst e
   exact⟨x,rfl,c⟩
  | succ i =>
   obtain⟨y,b,f⟩:=AtL.get (i:=i) a (by simpa using e)
   exact⟨y,by simpa using b,f⟩
def AtL.append:∀ {ds es:zg} {xs ys:zw},AtL H ds xs->AtL H es ys->AtL H (ds++es) (xs++ys)
 | [],_,_,_,h,k=>by rw[h.nil_inv];exact k
 | _::_,_,_,_,h,k=>by
  obtain⟨x,r,rfl,b,a⟩:=h.cons_inv
  exact .cons b (AtL.append a k)
def AtL.snoc (h:AtL H ds xs)(k:At H d v):AtL H (ds++[d]) (xs++[v]):=h.append (.cons k .nil)
def AtL.take:∀ (n:Nat) {ds:zg} {xs:zw},AtL H ds xs->AtL H (ds.take n) (xs.take n)
 | 0,_,_,_=>by simpa using AtL.nil
 | n+1,[],_,h=>by rw[h.nil_inv];simpa using AtL.nil
 | n+1,_::_,_,h=>by
  obtain⟨x,r,rfl,b,a⟩:=h.cons_inv
  rw[List.take_succ_cons,List.take_succ_cons]
  exact .cons b (AtL.take n a)
def AtL.drop:∀ (n:Nat) {ds:zg} {xs:zw},AtL H ds xs->AtL H (ds.drop n) (xs.drop n)
 | 0,_,_,h=>h
 | n+1,[],_,h=>by rw[h.nil_inv];simpa using AtL.nil
 | n+1,_::_,_,h=>by
  obtain⟨x,r,rfl,b,a⟩:=h.cons_inv
  rw[List.drop_succ_cons,List.drop_succ_cons]
  exact AtL.drop n a
def AtL.set:∀ (n:Nat) {ds:zg} {xs:zw},AtL H ds xs->At H d v->AtL H (ds.set n d) (xs.set n v)
 | _,[],_,h,_=>by rw[h.nil_inv];simpa using AtL.nil
 | 0,_::_,_,h,k=>by
  obtain⟨x,r,rfl,b,a⟩:=h.cons_inv
  exact .cons k a
 | n+1,_::_,_,h,k=>by
  obtain⟨x,r,rfl,b,a⟩:=h.cons_inv
  exact .cons b (AtL.set n a k)
def AtL.rep (h:AtL H ds xs):∀ k:Nat,AtL H (List.replicate k ds).flatten (List.replicate k xs).flatten
 | 0=>.nil
 | k+1=>by
  rw[u0j,u0j,u0I,u0I]
  exact h.append (AtL.rep h k)
def AtL.ints (ns:zy):AtL H (ns.map D.int) (ns.map V.int):=by
 induction ns with
 | nil=>exact .nil
 | cons n r a=>exact .cons .int a
def AtL.of_ints:∀ {ns:zy} {xs:zw},AtL H (ns.map D.int) xs->xs=ns.map V.int
 | [],_,h=>h.nil_inv
 | n::r,_,h=>by
  obtain⟨x,c,rfl,b,a⟩:=AtL.cons_inv (by simpa using h)
  rw[b.int_inv,AtL.of_ints a]
  rfl
end
def tyN:D->String
 | .non=>"NoneType" | .bl _=>"bool" | .int _=>"int" | .str _=>"str" | .tup _=>"tuple" | .lst _=>"list" | .scr _=>"list" | .dct _ _ _ _=>"dict" | .obj _ _ _=>"object"
def Hid (F':Hp)(p:Addr)(o:HO):Prop:=F' p=none\/((∃ a,o=.tup a)/\F' p=some o)
def Keep (F H F' H':Hp):Prop:=∀ p o,F p=none->H p=some o->Hid F' p o/\H' p=some o
structure Gr (F H F' H':Hp):Prop where
 ff:zN F F'
 fh:zN F' H'
 kp:Keep F H F' H'
def Gr.refl (s:zN F H):Gr F H F H:=⟨zN.refl _,s,λ_ _ a b=>⟨.inl a,b⟩⟩
def Gr.trans (a:Gr F H F1 H1)(b:Gr F1 H1 F2 H2):Gr F H F2 H2 :=
 ⟨a.ff.trans b.ff,b.fh,λp o f d=>by
  obtain⟨x,y⟩:=a.kp p o f d
  rcases x with x | ⟨e,c⟩
  .exact b.kp p o x y
  .exact⟨.inr ⟨e,b.ff _ _ c⟩,b.fh _ _ (b.ff _ _ c)⟩⟩
def Gr.kl {F H F' H':Hp}{p:Addr}(g:Gr F H F' H')(n:∀ a,o≠.tup a)(d:F p=none)(b:H p=some o):F' p=none/\H' p=some o:=by
 obtain⟨x,y⟩:=g.kp p o d b
 rcases x with x | ⟨⟨a,c⟩,_⟩
 .exact⟨x,y⟩
 .exact absurd c (n a)
def Gr.alloc {H:Hp}{p:Addr}(s:zN F H)(h:H p=none)(o:HO):Gr F H (upd F p o) (upd H p o):=by
 have a:F p=none:=s.free h
 refine⟨λb u q=>?_,λb u q=>?_,λb u q r=>?_⟩
 .rw[zf (ze q a)];exact q
 .by_cases e:b=p
  .subst e;rw[zd]at q ⊢;exact q
  .rw[zf e]at q ⊢;exact s b u q
 .have e:b≠p:=ze r h
  rw[zf e];exact⟨.inl (by rw[zf e];exact q),r⟩
def Gr.hide {H:Hp}{p:Addr}(s:zN F H)(h:H p=none)(o:HO):Gr F H F (upd H p o):=by
 refine⟨zN.refl _,λb u q=>?_,λb u q r=>?_⟩
 .rw[zf (ze (s b u q) h)];exact s b u q
 .have e:b≠p:=ze r h
  rw[zf e];exact⟨.inl q,r⟩
def Gr.show {F H:Hp}{p:Addr}{H0:Hp}(g:Gr F0 H0 F H)(h0:H0 p=none)(a:F p=none)(h:H p=some o):Gr F0 H0 (upd F p o) H:=by
 refine⟨λb u q=>?_,λb u q=>?_,λb u q r=>?_⟩
 .have:=g.ff b u q
  rw[zf (ze this a)];exact this
 .by_cases e:b=p
  .subst e;rw[zd]at q;rw[<-q];exact h
  .rw[zf e]at q;exact g.fh b u q
 .have e:b≠p:=ze r h0
  obtain⟨x,y⟩:=g.kp b u q r
  refine⟨?_,y⟩
  unfold Hid
  rw[zf e]
  exact x
abbrev Ev:=List (Option D)
abbrev yB:=Ev->Option (List D)
abbrev vx:=Ev->Option Bool
abbrev zaJ:=Ev->Option Nat
abbrev zJ:=Ev->Option D
def VAt (F:Hp)(ρ:Ev)(σ:St):Prop:=∀ (i:Nat) (d:D),ρ[i]?=some (some d)->∃ v,σ[i]?=some (some v)/\At F d v
def VAt.mono (h:VAt F ρ σ)(s:zN F F'):VAt F' ρ σ:=λi d e=>let ⟨v,e1,a⟩:=h i d e;⟨v,e1,a.mono s⟩
def RE (t:TE)(f:zJ):Prop :=
 ∀ (σ:St) (ρ:Ev) (F H:Hp) (d:D) (Q:VK),zN F H->VAt F ρ σ->f ρ=some d->(∀ F' H' v,Gr F H F' H'->At F' d v->Q v H')->t σ H Q
def RT (t:TT)(f:vx):Prop :=
 ∀ (σ:St) (ρ:Ev) (F H:Hp) (b:Bool) (Q:Bool->Hp->Prop),zN F H->VAt F ρ σ->f ρ=some b->(∀ F' H',Gr F H F' H'->Q b H')->t σ H Q
def RA (t:TA)(f:yB):Prop :=
 ∀ (σ:St) (ρ:Ev) (F H:Hp) (b:zg) (Q:zw->Hp->Prop),zN F H->VAt F ρ σ->f ρ=some b->(∀ F' H' a,Gr F H F' H'->AtL F' b a->Q a H')->t σ H Q
def RF (t:TE)(f:yB):Prop :=
 ∀ (σ:St) (ρ:Ev) (F H:Hp) (b:zg) (Q:VK),zN F H->VAt F ρ σ->f ρ=some b->(∀ F' H' p a,Gr F H F' H'->H p=none->F' p=none->H' p=some (.lst a)->AtL F' b a->Q (.ref p) H')->t σ H Q
def ED (X:Cx)(e:Expr)(f:zJ):Prop:=∃ t,PE X e t/\RE t f
def TD (X:Cx)(e:Expr)(f:vx):Prop:=∃ t,PT X e t/\RT t f
def WD (X:Cx)(e:Expr)(f:vx):Prop:=∃ t,PW X e t/\RT t f
def AD (X:Cx)(a:yX)(f:yB):Prop:=∃ t,PA X a t/\RA t f
def FL (X:Cx)(e:Expr)(f:yB):Prop:=∃ t,PE X e t/\RF t f
section
variable {X:Cx}{a b c:Expr}{pos:Pos}
def xO (f:yB):zJ:=fun ρ=>(f ρ).map .lst
def YS {f:yB}(h:FL X a f):ED X a (xO f):=by
 obtain⟨t,i,r⟩:=h
 refine⟨t,i,fun σ ρ F H d Q s m e q=>?_⟩
 obtain⟨k,n,rfl⟩:=u9.mp e
 refine r σ ρ F H k Q s m n λF' H' p v g h0 c o l=>?_
 have j:=g.show h0 c o
 exact q _ _ _ j (At.lst zd (l.mono (λb u e=>by rw[zf (ze e c)];exact e)))
def zc (i:Nat):zJ:=fun ρ=>(ρ[i]?).getD none
def zoZ (i:Nat)(h:PE X a (xz i)):ED X a (zc i):=by
 refine⟨_,h,fun σ ρ F H d Q s f e q=>?_⟩
 have g:ρ[i]?=some (some d):=by
  unfold zc at e
  cases h:ρ[i]? with
  | none=>rw[h]at e;cases e
  | some x=>rw[h]at e;cases x with
   | none=>cases e
   | some y=>cases e;rfl
 obtain⟨v,c,b⟩:=f i d g
 exact⟨v,c,q _ _ _ (.refl s) b⟩
def eC (d:D):zJ:=λ_=>some d
def zt (h:PE X a (tC (.int i))):ED X a (eC (.int i)):=⟨_,h,λ_ _ _ _ _ _ s _ e q=>by cases e;exact q _ _ _ (.refl s) .int⟩
def zoJ (h:PE X a (tC (.bl i))):ED X a (eC (.bl i)):=⟨_,h,λ_ _ _ _ _ _ s _ e q=>by cases e;exact q _ _ _ (.refl s) .bl⟩
def zQ (h:PE X a (tC (.str i))):ED X a (eC (.str i)):=⟨_,h,λ_ _ _ _ _ _ s _ e q=>by cases e;exact q _ _ _ (.refl s) .str⟩
def Vu (h:PE X a (tC .non)):ED X a (eC .non):=⟨_,h,λ_ _ _ _ _ _ s _ e q=>by cases e;exact q _ _ _ (.refl s) .non⟩
def OpD (r:R2)(g:xE):Prop :=
 ∀ (F H:Hp) (x y:V) (d e z:D) (Q:VK),zN F H->At F d x->At F e y->g d e=some z->(∀ F' H' v,Gr F H F' H'->At F' z v->Q v H')->r x y H Q
def zn (g:xE)(f h:zJ):zJ:=fun ρ=>(f ρ).bind λx=>(h ρ).bind λy=>g x y
def zfj {g:xE}{c:TE}{f:zJ}(j:OpD r g)(t:RE c f)(n:RE i h):RE (tOp r c i) (zn g f h):=by
 intro σ ρ F H z Q s d e q
 obtain⟨x,A,e⟩:=u4.mp e
 obtain⟨y,m,e⟩:=u4.mp e
 refine t σ ρ F H x _ s d A λF1 H1 v a k=>?_
 refine n σ ρ F1 H1 y _ a.fh (d.mono a.ff) m λF2 H2 u b o=>?_
 exact j F2 H2 v u x y z Q b.fh (k.mono b.ff) o e λF3 H3 w l p=>q F3 H3 w ((a.trans b).trans l) p
def VE {c:Operator}{g:xE}{f:zJ}(d:OpR X (binaryOp c) r)(e:OpD r g)(j:ED X a f)(i:ED X b h):ED X (.BinOp a c b pos) (zn g f h) :=
 let ⟨_,pa,ra⟩:=j
 let ⟨_,pb,rb⟩:=i
 ⟨_,zjJ d pa pb,zfj e ra rb⟩
def Z6 {c:CmpOp}{g:xE}{f:zJ}(d:OpR X (compareOp c) r)(e:OpD r g)(k:behindInMarks c b=false)(j:ED X a f)(i:ED X b h):ED X (.Compare a [c] [b] pos) (zn g f h) :=
 let ⟨_,pa,ra⟩:=j
 let ⟨_,pb,rb⟩:=i
 ⟨_,zfu d pa pb k,zfj e ra rb⟩
def asB:D->Option Bool
 | .bl b=>some b
 | _=>none
def XO {d:D}{b:Bool}(h:asB d=some b):d=.bl b:=by
 cases d <;> first | (cases h;rfl) | cases h
def tOf (f:zJ):vx:=fun ρ=>(f ρ).bind asB
def zjH {t:TE}{f:zJ}(r:RE t f):RT (zew t) (tOf f):=by
 intro σ ρ F H b Q s d e q
 obtain⟨x,g,e⟩:=u4.mp e
 cases XO e
 exact r σ ρ F H _ _ s d g λF1 H1 v c a=>⟨b,a.bl_inv,q F1 H1 c⟩
def zY {c:CmpOp}{g:xE}{f:zJ}(d:OpR X (compareOp c) r)(e:OpD r g)(k:behindInMarks c b=false)(j:ED X a f)(i:ED X b h):TD X (.Compare a [c] [b] pos) (tOf (zn g f h)) :=
 let ⟨_,pa,ra⟩:=j
 let ⟨_,pb,rb⟩:=i
 ⟨_,zb4 d pa pb k,zjH (zfj e ra rb)⟩
def wI {f:zJ}(d:ED X a f)(c:∀ b,isTrue a X.env b=(do let v<-b;standAt a.pos;holding [v] (truthy v)):=by intro _;rfl):TD X a (tOf f) :=
 let ⟨_,pa,ra⟩:=d
 ⟨_,zko pa c,zjH ra⟩
def Za (f g:vx):vx:=fun ρ=>(f ρ).bind λc=>if c=true then g ρ else some false
def Vh (f g:vx):vx:=fun ρ=>(f ρ).bind λc=>if c=true then some true else g ρ
def yq (f:vx):vx:=fun ρ=>(f ρ).map (!·)
def zfd {f:vx}(b:TD X a f):WD X (.BoolOp .And [a] pos) f:=let ⟨_,pa,ra⟩:=b;⟨_,zm6 pa,ra⟩
def zdy {f:vx}(b:TD X a f):WD X (.BoolOp .Or [a] pos) f:=let ⟨_,pa,ra⟩:=b;⟨_,zkZ pa,ra⟩
def zkl {rest:yX}{f g:vx}(l:TD X a f)(j:WD X (.BoolOp .And (b::rest) pos) g):WD X (.BoolOp .And (a::b::rest) pos) (Za f g):=by
 obtain⟨p,k,i⟩:=l
 obtain⟨r,h,o⟩:=j
 refine⟨_,zow k h,fun σ ρ F H z Q s d e q=>?_⟩
 obtain⟨x,m,e⟩:=u4.mp e
 refine i σ ρ F H x _ s d m λF1 H1 c=>?_
 cases x with
 | true =>
  rw[t9 rfl]at e ⊢
  exact o σ ρ F1 H1 z Q c.fh (d.mono c.ff) e λF2 H2 n=>q F2 H2 (c.trans n)
 | false =>
  rw[j5 u7]at e ⊢
  cases e
  exact q F1 H1 c
def zjK {rest:yX}{f g:vx}(l:TD X a f)(j:WD X (.BoolOp .Or (b::rest) pos) g):WD X (.BoolOp .Or (a::b::rest) pos) (Vh f g):=by
 obtain⟨p,k,i⟩:=l
 obtain⟨r,h,o⟩:=j
 refine⟨_,zoc k h,fun σ ρ F H z Q s d e q=>?_⟩
 obtain⟨x,m,e⟩:=u4.mp e
 refine i σ ρ F H x _ s d m λF1 H1 c=>?_
 cases x with
 | false =>
  rw[j5 u7]at e ⊢
  exact o σ ρ F1 H1 z Q c.fh (d.mono c.ff) e λF2 H2 n=>q F2 H2 (c.trans n)
 | true =>
  rw[t9 rfl]at e ⊢
  cases e
  exact q F1 H1 c
def zpr {f:vx}(h:WD X a f):TD X a f:=let ⟨_,p,r⟩:=h;⟨_,p.pt,r⟩
def wf {f:vx}(d:TD X a f):TD X (.UnaryOp .Not a pos) (yq f):=by
 obtain⟨j,c,b⟩:=d
 refine⟨_,zkU c,fun σ ρ F H z Q s h e q=>?_⟩
 obtain⟨x,i,rfl⟩:=u9.mp e
 exact b σ ρ F H x _ s h i λF1 H1 g=>q F1 H1 g
def ZK (f g:zJ):zJ:=fun ρ=>((f ρ).bind asB).bind λc=>if c=true then g ρ else some (.bl false)
def eOr (f g:zJ):zJ:=fun ρ=>((f ρ).bind asB).bind λc=>if c=true then some (.bl true)else g ρ
def zdQ (f:zJ):zJ:=fun ρ=>((f ρ).bind asB).map λc=>.bl (!c)
def zk2 {op}{f:zJ}(ha:ED X a f):ED X (.BoolOp op [a] pos) f:=let ⟨_,pa,ra⟩:=ha;⟨_,zpd pa,ra⟩
def zkt {rest:yX}{f g:zJ}(n:ED X a f)(l:ED X (.BoolOp .And (b::rest) pos) g):ED X (.BoolOp .And (a::b::rest) pos) (ZK f g):=by
 obtain⟨u,m,k⟩:=n
 obtain⟨A,i,r⟩:=l
 refine⟨_,zo8 m i,fun σ ρ F H z Q s h e q=>?_⟩
 obtain⟨x,d,e⟩:=u4.mp e
 obtain⟨y,d,o⟩:=u4.mp d
 cases XO o
 refine k σ ρ F H _ _ s h d λF1 H1 v c j=>⟨x,j.bl_inv,?_⟩
 cases x with
 | true =>
  rw[t9 rfl]at e ⊢
  exact r σ ρ F1 H1 z Q c.fh (h.mono c.ff) e λF2 H2 w p t=>q F2 H2 w (c.trans p) t
 | false =>
  rw[j5 u7]at e ⊢
  cases e
  exact q F1 H1 _ c .bl
def zoa {f:zJ}(h:ED X a f):ED X (.UnaryOp .Not a pos) (zdQ f):=by
 obtain⟨l,g,d⟩:=h
 refine⟨_,znO g,fun σ ρ F H z Q s j e q=>?_⟩
 obtain⟨x,b,rfl⟩:=u9.mp e
 obtain⟨y,b,k⟩:=u4.mp b
 cases XO k
 exact d σ ρ F H _ _ s j b λF1 H1 v i c=>⟨x,c.bl_inv,q F1 H1 _ i .bl⟩
def eIf (t:vx)(f g:zJ):zJ:=fun ρ=>(t ρ).bind λc=>if c=true then f ρ else g ρ
def zqn {t:vx}{f g:zJ}(y:TD X c t)(r:ED X a f)(n:ED X b g):ED X (.IfExp c a b pos) (eIf t f g):=by
 obtain⟨C,o,k⟩:=y
 obtain⟨A,p,m⟩:=r
 obtain⟨B,l,v⟩:=n
 refine⟨_,ziS o p l,fun σ ρ F H z Q s h e q=>?_⟩
 obtain⟨x,u,e⟩:=u4.mp e
 refine k σ ρ F H x _ s h u λF1 H1 d=>?_
 cases x with
 | true =>
  rw[t9 rfl]at e ⊢
  exact m σ ρ F1 H1 z Q d.fh (h.mono d.ff) e λF2 H2 w i j=>q F2 H2 w (d.trans i) j
 | false =>
  rw[j5 u7]at e ⊢
  exact v σ ρ F1 H1 z Q d.fh (h.mono d.ff) e λF2 H2 w i j=>q F2 H2 w (d.trans i) j
def eUn (g:D->Option D)(f:zJ):zJ:=fun ρ=>(f ρ).bind g
def zaw:D->Option D
 | .int i=>some (.int (-i))
 | _=>none
def zbx {f:zJ}(g:ED X a f):ED X (.UnaryOp .USub a pos) (eUn zaw f):=by
 obtain⟨k,d,c⟩:=g
 refine⟨_,znI zky d,fun σ ρ F H z Q s i e q=>?_⟩
 obtain⟨x,j,e⟩:=u4.mp e
 cases x <;> try cases e
 exact c σ ρ F H _ _ s i j λF1 H1 v h b=>⟨_,b.int_inv,q F1 H1 _ h .int⟩
def zo:yB:=λ_=>some []
def za (f:zJ)(g:yB):yB:=fun ρ=>(f ρ).bind λd=>(g ρ).map (d::·)
def zh:AD X [] zo:=⟨_,zU,λ_ _ _ _ _ _ s _ e q=>by cases e;exact q _ _ _ (.refl s) .nil⟩
def zb {a:yX}{f:zJ}{g:yB}(m:ED X e f)(n:AD X a g)(h:starEach (e::a) X.env=(false,eval e X.env)::starEach a X.env:=by rfl):AD X (e::a) (za f g):=by
 obtain⟨y,l,k⟩:=m
 obtain⟨A,i,r⟩:=n
 refine⟨_,zl l i h,fun σ ρ F H z Q s c e q=>?_⟩
 obtain⟨x,o,e⟩:=u4.mp e
 obtain⟨u,p,rfl⟩:=u9.mp e
 refine k σ ρ F H x _ s c o λF1 H1 v b j=>?_
 exact r σ ρ F1 H1 u _ b.fh (c.mono b.ff) p λF2 H2 w d t=>q F2 H2 _ (b.trans d) (.cons (j.mono d.ff) t)
def lim (n:Nat):Bool:=decide (n<=sizeLine)
def vl (g:yB):zJ:=fun ρ=>(g ρ).bind λa=>if lim a.length=true then some (.tup a)else none
def yy (g:yB):yB:=fun ρ=>(g ρ).bind λa=>if lim a.length=true then some a else none
def ve {d:yX}{x1}{g:yB}(h:AD X d g):ED X (.Tuple d x1 pos) (vl g):=by
 obtain⟨r,j,i⟩:=h
 refine⟨_,zdL j,fun σ ρ F H z Q s m e q=>?_⟩
 obtain⟨o,n,e⟩:=u4.mp e
 split at e <;> cases e
 rename_i f
 refine i σ ρ F H o _ s m n λF1 H1 l b a=>⟨by rw[a.length];exact k8 f,λp k=>?_⟩
 have c:=Gr.alloc b.fh k (.tup l)
 exact q _ _ _ (b.trans c) (.tup zd (a.mono c.ff))
def wH {f:yX}{g:yB}(h:AD X f g):FL X (.List f pos) (yy g):=by
 obtain⟨t,l,k⟩:=h
 refine⟨_,vz l,fun σ ρ F H z Q s n e q=>?_⟩
 obtain⟨v,r,e⟩:=u4.mp e
 split at e <;> cases e
 rename_i i
 refine k σ ρ F H _ _ s n r λF1 H1 m b c=>⟨by rw[c.length];exact k8 i,λp a=>?_⟩
 have j:=Gr.hide b.fh a (.lst m)
 have h0:H p=none:=by
  cases e:H p with
  | none=>rfl
  | some o =>
   cases d:F p with
   | none=>rw[(b.kp p o d e).2]at a;cases a
   | some u=>rw[b.fh _ _ (b.ff _ _ d)]at a;cases a
 exact q _ _ _ _ (b.trans j) h0 (b.fh.free a) zd c
end
end
end Dl
namespace Dl
open PySem L2
variable [KK]
structure Pst where
 z:Option (Addr × Addr × Addr)
 l:zg
 deriving Inhabited
inductive Sl where
 | no | v (d:D) | o (ds:zg) | m (t:Bool) (ks:List (List Key)) (vs:zg) | k (w h:D) (ps:Pst)
 deriving Inhabited
abbrev SE:=List Sl
abbrev vW:=D->SE->Option SE
abbrev yS:=SE->Option Nat
abbrev W6:=SE->Prop
def Sl.f:Sl->Option D
 | .v d=>some d
 | _=>none
def Sl.g:Sl->Option D
 | .v d=>some d
 | .o ds=>some (.lst ds)
 | .m t a b=>some (.dct false t a b)
 | .k w h ps=>some (.obj w h ps.l)
 | .no=>none
def Sl.isO:Sl->Bool
 | .o _=>true
 | .m _ _ _=>true
 | .k _ _ _=>true
 | _=>false
def Sl.isK:Sl->Bool
 | .k _ _ _=>true
 | _=>false
def visF (ρ:SE):Ev:=ρ.map Sl.f
def visG (ρ:SE):Ev:=ρ.map Sl.g
def zdl (F:Hp)(o:HO):Sl->Prop
 | .o b=>∃ a,o=.lst a/\AtL F b a
 | .m t f b=>∃ a,zcz o t f a/\AtL F b a
 | .k w h _=>∃ e c d q,o=.ins KK.dk e (ZH c d q)/\At F w c/\At F h d
 | _=>False
def zdl.mono (h:zdl F o s)(k:zN F F'):zdl F' o s:=by
 cases s with
 | no=>exact h
 | v d=>exact h
 | o ds=>obtain⟨c,e,a⟩:=h;exact⟨c,e,a.mono k⟩
 | m t j ds=>obtain⟨c,e,a⟩:=h;exact⟨c,e,a.mono k⟩
 | k w d ps=>obtain⟨f,g,i,q,e,a,b⟩:=h;exact⟨f,g,i,q,e,a.mono k,b.mono k⟩
def zdl.isO {s:Sl}(h:zdl F o s):s.isO=true:=by
 cases s with
 | no=>exact h.elim
 | v d=>exact h.elim
 | o a=>rfl
 | m t b a=>rfl
 | k w d c=>rfl
def zdl.ntup (h:zdl F o s)(c:zw):o≠.tup c:=by
 cases s with
 | no=>exact h.elim
 | v d=>exact h.elim
 | o f=>obtain⟨b,rfl,_⟩:=h;intro e;cases e
 | m t g f =>
  obtain⟨b,e,_⟩:=h
  unfold zcz at e
  split at e
  .obtain⟨a,rfl,_⟩:=e;intro e;cases e
  .obtain⟨a,rfl,_⟩:=e;intro e;cases e
 | k w d i=>obtain⟨j,l,n,q,rfl,_⟩:=h;intro e;cases e
def zdl.at {G:Hp}{s:Sl}{d:D}{p:Addr}(h:zdl F o s)(e:s.g=some d)(b:G p=some o)(k:zN F G)(f:s.isK=false):At G d (.ref p):=by
 cases s with
 | no=>exact h.elim
 | v d=>exact h.elim
 | o g =>
  cases e
  obtain⟨c,rfl,a⟩:=h
  exact .lst b (a.mono k)
 | m t i g =>
  cases e
  obtain⟨c,e,a⟩:=h
  unfold At
  exact⟨p,c,rfl,⟨o,e,b⟩,a.mono k⟩
 | k w d ps=>cases f
def DkF (Hb F H:Hp)(ρ:SE)(σ:St):Prop:=∀ (i:Nat) (w h:D) (b:Pst),ρ[i]?=some (Sl.k w h b)->∃ (p c q:Addr) (e f:V) (d:zw),σ[i]?=some (some (.ref p))/\H p=some (.ins KK.dk c (ZH e f q))/\Hb q=none/\F q=none/\H q=some (.lst d)/\AtL F b.l d/\(∀ (j:Nat) (s:Sl),ρ[j]?=some s->s.isO=true->σ[j]?≠some (some (.ref q)))/\(∀ (j:Nat) (s:Sl),ρ[j]?=some s->s.isK=true->j=i)/\∀ a,b.z=some a->a=(p,c,q)
def Sl.isK_eq {s:Sl}(h:s.isK=true):∃ w d a,s=.k w d a:=by
 cases s with
 | k w d a=>exact⟨w,d,a,rfl⟩
 | _=>cases h
def DkF.step {Hb F H Hb' F' H':Hp}{g:SE}{k:St}(r:DkF Hb F H ρ σ)(m:∀ (i:Nat) (w h:D) (a:Pst),g[i]?=some (.k w h a)->ρ[i]?=some (.k w h a)/\k[i]?=σ[i]?)(v:zN F F') (z:∀ (i:Nat) (w h:D) (a:Pst) (p f q:Addr) (c d:V) (b:zw),ρ[i]?=some (.k w h a)->σ[i]?=some (some (.ref p))->H p=some (.ins KK.dk f (ZH c d q))->Hb q=none->F q=none->H q=some (.lst b)->(∀ (j:Nat) (s:Sl),ρ[j]?=some s->s.isO=true->σ[j]?≠some (some (.ref q))) ->
 H' p=some (.ins KK.dk f (ZH c d q))/\Hb' q=none/\F' q=none/\H' q=some (.lst b)/\∀ (j:Nat) (s:Sl),g[j]?=some s->s.isO=true->k[j]?≠some (some (.ref q))):DkF Hb' F' H' g k:=λi w h a e=>by
 obtain⟨o,E⟩:=m i w h a e
 obtain⟨p,f,q,c,d,b,n,G,I,O,P,A,N,y,M⟩:=r i w h a o
 obtain⟨x,J,B,Q,u⟩:=z i w h a p f q c d b o n G I O P N
 refine⟨p,f,q,c,d,b,by rw[E];exact n,x,J,B,Q,A.mono v,u,λj s C t=>?_,M⟩
 obtain⟨K,L,l,rfl⟩:=Sl.isK_eq t
 exact y j _ (m j K L l C).1 rfl
def zoB {d:V}(h:ZH d e q=ZH a b c):q=c:=by
 unfold ZH at h
 simp at h
 exact h.2.2
def zpy {d:Addr}{f g:V}(h:(some (HO.ins C e (ZH f g q)):Option HO)=some (.ins C b (ZH a c d))):q=d:=zoB (HO.ins.inj (g4 h)).2.2
structure Rl (Fb Hb F H:Hp) (ρ:SE) (σ:St):Prop where
 gr:Gr Fb Hb F H
 vals:∀ (i:Nat) (d:D),ρ[i]?=some (.v d)->∃ v,σ[i]?=some (some v)/\At F d v
 ows:∀ (i:Nat) (s:Sl),ρ[i]?=some s->s.isO=true->∃ p o,σ[i]?=some (some (.ref p))/\Hb p=none/\F p=none/\H p=some o/\zdl F o s
 dis:∀ (i j:Nat) (p:Addr) (s t:Sl),ρ[i]?=some s->ρ[j]?=some t->s.isO=true->t.isO=true->σ[i]?=some (some (.ref p))->σ[j]?=some (some (.ref p))->i=j
 len:ρ.length=σ.length
 dk:DkF Hb F H ρ σ
section
variable {Fb Hb F H F' H':Hp}{ρ ρ':SE}{σ σ':St}
def Rl.owns (r:Rl Fb Hb F H ρ σ)(i:Nat)(c:zg)(e:ρ[i]?=some (.o c)):∃ p b,σ[i]?=some (some (.ref p))/\Hb p=none/\F p=none/\H p=some (.lst b)/\AtL F c b:=by
 obtain⟨p,o,g,d,h,f,b,rfl,a⟩:=r.ows i _ e rfl
 exact⟨p,b,g,d,h,f,a⟩
def Rl.grow (r:Rl Fb Hb F H ρ σ)(g:Gr F H F' H'):Rl Fb Hb F' H' ρ σ:=by
 refine⟨r.gr.trans g,λi d e=>?_,λi s e h=>?_,r.dis,r.len,r.dk.step (λ_ _ _ _ e=>⟨e,rfl⟩) g.ff λi w h I p J q C G B b f k c x A n=>?_⟩
 .obtain⟨v,b,a⟩:=r.vals i d e
  exact⟨v,b,a.mono g.ff⟩
 .obtain⟨p,o,b,f,k,c,a⟩:=r.ows i s e h
  obtain⟨m,j⟩:=g.kl a.ntup k c
  exact⟨p,o,b,f,m,j,a.mono g.ff⟩
 .obtain⟨D,o,l,E,y,K,a⟩:=r.ows i _ b rfl
  rw[f]at l
  cases l
  obtain⟨m,j⟩:=g.kl (λ_ z=>by cases z) y k
  obtain⟨t,u⟩:=g.kl (λ_ z=>by cases z) x A
  exact⟨j,c,t,u,n⟩
def Rl.visF (r:Rl Fb Hb F H ρ σ):VAt F (visF ρ) σ:=λi d e=>by
 unfold Dl.visF at e
 rw[r8]at e
 cases h:ρ[i]? with
 | none=>rw[h]at e;cases e
 | some x =>
  rw[h]at e
  cases x with
  | no=>cases e
  | v f =>
   cases e
   exact r.vals i d h
  | o a=>cases e
  | m t b a=>cases e
  | k w d c=>cases e
def Own (ρ:SE)(σ:St)(H:Hp)(p:Addr):Prop:=∃ (i:Nat) (s:Sl) (r:Addr),ρ[i]?=some s/\s.isO=true/\σ[i]?=some (some (.ref r))/\(p=r\/(s.isK=true/\∃ a b c,H r=some (.ins KK.dk a (ZH b c p))))
open Classical in
noncomputable def gOf (ρ:SE)(σ:St)(F H:Hp):Hp:=λp=>if Own ρ σ H p then H p else F p
open Classical in
noncomputable def fOf (ρ:SE)(σ:St)(H G:Hp):Hp:=λp=>if Own ρ σ H p then none else G p
def Rl.own (r:Rl Fb Hb F H ρ σ){p:Addr}(h:Own ρ σ H p):Hb p=none/\F p=none/\∃ o,H p=some o/\∀ e,o≠.tup e:=by
 obtain⟨i,s,E,j,t,k,b⟩:=h
 rcases b with b | ⟨m,L,J,K,b⟩
 .subst b
  obtain⟨q,o,c,u,x,l,a⟩:=r.ows i s j t
  rw[k]at c
  cases c
  exact⟨u,x,o,l,a.ntup⟩
 .obtain⟨w,d,y,rfl⟩:=Sl.isK_eq m
  obtain⟨I,A,q,n,B,e,g,f,v,C,D,G,_⟩:=r.dk i w d y j
  rw[k]at g
  cases g
  rw[b]at f
  cases zpy f
  exact⟨v,C,_,D,λ_ z=>by cases z⟩
def zqR (ρ:SE)(σ:St)(H:Hp)(q:Addr):Prop:=(∀ (j:Nat) (s:Sl),ρ[j]?=some s->s.isO=true->σ[j]?≠some (some (.ref q)))/\∀ (j:Nat) (w h:D) (c:Pst) (p a:Addr) (b d:V),ρ[j]?=some (.k w h c)->σ[j]?=some (some (.ref p))->H p≠some (.ins KK.dk a (ZH b d q))
def Rl.notown (r:Rl Fb Hb F H ρ σ)(g:Gr F H F' H')(h:H q=none):zqR ρ σ H' q:=by
 refine⟨λj s b c e=>?_,λj w d n p U K P b c e=>?_⟩
 .obtain⟨p,o,a,_,_,f,_⟩:=r.ows j s b c
  rw[e]at a
  cases a
  rw[h]at f
  cases f
 .obtain⟨J,C,M,A,D,L,a,N,O,f,V,G,_⟩:=(r.grow g).dk j w d n b
  obtain⟨Q,x,E,v,u,t,k,B,I,W,i,S,_⟩:=r.dk j w d n b
  rw[c]at a k
  cases a
  cases k
  obtain⟨T,o,l,_,y,R,_⟩:=r.ows j _ b rfl
  rw[c]at l
  cases l
  have m:=(g.kl (λ_ z=>by cases z) y B).2
  rw[e]at m
  cases zpy m
  rw[h]at i
  cases i
def Rl.notbase (r:Rl Fb Hb F H ρ σ)(h:H q=none):Hb q=none:=by
 cases z:Hb q with
 | none=>rfl
 | some o =>
  cases a:Fb q with
  | none=>rw[(r.gr.kp q o a z).2]at h;cases h
  | some u=>rw[r.gr.fh _ _ (r.gr.ff _ _ a)]at h;cases h
def Rl.fg (r:Rl Fb Hb F H ρ σ):zN F (gOf ρ σ F H):=λp o e=>by
 unfold gOf
 split
 .exact r.gr.fh p o e
 .exact e
def Rl.gh (r:Rl Fb Hb F H ρ σ):zN (gOf ρ σ F H) H:=λp o e=>by
 unfold gOf at e
 split at e
 .exact e
 .exact r.gr.fh p o e
def Rl.visG (r:Rl Fb Hb F H ρ σ):VAt (gOf ρ σ F H) (visG ρ) σ:=λi d e=>by
 unfold Dl.visG at e
 rw[r8]at e
 cases h:ρ[i]? with
 | none=>rw[h]at e;cases e
 | some x =>
  rw[h]at e
  have e:x.g=some d:=g4 e
  have own:x.isO=true->∃ v,σ[i]?=some (some v)/\At (gOf ρ σ F H) d v:=λs=>by
   obtain⟨p,o,b,P,S,c,a⟩:=r.ows i x h s
   cases f:x.isK with
   | false =>
    refine⟨_,b,a.at e ?_ r.fg f⟩
    unfold gOf
    rw[t9 ⟨i,x,p,h,s,b,.inl rfl⟩]
    exact c
   | true =>
    obtain⟨w,y,u,rfl⟩:=Sl.isK_eq f
    cases e
    obtain⟨Q,z,q,g,l,G,n,j,R,T,L,E,_⟩:=r.dk i w y u h
    rw[b]at n
    cases n
    obtain⟨D,C,A,O,I,B,J⟩:=a
    rw[c]at j
    cases j
    cases I
    refine⟨_,b,?_⟩
    unfold At
    refine⟨p,z,q,g,l,G,rfl,?_,?_,B.mono r.fg,J.mono r.fg,E.mono r.fg⟩
    .unfold gOf
     rw[t9 ⟨i,_,p,h,rfl,b,.inl rfl⟩]
     exact c
    .unfold gOf
     rw[t9 ⟨i,_,p,h,rfl,b,.inr ⟨rfl,z,g,l,c⟩⟩]
     exact L
  cases x with
  | no=>cases e
  | v N =>
   cases e
   obtain⟨v,b,a⟩:=r.vals i d h
   exact⟨v,b,a.mono r.fg⟩
  | o K=>exact own rfl
  | m t M K=>exact own rfl
  | k w d u=>exact own rfl
def Rl.back {G':Hp}(r:Rl Fb Hb F H ρ σ)(g:Gr (gOf ρ σ F H) H G' H'):Gr F H (fOf ρ σ H G') H'/\∀ q a,G' q=some (.tup a)->fOf ρ σ H G' q=some (.tup a):=by
 refine⟨⟨λp o e=>?_,λp o e=>?_,λp o c b=>?_⟩,λq a e=>?_⟩
 .unfold fOf
  rw[j5 (λh=>by rw[(r.own h).2.1]at e;cases e)]
  exact g.ff p o (r.fg p o e)
 .unfold fOf at e
  split at e
  .cases e
  .exact g.fh p o e
 .by_cases h:Own ρ σ H p
  .refine⟨.inl (by unfold fOf;rw[t9 h]),g.fh p o (g.ff p o ?_)⟩
   unfold gOf
   rw[t9 h]
   exact b
  .obtain⟨x,y⟩:=g.kp p o (by unfold gOf;rw[j5 h];exact c) b
   refine⟨?_,y⟩
   unfold Hid fOf
   rw[j5 h]
   exact x
 .unfold fOf
  rw[j5 (λh=>?_)]
  .exact e
  .obtain⟨_,_,o,b,n⟩:=r.own h
   have:G' q=some o:=g.ff q _ (by unfold gOf;rw[t9 h];exact b)
   rw[this]at e
   cases e
   exact n a rfl
def Rl.out (r:Rl Fb Hb F H ρ σ)(g:Gr (gOf ρ σ F H) H G' H'):Gr Fb Hb G' H':=by
 refine⟨λp o e=>g.ff p o (r.fg p o (r.gr.ff p o e)),g.fh,λp o i b=>?_⟩
 obtain⟨a,f⟩:=r.gr.kp p o i b
 have c:gOf ρ σ F H p=F p:=by
  unfold gOf
  rw[j5 (λh=>by rw[(r.own h).1]at b;cases b)]
 rcases a with a | ⟨a,d⟩
 .exact g.kp p o (by rw[c];exact a) f
 .have:=g.ff p o (by rw[c];exact d)
  exact⟨.inr ⟨a,this⟩,g.fh _ _ this⟩
def Rl.set (r:Rl Fb Hb F H ρ σ){d:D}(a:At F d v):Rl Fb Hb F H (ρ.set i (.v d)) (σ.set i (some v)):=by
 have g:∀ {j:Nat} {s:Sl},(ρ.set i (.v d))[j]?=some s->s.isO=true->i≠j:=λ{j s} h c e=>by
  subst e
  rw[u0a]at h
  simp only[u2p]at h
  split at h <;> cases h
  cases c
 have I:∀ {j:Nat} {w h:D} {l:Pst},(ρ.set i (.v d))[j]?=some (.k w h l)->i≠j:=λh=>g h rfl
 refine⟨r.gr,λj e h=>?_,λj s h c=>?_,λj k p s t f m u o n x=>?_,by simp[r.len],r.dk.step (λj w h l e=>?_) (zN.refl _) λj w h l p P q M N K O L J B C G y=>⟨J,B,C,G,λk s f c=>?_⟩⟩
 .by_cases b:i=j
  .subst b
   rw[u0a]at h
   simp only[u2p]at h
   split at h
   .rename_i z
    cases h
    refine⟨v,?_,a⟩
    rw[u0a]
    simp[<-r.len,z]
   .cases h
  .rw[u6 b]at h ⊢
   exact r.vals j e h
 .have b:=g h c
  rw[u6 b]at h ⊢
  exact r.ows j s h c
 .have A:=g f u
  have E:=g m o
  rw[u6 A]at f n
  rw[u6 E]at m x
  exact r.dis j k p s t f m u o n x
 .have b:=I e
  rw[u6 b]at e ⊢
  exact⟨e,rfl⟩
 .have b:=g f c
  rw[u6 b]at f ⊢
  exact y k s f c
def Rl.setW (r:Rl Fb Hb F H ρ σ){w:Sl}{p:Addr}(h0:Hb p=none)(R:F p=none)(U:H p=some o)(a:zdl F o w)(B:zqR ρ σ H p)(I:w.isK=false:=by rfl):Rl Fb Hb F H (ρ.set i w) (σ.set i (some (.ref p))):=by
 have b:∀ {s:Sl},(ρ.set i w)[i]?=some s->i<ρ.length/\s=w:=λ{s} h=>by
  rw[u0a]at h
  simp only[u2p]at h
  split at h
  .rename_i f
   cases h
   exact⟨f,rfl⟩
  .cases h
 have c:i<ρ.length->(σ.set i (some (V.ref p)))[i]?=some (some (.ref p)):=λf=>by
  rw[u0a]
  simp[<-r.len,f]
 have Q:∀ {j:Nat} {x h:D} {u:Pst},(ρ.set i w)[j]?=some (.k x h u)->i≠j:=λ{j x h u} e z=>by
  subst z
  have A:=(b e).2
  rw[<-A]at I
  cases I
 refine⟨r.gr,λj e h=>?_,λj s h y=>?_,λj k q s t g v E C m n=>?_,by simp[r.len],r.dk.step (λj x h u e=>?_) (zN.refl _) λj x h u L T q M O W S A G K N P J=>⟨G,K,N,P,λk s g y=>?_⟩⟩
 .by_cases d:i=j
  .subst d
   have e:=(b h).2
   have:=a.isO
   rw[<-e]at this
   cases this
  .rw[u6 d]at h ⊢
   exact r.vals j e h
 .by_cases d:i=j
  .subst d
   obtain⟨f,e⟩:=b h
   subst e
   exact⟨p,o,c f,h0,R,U,a⟩
  .rw[u6 d]at h ⊢
   exact r.ows j s h y
 .by_cases d:i=j
  .subst d
   by_cases l:i=k
   .exact l
   .obtain⟨f,_⟩:=b g
    rw[c f]at m
    cases m
    rw[u6 l]at v n
    exact absurd n (B.1 k t v C)
  .by_cases l:i=k
   .subst l
    obtain⟨f,_⟩:=b v
    rw[c f]at n
    cases n
    rw[u6 d]at g m
    exact absurd m (B.1 j s g E)
   .rw[u6 d]at g m
    rw[u6 l]at v n
    exact r.dis j k q s t g v E C m n
 .have d:=Q e
  rw[u6 d]at e ⊢
  exact⟨e,rfl⟩
 .by_cases l:i=k
  .subst l
   rw[c (b g).1]
   intro z
   cases z
   exact B.2 j x h u L T M O S A G
  .rw[u6 l]at g ⊢
   exact J k s g y
def Rl.setO (r:Rl Fb Hb F H ρ σ){p:Addr}(h0:Hb p=none)(f:F p=none)(d:H p=some (.lst b))(a:AtL F c b)(e:zqR ρ σ H p):Rl Fb Hb F H (ρ.set i (.o c)) (σ.set i (some (.ref p))):=r.setW h0 f d ⟨b,rfl,a⟩ e
def Rl.mutW (r:Rl Fb Hb F H ρ σ){i:Nat}{w v:Sl}{p:Addr}(e:ρ[i]?=some w)(hw:w.isO=true)(A:σ[i]?=some (some (.ref p)))(a:zdl F B v)(wk:w.isK=false:=by rfl)(E:v.isK=false:=by rfl):Rl Fb Hb F (upd H p B) (ρ.set i v) σ:=by
 obtain⟨q,o,O,h0,P,hH,_⟩:=r.ows i w e hw
 rw[A]at O
 cases O
 have J:i<ρ.length:=(j3.mp e).1
 have n:∀ {j:Nat} {s:Sl} {q:Addr},i≠j->ρ[j]?=some s->s.isO=true->σ[j]?=some (some (.ref q))->q≠p:=λ{j s q} hne m f K z=>by
  subst z
  exact hne (r.dis i j q w s e m hw f A K)
 refine⟨⟨r.gr.ff,λb o z=>?_,λb o X Q=>?_⟩,λj d h=>?_,λj s h f=>?_,λj k q s t m K Y V T h4=>?_,by simp[r.len],r.dk.step (λj x h Z y=>?_) (zN.refl _) λj x h Z p' dx q vw vh xs g u C L M U I=>⟨?_,L,M,?_,λk s m f=>?_⟩⟩
 .rw[zf (ze z P)]
  exact r.gr.fh b o z
 .rw[zf (ze Q h0)]
  exact r.gr.kp b o X Q
 .by_cases c:i=j
  .subst c
   rw[j8 J]at h
   cases h
   exact(Bool.noConfusion a.isO)
  .rw[u6 c]at h
   exact r.vals j d h
 .by_cases c:i=j
  .subst c
   rw[j8 J]at h
   cases h
   exact⟨p,B,A,h0,P,zd,a⟩
  .rw[u6 c]at h
   obtain⟨q,z,g,u,C,L,M⟩:=r.ows j s h f
   refine⟨q,z,g,u,C,?_,M⟩
   rw[zf (n c h f g)]
   exact L
 .have l:∀ {j:Nat} {s:Sl},(ρ.set i v)[j]?=some s->s.isO=true->∃ R,ρ[j]?=some R/\R.isO=true:=λ{j s} h f=>by
   by_cases c:i=j
   .subst c;exact⟨w,e,hw⟩
   .rw[u6 c]at h;exact⟨s,h,f⟩
  obtain⟨g,S,D⟩:=l m Y
  obtain⟨u,W,G⟩:=l K V
  exact r.dis j k q g u S W D G T h4
 .by_cases c:i=j
  .subst c
   rw[j8 J]at y
   cases y
   cases E
  .rw[u6 c]at y
   exact⟨y,rfl⟩
 .have c:i≠j:=λz=>by
   subst z
   rw[e]at g
   cases g
   cases wk
  rw[zf (n c g rfl u)]
  exact C
 .rw[zf (λz=>I i w e hw (by rw[z];exact A))]
  exact U
 .by_cases N:i=k
  .subst N
   exact I i w e hw
  .rw[u6 N]at m
   exact I k s m f
def Rl.mutate (r:Rl Fb Hb F H ρ σ){i:Nat}{f:zg}{p:Addr}(e:ρ[i]?=some (.o f))(d:σ[i]?=some (some (.ref p)))(a:AtL F c b):Rl Fb Hb F (upd H p (.lst b)) (ρ.set i (.o c)) σ :=
 r.mutW e rfl d ⟨b,rfl,a⟩
def Sl.fz:Sl->Sl
 | .o c=>.v (.lst c)
 | .m t a b=>.v (.dct false t a b)
 | .k _ _ _=>.no
 | s=>s
def zpJ (ρ:SE)(i:Nat):SE:=ρ.set i ((ρ[i]?).getD .no).fz
def Rl.freeze (r:Rl Fb Hb F H ρ σ)(i:Nat):∃ F',Rl Fb Hb F' H (zpJ ρ i) σ:=by
 unfold zpJ
 cases h:ρ[i]? with
 | none =>
  refine⟨F,?_⟩
  rw[List.set_eq_of_length_le (List.getElem?_eq_none_iff.mp h)]
  exact r
 | some s =>
  have Q:i<ρ.length:=(j3.mp h).1
  have same:s.fz=s->∃ F',Rl Fb Hb F' H (ρ.set i ((some s).getD .no).fz) σ:=λe=>by
   refine⟨F,?_⟩
   show Rl Fb Hb F H (ρ.set i s.fz) σ
   rw[e]
   have:ρ.set i s=ρ:=by
    apply List.ext_getElem?
    intro j
    by_cases g:i=j
    .subst g;rw[j8 Q,h]
    .rw[u6 g]
   rw[this]
   exact r
  have A:∀ d,s.isO=true->s.isK=false->s.g=some d->s.fz=.v d->∃ F',Rl Fb Hb F' H (ρ.set i ((some s).getD .no).fz) σ:=λd U X Z hz=>by
   obtain⟨p,o,W,e2,Y,e4,a⟩:=r.ows i s h U
   have M:zN F (upd F p o):=λb u e=>by rw[zf (ze e Y)];exact e
   show ∃ F',Rl Fb Hb F' H (ρ.set i s.fz) σ
   rw[hz]
   have n:∀ {j:Nat} {t:Sl},(ρ.set i (.v d))[j]?=some t->t.isO=true->i≠j:=λ{j t} h c e=>by
    subst e
    rw[j8 Q]at h
    cases h
    cases c
   refine⟨upd F p o,r.gr.show e2 Y e4,λj e z=>?_,λj t z c=>?_,λj k q t u f C J G S V=>?_,by simp[r.len],r.dk.step (λj x R O B=>?_) M λj x R O p' dx q vw vh xs D E I K L T P=>⟨I,K,?_,T,λk t f c=>?_⟩⟩
   .by_cases g:i=j
    .subst g
     rw[j8 Q]at z
     cases z
     exact⟨_,W,a.at Z zd M X⟩
    .rw[u6 g]at z
     obtain⟨v,D,E⟩:=r.vals j e z
     exact⟨v,D,E.mono M⟩
   .have g:=n z c
    rw[u6 g]at z
    obtain⟨q,y,D,E,I,K,L⟩:=r.ows j t z c
    refine⟨q,y,D,E,?_,K,L.mono M⟩
    rw[zf (λw=>g (r.dis i j p s t h z U c W (by rw[<-w];exact D)))]
    exact I
   .have a1:=n f J
    have a2:=n C G
    rw[u6 a1]at f
    rw[u6 a2]at C
    exact r.dis j k q t u f C J G S V
   .have g:=n B rfl
    rw[u6 g]at B
    exact⟨B,rfl⟩
   .rw[zf (λz=>P i s h U (by rw[z];exact W))]
    exact L
   .have g:=n f c
    rw[u6 g]at f
    exact P k t f c
  cases s with
  | no=>exact same rfl
  | v d=>exact same rfl
  | o ds=>exact A _ rfl rfl rfl rfl
  | m t ks ds=>exact A _ rfl rfl rfl rfl
  | k w d O =>
   refine⟨F,?_⟩
   have n:∀ {j:Nat} {t:Sl},(ρ.set i Sl.no)[j]?=some t->t≠.no->i≠j:=λ{j t} h c e=>by
    subst e
    rw[j8 Q]at h
    cases h
    exact c rfl
   have N:∀ {t:Sl},t.isO=true->t≠.no:=λ{t} h e=>by subst e;cases h
   refine⟨r.gr,λj e z=>?_,λj t z c=>?_,λj l q t u f C J G S V=>?_,by simp[r.len,Sl.fz],r.dk.step (λj x R O B=>?_) (zN.refl _) λj x R O p' dx q vw vh xs D E I K L T P=>⟨I,K,L,T,λl t f c=>?_⟩⟩
   .rw[u6 (n z (λz=>by cases z))]at z
    exact r.vals j e z
   .rw[u6 (n z (N c))]at z
    exact r.ows j t z c
   .rw[u6 (n f (N J))]at f
    rw[u6 (n C (N G))]at C
    exact r.dis j l q t u f C J G S V
   .rw[u6 (n B (λz=>by cases z))]at B
    exact⟨B,rfl⟩
   .rw[u6 (n f (N c))]at f
    exact P l t f c
end
inductive Ctl where
 | nx (ρ:SE) | rt (d:D) | bk (ρ:SE) | ct (ρ:SE) | no
 deriving Inhabited
abbrev zz:=SE->Ctl
def SOk (Fb Hb:Hp)(E:Z7):Ctl->Prop
 | .nx ρ=>∀ F H σ,Rl Fb Hb F H ρ σ->E.nx σ H
 | .bk ρ=>∀ F H σ,Rl Fb Hb F H ρ σ->E.bk σ H
 | .ct ρ=>∀ F H σ,Rl Fb Hb F H ρ σ->E.ct σ H
 | .rt d=>∀ F H v,Gr Fb Hb F H->At F d v->E.rt v H
 | .no=>False
def RS (t:TS)(g:zz):Prop:=∀ (Fb Hb F H:Hp) (ρ:SE) (σ:St) (E:Z7),Rl Fb Hb F H ρ σ->SOk Fb Hb E (g ρ)->t E σ H
def SD (X:Cx)(a:Stmt)(g:zz):Prop:=∃ t,PS X a t/\RS t g
def SDs (X:Cx)(a:wN)(g:zz):Prop:=∃ t,PSs X a t/\RS t g
section
variable {X:Cx}{st:Stmt}{sts:wN}{a b c e:Expr}{pos pos':Pos}
def zE:zz:=.nx
noncomputable def zS (g h:zz):zz:=fun ρ=>match g ρ with
 | .nx a=>h a
 | .rt d=>.rt d
 | .bk a=>.bk a
 | .ct a=>.ct a
 | .no=>.no
def z8:SDs X [] zE:=⟨_,zbV,λ_ _ F H ρ σ E r h=>h F H σ r⟩
def zC {g:zz}(f:SD X st g)(b:SDs X sts h):SDs X (st::sts) (zS g h):=by
 obtain⟨t,p,r⟩:=f
 obtain⟨u,m,j⟩:=b
 refine⟨_,zZ p m,λFb Hb F H ρ σ E c k=>?_⟩
 refine r Fb Hb F H ρ σ { E with nx:=u E } c ?_
 unfold zS at k
 cases e:g ρ with
 | nx i =>
  rw[e]at k
  exact λF' H' l a=>j Fb Hb F' H' i l E a k
 | rt d=>rw[e]at k;exact k
 | bk d=>rw[e]at k;exact k
 | ct d=>rw[e]at k;exact k
 | no=>rw[e]at k;exact k
def zR {g:zz}(a:SD X st g):SDs X [st] g:=let ⟨_,p,r⟩:=a;⟨_,xL p,r⟩
def sFz (i:Nat)(g:zz):zz:=fun ρ=>g (zpJ ρ i)
def zgX {g:zz}(i:Nat)(h:SDs X sts g):SDs X sts (sFz i g):=by
 obtain⟨t,p,r⟩:=h
 refine⟨_,p,λFb Hb F H ρ σ E b k=>?_⟩
 obtain⟨F',a⟩:=b.freeze i
 exact r Fb Hb F' H _ σ E a k
def sNo:zz:=λ_=>.no
def vq:SD X st sNo:=⟨_,zc1,λ_ _ _ _ _ _ _ _ h=>h.elim⟩
noncomputable def yW (f:zJ):zz:=fun ρ=>match f (visG ρ) with
 | some d=>.rt d
 | none=>.no
def wq {f:zJ}(h:ED X e f):SD X (.Return (some e) pos) (yW f):=by
 obtain⟨t,p,r⟩:=h
 refine⟨_,Yz p,λFb Hb F H ρ σ E a k=>?_⟩
 unfold yW at k
 cases h:f (visG ρ) with
 | none=>rw[h]at k;exact k.elim
 | some d =>
  rw[h]at k
  exact r σ _ _ H d _ a.gh a.visG h λF' H' v g b=>k F' H' v (a.out g) b
def Xs:zz:=λ_=>.rt .non
def vEv (m:Bool)(f:zJ)(ρ:SE):Option D:=if m=true then (f (visG ρ)).bind λd=>if noL d=true then some d else none else f (visF ρ)
def RE.at {f:zJ}{t:TE}{d:D}{Q:VK}(r:RE t f)(a:Rl Fb Hb F H ρ σ)(h:vEv m f ρ=some d)(q:∀ F' H' v,Gr F H F' H'->At F' d v->Q v H'):t σ H Q:=by
 unfold vEv at h
 cases m with
 | false =>
  rw[j5 u7]at h
  exact r σ _ _ H d _ a.gr.fh a.visF h q
 | true =>
  rw[t9 rfl]at h
  obtain⟨l,j,b⟩:=u4.mp h
  split at b <;> cases b
  rename_i e
  refine r σ _ _ H d _ a.gh a.visG j λF' H' v g k=>?_
  obtain⟨i,c⟩:=a.back g
  exact q _ H' v i (k.flat c e)
def xN (m:Bool)(i:Nat)(f:zJ):zz:=fun ρ=>match vEv m f ρ with
 | some d=>.nx (ρ.set i (.v d))
 | none=>.no
def wK {i:Nat}{f:zJ}(c:X.N.Nodup)(o:X.N[i]?=some x)(l:Loc X.env.scope x)(q:ED X e f)(j:swapsWith e (some (.Name x pos')) pos.line X.env=pure false:=by rfl)(b:X.fn x=true\/X.env.scope.names.lookup x=some .local:=by first | exact .inl rfl | exact .inr rfl | assumption):SD X (.Assign [.Name x pos'] e pos) (xN m i f):=by
 obtain⟨t,p,r⟩:=q
 refine⟨_,wJ c o l p j b,λFb Hb F H ρ σ E a k=>?_⟩
 unfold xN at k
 cases h:vEv m f ρ with
 | none=>rw[h]at k;exact k.elim
 | some d =>
  rw[h]at k
  exact r.at a h λF' H' v g n=>k F' H' _ ((a.grow g).set n)
noncomputable def vR (f:zJ):zz:=fun ρ=>match f (visG ρ) with
 | some _=>.nx ρ
 | none=>.no
def Wt {f:zJ}(c:ED X e f)(b:swapsWith e none pos.line X.env=pure false:=by rfl):SD X (.Expr e pos) (vR f):=by
 obtain⟨t,p,r⟩:=c
 refine⟨_,vZ p b,λFb Hb F H ρ σ E a k=>?_⟩
 unfold vR at k
 cases h:f (visG ρ) with
 | none=>rw[h]at k;exact k.elim
 | some d =>
  rw[h]at k
  exact r σ _ _ H d _ a.gh a.visG h λF' H' v g i=>k _ H' σ (a.grow (a.back g).1)
def Vg (i:Nat)(f:yB):zz:=fun ρ=>match f (visF ρ) with
 | some a=>.nx (ρ.set i (.o a))
 | none=>.no
def zeZ {i:Nat}{f:yB}(j:X.N.Nodup)(o:X.N[i]?=some x)(b:Loc X.env.scope x)(u:FL X e f)(m:swapsWith e (some (.Name x pos')) pos.line X.env=pure false:=by rfl)(d:X.fn x=true\/X.env.scope.names.lookup x=some .local:=by first | exact .inl rfl | exact .inr rfl | assumption):SD X (.Assign [.Name x pos'] e pos) (Vg i f):=by
 obtain⟨t,p,r⟩:=u
 refine⟨_,wJ j o b p m d,λFb Hb F H ρ σ E a k=>?_⟩
 unfold Vg at k
 cases h:f (visF ρ) with
 | none=>rw[h]at k;exact k.elim
 | some l =>
  rw[h]at k
  refine r σ _ _ H l _ a.gr.fh a.visF h λF' H' q v g h0 n s b=>?_
  have c:=a.grow g
  exact k F' H' _ (c.setO (a.notbase h0) n s b (a.notown g h0))
noncomputable def sIf (t:vx)(g h:zz):zz:=fun ρ=>match t (visG ρ) with
 | some true=>g ρ
 | some false=>h ρ
 | none=>.no
def xR {f e:wN}{t:vx}{g:zz}(r:TD X c t)(l:SDs X f g)(p:SDs X e h):SD X (.If c f e pos) (sIf t g h):=by
 obtain⟨u,j,i⟩:=r
 obtain⟨s,q,o⟩:=l
 obtain⟨v,n,m⟩:=p
 refine⟨_,ziG j q n,λFb Hb F H ρ σ E b k=>?_⟩
 unfold sIf at k
 cases h:t (visG ρ) with
 | none=>rw[h]at k;exact k.elim
 | some d =>
  rw[h]at k
  refine i σ _ _ H d _ b.gh b.visG h λF' H' g=>?_
  have a:=b.grow (b.back g).1
  cases d with
  | true=>rw[t9 rfl];exact o Fb Hb _ H' ρ σ E a k
  | false=>rw[j5 u7];exact m Fb Hb _ H' ρ σ E a k
def RG (t:TG)(b:vW):Prop:=∀ (Fb Hb F H:Hp) (ρ c:SE) (σ:St) (d:D) (v:V) (Q:vV),Rl Fb Hb F H ρ σ->At F d v->b d ρ=some c->(∀ a,Rl Fb Hb F H c a->Q a H)->t v σ H Q
def RGs (t:TGs)(b:zg->SE->Option SE):Prop:=∀ (Fb Hb F H:Hp) (ρ c:SE) (σ:St) (e:zg) (d:zw) (Q:vV),Rl Fb Hb F H ρ σ->AtL F e d->b e ρ=some c->(∀ a,Rl Fb Hb F H c a->Q a H)->t d σ H Q
def BD (X:Cx)(a:Expr)(b:vW):Prop:=∃ t,PG X a t/\RG t b
def BDs (X:Cx)(a:yX)(b:zg->SE->Option SE):Prop:=∃ t,PGs X a t/\RGs t b
def wZ (i:Nat):vW:=λd ρ=>some (ρ.set i (.v d))
def ZV (h:PG X a (xG i)):BD X a (wZ i):=by
 refine⟨_,h,λFb Hb F H ρ f σ d v Q b c e q=>?_⟩
 cases e
 exact q _ (b.set c)
def zbA:zg->SE->Option SE
 | [],ρ=>some ρ
 | _,_=>none
def vH (b:vW)(c:zg->SE->Option SE):zg->SE->Option SE
 | d::ds,ρ=>(b d ρ).bind (c ds)
 | [],_=>none
def zb3:BDs X [] zbA:=by
 refine⟨_,zmO,λFb Hb F H ρ d σ c f Q a b e q=>?_⟩
 cases c with
 | nil=>cases e;exact⟨b.nil_inv,q _ a⟩
 | cons _ _=>cases e
def ZD {a:yX}{b:vW}{c:zg->SE->Option SE}(n:BD X e b)(B:BDs X a c)
 (y:(assignEach (e::a) X.env).map (·.2)=assign e X.env::(assignEach a X.env).map (·.2):=by rfl):BDs X (e::a) (vH b c):=by
 obtain⟨t,p,r⟩:=n
 obtain⟨u,w,v⟩:=B
 refine⟨_,ziI p w y,λFb Hb F H ρ o σ f C Q l A e q=>?_⟩
 cases f with
 | nil=>cases e
 | cons d f =>
  obtain⟨x,h,rfl,j,s⟩:=A.cons_inv
  obtain⟨i,z,k⟩:=u4.mp e
  exact⟨x,h,rfl,r Fb Hb F H ρ i σ d x _ l j z λm g=>v Fb Hb F H i o m f h Q g s k q⟩
def zaM (n:Nat)(c:zg->SE->Option SE):vW
 | .tup ds,ρ=>if ds.length=n then c ds ρ else none
 | _,_=>none
def zfK {b:yX}{k:Nat}{n:Nat}{c:zg->SE->Option SE}(x:X.calm=true)(h:BDs X b c)
 (m:(assignEach b X.env).length=n:=by rfl) (f:(assignEach b X.env).findIdx? (·.1)=none:=by rfl):BD X (.Tuple b k pos) (zaM n c):=by
 obtain⟨t,p,r⟩:=h
 refine⟨_,zoi x p m f,λFb Hb F H ρ o σ d v Q i w e q=>?_⟩
 cases d with
 | tup s =>
  unfold zaM at e
  dsimp only at e
  split at e
  .rename_i l
   obtain⟨a,g,rfl,u,j⟩:=w.tup_inv
   exact⟨a,g,rfl,SqT.of (i.gr.fh _ _ u),by rw[j.length];exact l,r Fb Hb F H ρ o σ s g Q i j e q⟩
  .cases e
 | _=>cases e
def zeL (m:Bool)(f:zJ)(b:vW):zz:=fun ρ=>match (vEv m f ρ).bind λd=>b d ρ with
 | some a=>.nx a
 | none=>.no
def Vk (m:Bool)(i:Nat)(a c:zJ):zz:=fun ρ=>match (vEv m c ρ).bind λd=>(a (visG ρ)).bind λk=>match ρ[i]?,k with
 | some (.o ds),.int k=>(ixN ds.length k).map λj=>ρ.set i (.o (ds.set j d))
 | _,_=>none with
 | some b=>.nx b
 | none=>.no
def zpo {f:Expr}{w:zJ}(Y:ED X e A)(M:PE X a (xz i))(N:ED X f w)(l:swapsWithSole [.Subscript a f pos'] e pos.line X.env=pure false:=by rfl)(hw:swappedStores [.Subscript a f pos'] e X.env=pure none:=by rfl)(O:(assignEach [.Subscript a f pos'] X.env).map (·.2)=[assign (.Subscript a f pos') X.env]:=by rfl) (J:∀ v,assign (.Subscript a f pos') X.env v=(do
 let ov<-holding [v] (eval a X.env)
 let iv<-holding [v,ov] (eval f X.env)
 standAt pos'
 holding [v,ov,iv] (setItem ov iv v)
 release [v,ov,iv] []):=by intro _;rfl):SD X (.Assign [.Subscript a f pos'] e pos) (Vk m i w A):=by
 obtain⟨t,p,r⟩:=Y
 obtain⟨tk,P,Q⟩:=N
 refine⟨_,zpq p (zoz M P zjn J) l hw O,λFb Hb F H ρ σ E B k=>?_⟩
 unfold Vk at k
 cases h:(vEv m A ρ).bind λd=>(w (visG ρ)).bind λk=>match ρ[i]?,k with
  | some (.o n),.int k=>(ixN n.length k).map λj=>ρ.set i (.o (n.set j d))
  | _,_=>none with
 | none=>rw[h]at k;exact k.elim
 | some ρ' =>
  rw[h]at k
  obtain⟨d,T,b⟩:=u4.mp h
  obtain⟨R,V,b⟩:=u4.mp b
  cases l:ρ[i]? with
  | none=>rw[l]at b;cases b
  | some S =>
   rw[l]at b
   cases S with
   | no=>cases b
   | v _=>cases b
   | m _ _ _=>cases b
   | k _ _ _=>cases b
   | o n =>
    cases R with
    | int K =>
     obtain⟨j,I,rfl⟩:=u9.mp b
     refine r.at B T λF' H' v g U=>?_
     have c:=B.grow g
     obtain⟨q,Z,z,_⟩:=c.owns i n l
     refine⟨_,z,?_⟩
     refine Q σ _ _ H' _ _ c.gh c.visG V λF3 H3 v3 L y=>?_
     obtain⟨C,_⟩:=c.back L
     have u:=c.grow C
     obtain⟨q3,x,s,_,_,W,G⟩:=u.owns i n l
     rw[z]at s
     cases s
     refine⟨q,x,K,j,rfl,y.int_inv,W,by rw[G.length];exact I,?_⟩
     exact k _ _ σ (u.mutate l z (G.set j (U.mono C.ff)))
    | _=>cases b
end
end Dl
namespace L2
open PySem PySem.Spec PyProof.Rows
section
variable {X:Cx}{tg:Expr}
def iSeq (K:zu)(c:TE):TI:=fun σ H R=>c σ H λx H1=>(∃ a,x=.ref a/\(∃ b,SqL K H1 a b)/\R (Itl K a) H1)\/(∃ a,x=.ref a/\(∃ b,SqT K H1 a b)/\R (Itt K a) H1)
def zns (m:PE X l j):PI X tg l (iSeq X.K j):=by
 intro d s σ H R I h
 refine thn (m d s σ H _ I h) λv c hh9=>?_
 obtain⟨x,H1,I1,k,t⟩:=hh9
 rcases t with ⟨a,e,⟨r,i⟩,q⟩ | ⟨a,e,⟨r,i⟩,q⟩
 .subst e
  cases k
  obtain⟨f,n,p,u⟩:=I1.list i
  refine wpAny_pyIter_list p.isList ?_
  refine⟨c.heap.objs.size,[c.heap.objs.size],_,_,H1,rfl,I1.kept (t':=c.toks) λb o e=>u8 _ e,zgE a _,⟨_,k9 _ rfl,rfl,rfl⟩,λb g=>?_,q⟩
  have e:b=c.heap.objs.size:=by simpa using g
  subst e
  exact I1.fpOk (t6 _) (I1.hok.fresh (t6 _))
 .subst e
  cases k
  obtain⟨f,n,p,u⟩:=I1.tuple i
  refine u0T (show c.heap.IsTuple a f.toArray from p) ?_
  refine⟨c.heap.objs.size,[c.heap.objs.size],_,_,H1,rfl,I1.kept (t':=c.toks) λb o e=>u8 _ e,zdW a _,⟨_,k9 _ rfl,rfl,rfl⟩,λb g=>?_,q⟩
  have e:b=c.heap.objs.size:=by simpa using g
  subst e
  exact I1.fpOk (t6 _) (I1.hok.fresh (t6 _))
end
end L2
namespace Dl
open PySem L2
variable [KK]
def zoh (J:It)(F:Hp)(a:zg):Prop:=∀ (i:Nat) (F2 H2:Hp),zN F F2->zN F2 H2->(i=a.length->J.stop i H2) /\
 ∀ d,a[i]?=some d->J.go i H2/\∀ x H3,J.yld i H2 x H3->∃ F3,Gr F2 H2 F3 H3/\At F3 d x
def RI (b:TI)(f:yB):Prop :=
 ∀ (σ:St) (ρ:Ev) (F H:Hp) (a:zg) (R:It->Hp->Prop),zN F H->VAt F ρ σ->f ρ=some a->(∀ F' H' J,Gr F H F' H'->zoh J F' a->R J H')->b σ H R
def ID (X:Cx)(c a:Expr)(f:yB):Prop:=∃ b,PI X c a b/\RI b f
def vj:D->Option zg
 | .lst a=>some a
 | .tup a=>some a
 | _=>none
section
variable {X:Cx}{tg a b c e:Expr}{pos:Pos}
def zox {F:Hp}{p:Addr}{a:zw}(h:F p=some (.lst a))(f:AtL F j a):zoh (Itl K p) F j:=by
 intro i F2 H2 g e
 have q:SqL K H2 p a:=SqL.of (e _ _ (g _ _ h))
 refine⟨λk=>⟨a,q,by rw[f.length,k];exact t6 _⟩,λd l=>?_⟩
 obtain⟨x,c,m⟩:=f.get l
 refine⟨⟨a,x,q,c⟩,λy H3 b=>?_⟩
 obtain⟨rfl,b⟩:=b
 have:=b a q
 rw[c]at this
 cases this
 exact⟨F2,.refl e,m.mono g⟩
def znY {F:Hp}{p:Addr}{a:zw}(h:F p=some (.tup a))(f:AtL F j a):zoh (Itt K p) F j:=by
 intro i F2 H2 g e
 have q:SqT K H2 p a:=SqT.of (e _ _ (g _ _ h))
 refine⟨λk=>⟨a,q,by rw[f.length,k];exact t6 _⟩,λd l=>?_⟩
 obtain⟨x,c,m⟩:=f.get l
 refine⟨⟨a,x,q,c⟩,λy H3 b=>?_⟩
 obtain⟨rfl,b⟩:=b
 have:=b a q
 rw[c]at this
 cases this
 exact⟨F2,.refl e,m.mono g⟩
def iOf (f:zJ):yB:=fun ρ=>(f ρ).bind vj
def XY {f:zJ}(j:ED X a f):ID X tg a (iOf f):=by
 obtain⟨t,p,r⟩:=j
 refine⟨_,zns p,fun σ ρ F H n R s k e q=>?_⟩
 obtain⟨d,l,m⟩:=u4.mp e
 refine r σ ρ F H d _ s k l λF1 H1 v c i=>?_
 cases d <;> try cases m
 .obtain⟨p,g,rfl,b,h⟩:=i.tup_inv
  exact .inr ⟨p,rfl,⟨g,SqT.of (c.fh _ _ b)⟩,q F1 H1 _ c (znY b h)⟩
 .obtain⟨p,g,rfl,b,h⟩:=i.lst_inv
  exact .inl ⟨p,rfl,⟨g,SqL.of (c.fh _ _ b)⟩,q F1 H1 _ c (zox b h)⟩
def znf (a:Int)(n:Nat):zg:=(List.range n).map λk:Nat=>.int (a+k)
def zf8 (c:Int)(n:Nat):zoh (Itr c n) F (znf c n):=by
 intro i F2 H2 j h
 have a:(znf c n).length=n:=by unfold znf;simp
 refine⟨λf=>by rw[a]at f;rw[f];exact t6 _,λd b=>?_⟩
 have e:i<n:=by
  have:=(j3.mp b).1
  omega
 refine⟨e,λy H3 g=>?_⟩
 obtain⟨rfl,rfl⟩:=g
 refine⟨F2,.refl h,?_⟩
 unfold znf at b
 rw[r8,List.getElem?_range e]at b
 cases b
 exact .int
@[irreducible] def znH (j:Int):Bool:=decide (-(2^62)<=j/\j<2^62)
omit [KK] in
def vv:znH j=true↔-(2^62)<=j/\j<2^62:=by unfold znH;exact decide_eq_true_iff
def zaL:zi9
 | [.int j]=>if znH j=true then some (znf 0 j.toNat)else none
 | _=>none
def zb7:zi9
 | [.int i,.int j]=>if znH i=true/\znH j=true then some (znf i (j-i).toNat)else none
 | _=>none
def zcy (g:zi9)(f:yB):yB:=fun ρ=>(f ρ).bind g
def zgv {p:Pos} {f:yB} (h:Gl X "range") (w:X.mg "range"=none) (l:AD X [a] f) (g:starEach [a] X.env=[(false,eval a X.env)]:=by rfl):ID X tg (.Call (.Name "range" p) [a] [] pos) (zcy zaL f):=by
 obtain⟨t,k,r⟩:=l
 refine⟨_,zaQ h w k g,fun σ ρ F H z R s n e q=>?_⟩
 obtain⟨d,o,b⟩:=u4.mp e
 refine r σ ρ F H d _ s n o λF1 H1 v m j=>?_
 unfold zaL at b
 split at b
 .split at b
  .cases b
   rename_i c
   obtain⟨x,y,rfl,u,i⟩:=j.cons_inv
   cases i.nil_inv
   exact⟨_,by rw[u.int_inv],(vv.mp c).1,(vv.mp c).2,q F1 H1 _ m (zf8 0 _)⟩
  .cases b
 .cases b
def zhO {p:Pos} {f:yB} (j:Gl X "range") (C:X.mg "range"=none) (l:AD X [a,b] f) (w:starEach [a,b] X.env=[(false,eval a X.env),(false,eval b X.env)]:=by rfl) (i:starEach [b] X.env=[(false,eval b X.env)]:=by rfl) :
 ID X tg (.Call (.Name "range" p) [a,b] [] pos) (zcy zb7 f):=by
 obtain⟨t,z,r⟩:=l
 refine⟨_,zf6 j C z w i,fun σ ρ F H E R s A e q=>?_⟩
 obtain⟨d,B,c⟩:=u4.mp e
 refine r σ ρ F H d _ s A B λF1 H1 v m k=>?_
 unfold zb7 at c
 split at c
 .split at c
  .cases c
   rename_i g
   obtain⟨x,n,rfl,u,h⟩:=k.cons_inv
   obtain⟨y,n,rfl,o,h⟩:=h.cons_inv
   cases h.nil_inv
   exact⟨_,_,by rw[u.int_inv,o.int_inv],⟨(vv.mp g.1).1,(vv.mp g.1).2,(vv.mp g.2).1,(vv.mp g.2).2⟩,q F1 H1 _ m (zf8 _ _)⟩
  .cases c
 .cases c
def Xv (n:Nat):zg->zg
 | []=>[]
 | d::ds=>.tup [.int n,d]::Xv (n+1) ds
omit [KK] in
def wU (a:zg):∀ (n i:Nat),(Xv n a)[i]?=(a[i]?).map λd=>.tup [.int ((n+i:Nat):Int),d]:=by
 induction a with
 | nil=>intro n i;simp[Xv]
 | cons d a b =>
  intro n i
  cases i with
  | zero=>simp[Xv]
  | succ i =>
   show(Xv (n+1) a)[i]?=(a[i]?).map _
   rw[b]
   have:n+1+i=n+(i+1):=by omega
   rw[this]
omit [KK] in
def xC (ds:zg):∀ n,(Xv n ds).length=ds.length:=by
 induction ds with
 | nil=>intro n;rfl
 | cons d ds a=>intro n;simp[Xv,a]
def wg (f:yB):yB:=fun ρ=>(f ρ).bind λa=>match a with
 | [d]=>(vj d).map (Xv 0)
 | _=>none
def zcm {k:Nat} {p:Pos} {f:yB} (I:Gl X "enumerate") (Y:X.mg "enumerate"=none) (P:bootBuiltins "enumerate"=some (.type "enumerate")) (M:AD X [a] f) (N:starEach [a] X.env=[(false,eval a X.env)]:=by rfl):ID X (.Tuple G k K) (.Call (.Name "enumerate" p) [a] [] pos) (wg f):=by
 obtain⟨t,Q,r⟩:=M
 refine⟨_,zmR I Y P Q N,fun σ ρ F H ds R s S e q=>?_⟩
 obtain⟨W,U,C⟩:=u4.mp e
 refine r σ ρ F H W _ s S U λF1 H1 v A J=>?_
 split at C
 .obtain⟨x,Z,rfl,l,O⟩:=J.cons_inv
  cases O.nil_inv
  obtain⟨G,V,rfl⟩:=u9.mp C
  rename_i d
  cases d <;> try cases V
  .obtain⟨p,b,rfl,u,z⟩:=l.tup_inv
   refine⟨p,rfl,.inr ⟨b,SqT.of (A.fh _ _ u),q F1 H1 _ A λi F2 H2 o w=>?_⟩⟩
   have j:SqT X.K H2 p b:=SqT.of (w _ _ (o _ _ u))
   refine⟨λB=>⟨b,j,by rw[z.length,B,xC];exact t6 _⟩,λd m=>?_⟩
   rw[wU]at m
   obtain⟨L,h,rfl⟩:=u9.mp m
   obtain⟨x,c,l⟩:=z.get h
   refine⟨⟨b,x,j,c⟩,λy H3 g=>?_⟩
   obtain⟨T,y,rfl,E,rfl,g⟩:=g
   have:=g b j
   rw[c]at this
   cases this
   have n:=Gr.alloc w E (.tup [.int i,x])
   exact⟨_,n,.tup zd (.cons (by rw[l0];exact .int) (.cons (l.mono (o.trans n.ff)) .nil))⟩
  .obtain⟨p,b,rfl,u,z⟩:=l.lst_inv
   refine⟨p,rfl,.inl ⟨b,A.fh _ _ u,q F1 H1 _ A λi F2 H2 o w=>?_⟩⟩
   have j:SqL X.K H2 p b:=SqL.of (w _ _ (o _ _ u))
   refine⟨λB=>⟨b,j,by rw[z.length,B,xC];exact t6 _⟩,λd m=>?_⟩
   rw[wU]at m
   obtain⟨L,h,rfl⟩:=u9.mp m
   obtain⟨x,c,l⟩:=z.get h
   refine⟨⟨b,x,j,c⟩,λy H3 g=>?_⟩
   obtain⟨T,y,rfl,E,rfl,g⟩:=g
   have:=g b j
   rw[c]at this
   cases this
   have n:=Gr.alloc w E (.tup [.int i,x])
   exact⟨_,n,.tup zd (.cons (by rw[l0];exact .int) (.cons (l.mono (o.trans n.ff)) .nil))⟩
 .cases C
def hb2 (F1 Hb:Hp):Hp:=λp=>match F1 p with
 | some o=>some o
 | none=>Hb p
def YE {F1 Hb:Hp}{p:Addr}(h:F1 p=none):hb2 F1 Hb p=Hb p:=by unfold hb2;rw[h]
def zc2 {F1:Hp}{p:Addr}(h:F1 p=some o):hb2 F1 Hb p=some o:=by unfold hb2;rw[h]
def Gr.up (c:Gr Fb Hb F1 H1)(g:Gr F1 (hb2 F1 Hb) F H):Gr Fb Hb F H:=by
 refine⟨c.ff.trans g.ff,g.fh,λp o e b=>?_⟩
 rcases(c.kp p o e b).1 with n | ⟨d,a⟩
 .exact g.kp p o n (by rw[YE n];exact b)
 .exact⟨.inr ⟨d,g.ff _ _ a⟩,g.fh _ _ (g.ff _ _ a)⟩
def Gr.dn (g:Gr Fb Hb F H)(c:zN Fb F1)(s:zN F1 F):Gr F1 (hb2 F1 Hb) F H:=by
 refine⟨s,g.fh,λp o a b=>?_⟩
 rw[YE a]at b
 exact g.kp p o (c.free a) b
def Rl.up (j:Gr Fb Hb F1 H1)(r:Rl F1 (hb2 F1 Hb) F H ρ σ):Rl Fb Hb F H ρ σ:=by
 have d:∀ {p:Addr},hb2 F1 Hb p=none->Hb p=none:=λ{p} e=>by
  cases h:F1 p with
  | none=>rw[YE h]at e;exact e
  | some o=>rw[zc2 h]at e;cases e
 refine⟨j.up r.gr,r.vals,λi s e k=>?_,r.dis,r.len,r.dk.step (λ_ _ _ _ e=>⟨e,rfl⟩) (zN.refl _) λi w h v p x q t u n c b a g l m f=>⟨a,d g,l,m,f⟩⟩
 obtain⟨p,o,c,b,a⟩:=r.ows i s e k
 exact⟨p,o,c,d b,a⟩
def Rl.dn (r:Rl Fb Hb F H ρ σ)(k:zN Fb F1)(s:zN F1 F):Rl F1 (hb2 F1 Hb) F H ρ σ:=by
 refine⟨r.gr.dn k s,r.vals,λi t e j=>?_,r.dis,r.len,r.dk.step (λ_ _ _ _ e=>⟨e,rfl⟩) (zN.refl _) λi w h v p x q n u m f c a b d l g=>⟨a,by rw[YE (s.free d)];exact b,d,l,g⟩⟩
 obtain⟨p,o,f,c,a,b⟩:=r.ows i t e j
 refine⟨p,o,f,?_,a,b⟩
 rw[YE (s.free a)]
 exact c
def zdr (b:vW)(g:zz):zg->SE->Ctl
 | [],ρ=>.nx ρ
 | d::ds,ρ=>match b d ρ with
  | none=>.no
  | some c=>match g c with
   | .nx a=>zdr b g ds a
   | .ct a=>zdr b g ds a
   | .bk a=>.nx a
   | .rt d=>.rt d
   | .no=>.no
noncomputable def W8 (f:yB)(b:vW)(g:zz):zz:=fun ρ=>match f (visF ρ) with
 | some a=>zdr b g a ρ
 | none=>.no
def zkm {E:Z7}{J:It}{g:TG}{a:zg}{b:vW}(u:zoh J F1 a)(Q:RG g b)(P:RS C j)(c:Rl Fb Hb F1 H1 ρ σ)(k:SOk Fb Hb E (zdr b j a ρ)) :
 ∃ W:Nat->Nat->St->Hp->Prop,(∃ m,W 0 m σ H1)/\∀ i m σ H,W i m σ H ->
  (J.stop i H/\E.nx σ H)\/(J.go i H/\∃ N:vV,(∀ s H',N s H'->∃ A,A<m/\W (i+1) A s H')/\∀ x H',J.yld i H x H'->g x σ H' λp H2=>C { E with nx:=N,ct:=N,bk:=E.nx } p H2):=by
 refine⟨λi m σ H=>m=a.length-i/\i<=a.length/\∃ F ρ,zN F1 F/\Rl Fb Hb F H ρ σ/\SOk Fb Hb E (zdr b j (a.drop i) ρ),⟨a.length,by simp,p9 _,F1,ρ,zN.refl _,c,k⟩,?_⟩
 rintro i m σ H ⟨rfl,V,F,ρ,G,r,k⟩
 obtain⟨l,T⟩:=u i F H G r.gr.fh
 by_cases h:i<a.length
 .have L:a.drop i=a[i]::a.drop (i+1):=i7 h
  rw[L]at k
  unfold zdr at k
  obtain⟨M,O⟩:=T a[i] (by simp[h])
  refine .inr ⟨M,fun σ H=>∃ F ρ,zN F1 F/\Rl Fb Hb F H ρ σ/\SOk Fb Hb E (zdr b j (a.drop (i+1)) ρ),λs H' w=>⟨a.length-(i+1),by omega,rfl,h,w⟩,λx H' I=>?_⟩
  obtain⟨F3,B,R⟩:=O x H' I
  cases t:b a[i] ρ with
  | none=>rw[t]at k;exact k.elim
  | some z =>
   rw[t]at k
   dsimp only at k
   refine Q Fb Hb F3 H' ρ z σ _ x _ (r.grow B) R t λp y=>?_
   have U:=G.trans B.ff
   refine P F1 (hb2 F1 Hb) F3 H' z p _ (y.dn c.gr.ff U) ?_
   cases n:j z with
   | nx o=>rw[n]at k;exact λF4 H4 q f=>⟨F4,o,f.gr.ff,f.up c.gr,k⟩
   | ct o=>rw[n]at k;exact λF4 H4 q f=>⟨F4,o,f.gr.ff,f.up c.gr,k⟩
   | bk o=>rw[n]at k;exact λF4 H4 q f=>k F4 H4 q (f.up c.gr)
   | rt d=>rw[n]at k;exact λF4 H4 v S K=>k F4 H4 v (c.gr.up S) K
   | no=>rw[n]at k;exact k.elim
 .have e:i=a.length:=by omega
  subst e
  rw[u0N]at k
  exact .inl ⟨l rfl,k F H σ r⟩
def zkM {a:Expr}{c:wN}{f:yB}{b:vW}{g:zz}(i:PassesOwn (model X.prog X.w) X.A X.env X.xe)(u:X.calm=true)(s:ID X tg a f)(e:BD X tg b)(r:SDs X c g)
 (o:∀ x,foldedSetIterable a X.env x=pure x:=by intro _;rfl):SD X (.For tg a c [] pos) (W8 f b g):=by
 obtain⟨y,w,q⟩:=s
 obtain⟨v,t,m⟩:=e
 obtain⟨z,p,l⟩:=r
 refine⟨_,zaY i u w t p o,λFb Hb F H ρ σ E d k=>?_⟩
 unfold W8 at k
 cases h:f (visF ρ) with
 | none=>rw[h]at k;exact k.elim
 | some n =>
  rw[h]at k
  exact q σ _ _ H n _ d.gr.fh d.visF h λF1 H1 J j ok=>zkm ok m l (d.grow j) k
end
def lcD (b:za7)(t:vx)(f:zJ)(ρ:Ev):zi9
 | []=>some []
 | d::ds=>(b d).bind λown=>(t (own++ρ)).bind λc=>if c=true then (f (own++ρ)).bind λy=>(lcD b t f ρ ds).map (y::·)else lcD b t f ρ ds
def fLC (i:yB)(b:za7)(t:vx)(f:zJ):yB:=fun ρ=>(i ρ).bind λa=>if lim a.length=true then lcD b t f ρ a else none
def b1:za7:=λd=>some [some d]
def b2:za7
 | .tup [x,y]=>some [some x,some y]
 | _=>none
def RB (n:Nat)(t:TG)(b:za7):Prop:=∀ (σ:St) (ρ:Ev) (F H:Hp) (d:D) (v:V) (own:List (Option D)) (Q:vV),zN F H->VAt F ρ σ->At F d v->b d=some own->(∀ a,VAt F (own++ρ) a->Q a H)->t v (List.replicate n none++σ) H Q
def x9:vx:=λ_=>some true
def zkL:RT tYes x9:=λ_ _ _ _ _ _ s _ e q=>by cases e;exact q _ _ (.refl s)
def zlH {g:TG}{tt:TT}(ri:RI wi fi)(rg:RB n g b)(rt:RT tt W)(re:RE te fe) :
 RF (tLC wi n g tt te) (fLC fi b W fe):=by
 intro σ ρ F H N Q s va e q
 obtain⟨a,e1,L⟩:=u4.mp e
 split at L <;> try cases L
 rename_i C
 have C:a.length<=sizeLine:=k8 C
 refine ri σ ρ F H a _ s va e1 λF1 H1 J w ok=>?_
 intro P K
 have T:F1 P=none:=w.fh.free K
 have a1:H P=none:=by
  cases e:H P with
  | none=>rfl
  | some o =>
   cases L:F P with
   | none=>rw[(w.kp P o L e).2]at K;cases K
   | some u=>rw[w.fh _ _ (w.ff _ _ L)]at K;cases K
 refine⟨λi m M H2=>m=a.length-i/\i<=a.length/\∃ F2 done,Gr F1 H1 F2 H2/\Gr F1 (upd H1 P (.lst [])) F2 (upd H2 P (.lst []))/\F2 P=none/\H2 P=some (.lst M)/\AtL F2 done M/\done.length<=i/\∃ c,lcD b W fe ρ (a.drop i)=some c/\done++c=N,⟨a.length,by simp,p9 _,F1,[],Gr.hide w.fh K _,?_,T,zd,.nil,p9 _,N,L,rfl⟩,?_⟩
 .rw[zhU]
  exact .refl λb u z=>by rw[zf (ze z T)];exact w.fh b u z
 rintro i m M H2 ⟨rfl,hi,F2,done,A,a4,I,G,V,a2,c,d,f⟩
 obtain⟨S,go⟩:=ok i F2 H2 A.ff A.fh
 by_cases p:i<a.length
 .have hd:a.drop i=a[i]::a.drop (i+1):=i7 p
  rw[hd]at d
  unfold lcD at d
  obtain⟨own,hb,d⟩:=u4.mp d
  obtain⟨cb,hc,d⟩:=u4.mp d
  obtain⟨k1,k2⟩:=go a[i] (by simp[p])
  refine .inr ⟨k1,by rw[V.length];omega,λx H3 X=>?_⟩
  obtain⟨F3,U,a3⟩:=k2 x H3 X
  refine rg σ ρ F3 H3 a[i] x own _ U.fh (va.mono (w.ff.trans (A.ff.trans U.ff))) a3 hb fun σ4 O=>?_
  refine rt σ4 _ F3 H3 cb _ U.fh O hc λF5 H5 g5=>?_
  have k:=U.trans g5
  obtain⟨Y,h5⟩:=k.kl (λ_ e=>by cases e) I G
  have h:∀ {F6 H6:Hp} {o:HO},Gr F2 H2 F6 H6->F6 P=none->Gr F1 (upd H1 P (.lst [])) F6 (upd (upd H6 P o) P (.lst [])):=λ{F6 H6 o} t B=>by
   rw[zhU]
   refine⟨A.ff.trans t.ff,λb u z=>?_,λb u Z E=>?_⟩
   .rw[zf (ze z B)];exact t.fh b u z
   .by_cases l:b=P
    .subst l
     rw[zd]at E ⊢
     exact⟨.inl B,E⟩
    .rw[zf l]at E ⊢
     exact(A.trans t).kp b u Z E
  have j:∀ {F6 H6:Hp} {o:HO},Gr F2 H2 F6 H6->F6 P=none->Gr F1 H1 F6 (upd H6 P o):=λ{F6 H6 o} t B=>by
   refine⟨A.ff.trans t.ff,λb u z=>?_,λb u Z E=>?_⟩
   .rw[zf (ze z B)];exact t.fh b u z
   .rw[zf (ze E K)]
    exact(A.trans t).kp b u Z E
  cases cb with
  | false =>
   rw[j5 u7]at d ⊢
   have R:H5=upd H5 P (.lst M):=by
    funext b
    by_cases l:b=P
    .subst l;rw[zd];exact h5
    .rw[zf l]
   refine⟨a.length-(i+1),by omega,rfl,p,F5,done,?_,?_,Y,h5,V.mono k.ff,by omega,c,d,f⟩
   .rw[R];exact j k Y
   .have:=h (o:=.lst M) k Y
    rw[<-R]at this
    exact this
  | true =>
   rw[t9 rfl]at d ⊢
   obtain⟨y,X,d⟩:=u4.mp d
   obtain⟨rest,a0,rfl⟩:=u9.mp d
   refine re σ4 _ F5 H5 y _ g5.fh (O.mono g5.ff) X λF6 H6 v t a6=>?_
   have r:=k.trans t
   obtain⟨B,h6⟩:=r.kl (λ_ e=>by cases e) I G
   refine⟨h6,a.length-(i+1),by omega,rfl,p,F6,done++[y],j r B,h r B,B,zd,(V.mono r.ff).snoc a6,by rw[j7];simp;omega,rest,a0,by rw[<-f,u0X];rfl⟩
 .have e:i=a.length:=by omega
  subst e
  rw[u0N]at d
  cases d
  rw[o5]at f
  subst f
  exact .inl ⟨S rfl,q F2 H2 P M (w.trans A) a1 I G V⟩
def rb1:RB 1 (xG 0) b1:=by
 intro σ ρ F H d v own Q s b c e q
 cases e
 refine q _ λi a h=>?_
 cases i with
 | zero=>cases h;exact⟨v,rfl,c⟩
 | succ i=>exact b i a h
def tCan (f:zJ):TE:=fun σ H Q=>∃ ρ F d,zN F H/\VAt F ρ σ/\f ρ=some d/\∀ F' H' v,Gr F H F' H'->At F' d v->Q v H'
def zo5 (f:vx):TT:=fun σ H Q=>∃ ρ F d,zN F H/\VAt F ρ σ/\f ρ=some d/\∀ F' H',Gr F H F' H'->Q d H'
def ED.can {f:zJ}(h:ED X e f):PE X e (tCan f):=by
 obtain⟨t,p,r⟩:=h
 rintro a s σ H Q I ⟨ρ,F,d,i,g,c,b⟩
 exact p a s σ H Q I (r σ ρ F H d Q i g c b)
def TD.can {f:vx}(h:TD X e f):PT X e (zo5 f):=by
 obtain⟨t,p,r⟩:=h
 rintro a s σ H Q I ⟨ρ,F,d,i,g,c,b⟩
 exact p a s σ H Q I (r σ ρ F H d Q i g c b)
def zeN {f:zJ}:RE (tCan f) f:=λ_ ρ F _ d _ c a b e=>⟨ρ,F,d,c,a,b,e⟩
def znL {f:vx}:RT (zo5 f) f:=λ_ ρ F _ d _ c a b e=>⟨ρ,F,d,c,a,b,e⟩
def zhs {X:Cx}{d:Expr}{L:zD}{g:TG}(s:X.calm=true)(S:xT X L M a j)(q:ID X e c m)(f:∀ (σ:St) (v:V) (H:Hp) (Q:vV),g v (List.replicate L.length none++σ) H Q->g v (List.replicate L.length none++σ) H (λk H2=>Z9 (List.replicate L.length none++σ) k/\Q k H2))(i:RB L.length g b)(o:∀ s₀ H₀ ex pn,PG (XH X L M a j s₀ H₀ ex pn) e g)(t:∀ s₀ H₀ ex pn,ED (XH X L M a j s₀ H₀ ex pn) d l)(n:∀ x,foldedSetIterable c X.env x=pure x:=by intro _;rfl):FL X (.ListComp d [⟨e,c,[],0⟩] a h) (fLC m b x9 l):=by
 obtain⟨u,r,p⟩:=q
 exact⟨_,zkn s S r f o (λ_ _ _ _=>zgB) (λ_ _ _ _=>(t _ _ _ _).can) n,zlH p i zkL zeN⟩
def zpw {X:Cx}{d:Expr}{L:zD}{f:Vc}{k:Pos}{g:TG}(u:X.calm=true)(S:xT X L M a f)(t:ID X h d n)(i:∀ (σ:St) (v:V) (H:Hp) (Q:vV),g v (List.replicate L.length none++σ) H Q->g v (List.replicate L.length none++σ) H (λm H2=>Z9 (List.replicate L.length none++σ) m/\Q m H2))(j:RB L.length g b)(p:∀ s₀ H₀ ex pn,PG (XH X L M a f s₀ H₀ ex pn) h g)(q:∀ s₀ H₀ ex pn,TD (XH X L M a f s₀ H₀ ex pn) c l)(w:∀ s₀ H₀ ex pn,ED (XH X L M a f s₀ H₀ ex pn) e o)(r:∀ x,foldedSetIterable d X.env x=pure x:=by intro _;rfl):FL X (.ListComp e [⟨h,d,[c],0⟩] a k) (fLC n b l o):=by
 obtain⟨z,y,s⟩:=t
 exact⟨_,zkn u S y i p (λ_ _ _ _=>zmh (q _ _ _ _).can) (λ_ _ _ _=>(w _ _ _ _).can) r,zlH s j znL zeN⟩
def zpb {t:TE}{f:yB}(r:RF t f):RE t (xO f):=by
 intro σ ρ F H d Q s h e q
 obtain⟨l,i,rfl⟩:=u9.mp e
 refine r σ ρ F H l Q s h i λF' H' p m g h0 a k c=>?_
 have j:=g.show h0 a k
 exact q _ _ _ j (At.lst zd (c.mono (λb u e=>by rw[zf (ze e a)];exact e)))
def FLS (X:Cx)(i:Nat)(a:Stmt)(f:yB):Prop:=∃ t,PS X a (XF t (xG i))/\RF t f
def zch {f:yB}(e:FLS X i a f):SD X a (xN m i (xO f)):=by
 obtain⟨t,p,r⟩:=e
 refine⟨_,p,λFb Hb F H ρ σ E b k=>?_⟩
 unfold xN at k
 cases h:vEv m (xO f) ρ with
 | none=>rw[h]at k;exact k.elim
 | some d =>
  rw[h]at k
  exact(zpb r).at b h λF' H' v g c=>k F' H' _ ((b.grow g).set c)
def zcA {i:Nat}{p d:Pos}{X:Cx}{L:zD}{k:Vc}{f:Pos}{g:TG}(z:X.N.Nodup)(l:X.N[i]?=some x)(s:Loc X.env.scope x)(E:X.calm=true)(S:xT X L M a k)(C:ID X h c q)(m:∀ (σ:St) (v:V) (H:Hp) (Q:vV),g v (List.replicate L.length none++σ) H Q->g v (List.replicate L.length none++σ) H (λo H2=>Z9 (List.replicate L.length none++σ) o/\Q o H2))(j:RB L.length g b)(w:∀ s₀ H₀ ex pn,PG (XH X L M a k s₀ H₀ ex pn) h g)(t:∀ s₀ H₀ ex pn,ED (XH X L M a k s₀ H₀ ex pn) e r)(A:∀ x,foldedSetIterable c X.env x=pure x:=by intro _;rfl)(n:swapsWith (.ListComp e [⟨h,c,[],0⟩] a f) (some (.Name x p)) d.line X.env=pure true:=by rfl)(y:X.fn x=true\/X.env.scope.names.lookup x=some .local:=by first | exact .inl rfl | exact .inr rfl | assumption):FLS X i (.Assign [.Name x p] (.ListComp e [⟨h,c,[],0⟩] a f) d) (fLC q b x9 r):=by
 obtain⟨F,u,B⟩:=C
 exact⟨_,znv z l s E S u m w (λ_ _ _ _=>zgB) (λ_ _ _ _=>(t _ _ _ _).can) A n y,zlH B j zkL zeN⟩
noncomputable def fnD (n:Nat)(g:zz)(a:zg):Option D:=match g (a.map .v++List.replicate (n-a.length) .no) with
 | .rt d=>some d
 | .nx _=>some .non
 | _=>none
def spD (m:Nat)(p:xW):Sp:=λb H Q _=>∃ a d F,a.length=m/\zN F H/\AtL F a b/\p a=some d/\∀ F' H' v,Gr F H F' H'->At F' d v->Q v H'
def XU {N:zD}{b:zg}(s:zN F H)(a:AtL F b l):Rl F H F H (b.map .v++List.replicate (N.length-b.length) .no) (L2.start N l):=by
 have k:=a.length
 have c:∀ (i:Nat) (t:Sl),(b.map Sl.v++List.replicate (N.length-b.length) Sl.no)[i]?=some t->t.isO=true->False:=λi t h f=>by
  by_cases g:i<b.length
  .rw[g0 (by simpa using g),r8]at h
   cases e:b[i]? with
   | none=>rw[e]at h;cases h
   | some d=>rw[e]at h;cases h;cases f
  .rw[g9 (by simpa using g),u0d]at h
   split at h <;> cases h
   cases f
 refine⟨.refl s,λi d h=>?_,λi t h f=>(c i t h f).elim,λi j p t u h _ f=>(c i t h f).elim,?_,λi w h q e=>(c i _ e rfl).elim⟩
 .by_cases g:i<b.length
  .rw[g0 (by simpa using g),r8]at h
   cases e:b[i]? with
   | none=>rw[e]at h;cases h
   | some o =>
    rw[e]at h
    cases h
    obtain⟨x,n,m⟩:=a.get e
    refine⟨x,?_,m⟩
    unfold L2.start
    rw[g0 (by simpa [k]using g),r8,n]
    rfl
  .rw[g9 (by simpa using g),u0d]at h
   split at h <;> cases h
 .unfold L2.start
  simp[k]
def za3 {w:World}{f:Addr}{N ps:zD}{k:Nat}{g:zz}(Fu:Fun K x b l f u)(S:yz N ps (zk l))(B:∀ (c:Value) (A:zM) (outer:List Env) (s:zm) (H:Hp) (E:XK),yY k (A.deeper (PyProof.Rows.envOfC b (zk l) s.heap.objs.size f c))->SDs (vi CX0 P w K o i N b (zk l) f c A outer s H E).nox (z7 l) g) :
 xu P w K o i CX0 (k+1) f u ps (spD ps.length (fnD N.length g)):=by
 refine Fu.ok S (λC H Q E h=>?_) λc A outer s H C Q E G h=>?_
 .obtain⟨m,d,F,n,_,a,_⟩:=h
  rw[a.length];exact n
 .obtain⟨m,d,F,n,y,a,e,q⟩:=h
  obtain⟨t,p,r⟩:=B c A outer s H E G
  refine⟨t,p,r F H F H _ _ _ (XU y a) ?_⟩
  unfold fnD at e
  cases j:g (m.map .v++List.replicate (N.length-m.length) .no) with
  | rt I=>rw[j]at e;cases e;exact λF' H' v g D=>q F' H' v g D
  | nx ρ=>rw[j]at e;cases e;exact λF' H' σ z=>q F' H' _ z.gr .non
  | bk ρ=>rw[j]at e;cases e
  | ct ρ=>rw[j]at e;cases e
  | no=>rw[j]at e;cases e
def vt {w:World}{f:Addr}{g:zD}{k:Nat}{p q:xW}(F:xu P w K c a CX0 k f i g (spD m p))(h:∀ b d,b.length=m->q b=some d->p b=some d):xu P w K c a CX0 k f i g (spD m q) :=
 F.imp λr H Q E ⟨b,d,F',e,n,j,l,o⟩=>⟨b,d,F',e,n,j,h b d e l,o⟩
def zq (m:Nat)(p:xW)(f:yB):zJ:=fun ρ=>(f ρ).bind λds=>if ds.length=m then p ds else none
def zlW {X:Cx} {k:Nat} {f:Addr} {p:xW} (F:xu X.prog X.w X.K X.mg X.base CX0 k f u o (spD m p)) (N:yY k X.A) (C:Gl X x) (B:X.mg x=some (.ref f)) (I:W.keepIn X.K (.ref f)=true) (y:xh X.K u o []) (G:AD X (e::a) l) (i:(x == ("__debug__":Str))=false:=by decide) (A:starEach (e::a) X.env=(false,eval e X.env)::starEach a X.env:=by rfl) (c:(backTo b (starEach a X.env)).any (·.1)=false:=by rfl) :
 ED X (.Call (.Name x J) (e::a) [] b) (zq m p l):=by
 obtain⟨t,K,r⟩:=G
 refine⟨_,ZS F N C B I y .nil Zq K i A c,fun σ ρ F0 H d Q s L e q=>?_⟩
 obtain⟨n,M,h⟩:=u4.mp e
 split at h <;> try cases h
 rename_i E
 refine r σ ρ F0 H n _ s L M λF1 H1 O j w=>?_
 refine⟨n,d,F1,E,j.fh,by rw[o5];exact w,h,λF' H' v g z=>q F' H' v (j.trans g) z⟩
end Dl
namespace Dl
open PySem L2
variable [KK]
section
variable {X:Cx}{a b c e:Expr}{pos:Pos}
def zF:bootBuiltins "isinstance"=some (.builtin "isinstance"):=by decide +kernel
def Xf:bootBuiltins "len"=some (.builtin "len"):=by decide +kernel
def znN:bootBuiltins "min"=some (.builtin "min"):=by decide +kernel
def zoQ:bootBuiltins "max"=some (.builtin "max"):=by decide +kernel
def zhE:bootBuiltins "sorted"=some (.builtin "sorted"):=by decide +kernel
def znU:bootBuiltins "sum"=some (.builtin "sum"):=by decide +kernel
def zkH:bootBuiltins "all"=some (.builtin "all"):=by decide +kernel
def zhG:bootBuiltins "int"=some (.type "int"):=by decide +kernel
def zgm:bootBuiltins "bool"=some (.type "bool"):=by decide +kernel
def zc3:bootBuiltins "tuple"=some (.type "tuple"):=by decide +kernel
def zfx:bootBuiltins "list"=some (.type "list"):=by decide +kernel
def Z5:bootBuiltins "str"=some (.type "str"):=by decide +kernel
def YA:bootBuiltins "enumerate"=some (.type "enumerate"):=by decide +kernel
def za1 (C:Int->Int->Bool)(g:Int->Int->Int):xE
 | .int i,.int j=>if C i j=true then some (.int (g i j))else none
 | _,_=>none
def Yx (g:Int->Int->Int):xE
 | .int i,.int j=>some (.int (g i j))
 | _,_=>none
def zbe (g:Int->Int->Bool):xE
 | .int i,.int j=>some (.bl (g i j))
 | _,_=>none
def VT {C:Int->Int->Prop}{Cb:Int->Int->Bool}{g:Int->Int->Int}(h:∀ i j,Cb i j=true->C i j):OpD (rI C λi j=>.int (g i j)) (za1 Cb g):=by
 intro F H x y d e z Q s c b a q
 cases d <;> try cases a
 cases e <;> try cases a
 unfold za1 at a
 dsimp only at a
 split at a <;> cases a
 rename_i f
 exact⟨_,_,c.int_inv,b.int_inv,h _ _ f,q F H _ (.refl s) .int⟩
def zbK {g:Int->Int->Int}:OpD (rI0 λi j=>.int (g i j)) (Yx g):=by
 intro F H x y d e z Q s c b a q
 cases d <;> try cases a
 cases e <;> try cases a
 exact⟨_,_,c.int_inv,b.int_inv,q F H _ (.refl s) .int⟩
def wa {g:Int->Int->Bool}:OpD (rI0 λi j=>.bl (g i j)) (zbe g):=by
 intro F H x y d e z Q s c b a q
 cases d <;> try cases a
 cases e <;> try cases a
 exact⟨_,_,c.int_inv,b.int_inv,q F H _ (.refl s) .bl⟩
def zbv {r f:R2}{g c:xE}(h:OpD r g)(k:OpD f c):OpD (λx y H Q=>r x y H Q\/f x y H Q) (λd e=>(g d e).or (c d e)):=by
 intro F H x y d e z Q s j i a q
 dsimp only at a
 cases b:g d e with
 | some l=>rw[b]at a;cases a;exact .inl (h F H x y d e z Q s j i b q)
 | none=>rw[b]at a;exact .inr (k F H x y d e z Q s j i a q)
def zpj:xE
 | .tup a,.tup b=>if lim (a.length+b.length)=true then some (.tup (a++b))else none
 | _,_=>none
def zob:D->D->Option zg
 | .lst a,.lst b=>if lim (a.length+b.length)=true then some (a++b)else none
 | _,_=>none
def zgg (d e:D):Option D:=(zob d e).map .lst
def zor:xE
 | .str a,.str b=>if lim (a.length+b.length)=true then some (.str (a++b))else none
 | _,_=>none
def ziH:OpD (zkP K) zpj:=by
 intro F H x y d e z Q s t l a q
 cases d <;> try cases a
 cases e <;> try cases a
 unfold zpj at a
 dsimp only at a
 split at a <;> cases a
 rename_i j
 obtain⟨p,i,rfl,f,b⟩:=t.tup_inv
 obtain⟨m,c,rfl,h,bl⟩:=l.tup_inv
 refine⟨p,m,i,c,rfl,rfl,SqT.of (s _ _ f),SqT.of (s _ _ h),by rw[b.length,bl.length];exact k8 j,λk=>?_,λ_ n=>?_,λ_ _ r o=>?_⟩
 .subst k
  have:(_:zg)=[]:=u0s.mp b.length.symm
  subst this
  exact q F H _ (.refl s) (.tup h bl)
 .subst n
  have:(_:zg)=[]:=u0s.mp bl.length.symm
  subst this
  rw[o5]at q
  exact q F H _ (.refl s) (.tup f b)
 .have g:=Gr.alloc s o (.tup (i++c))
  exact q _ _ _ g (.tup zd ((b.append bl).mono g.ff))
def zir:OpD zqs zgg:=by
 intro F H x y d e z Q s n k a q
 cases d <;> try cases a
 cases e <;> try cases a
 unfold zgg zob at a
 dsimp only at a
 split at a <;> cases a
 rename_i h
 obtain⟨p,c,rfl,i,f⟩:=n.lst_inv
 obtain⟨l,b,rfl,j,bl⟩:=k.lst_inv
 refine⟨p,l,c,b,rfl,rfl,s _ _ i,s _ _ j,by rw[f.length,bl.length];exact k8 h,λr m=>?_⟩
 have g:=Gr.alloc s m (.lst (c++b))
 exact q _ _ _ g (.lst zd ((f.append bl).mono g.ff))
def zjV:OpD (λx y H Q=>∃ i j,x=.str i/\y=.str j/\i.length+j.length<=sizeLine/\Q (.str (i++j)) H) zor:=by
 intro F H x y d e z Q s f c a q
 cases d <;> try cases a
 cases e <;> try cases a
 unfold zor at a
 dsimp only at a
 split at a <;> cases a
 rename_i b
 exact⟨_,_,f.str_inv,c.str_inv,k8 b,q F H _ (.refl s) .str⟩
def wt:xE
 | .int i,.int j=>some (.int (i+j))
 | .tup a,.tup b=>if lim (a.length+b.length)=true then some (.tup (a++b))else none
 | .lst a,.lst b=>if lim (a.length+b.length)=true then some (.lst (a++b))else none
 | .str a,.str b=>if lim (a.length+b.length)=true then some (.str (a++b))else none
 | _,_=>none
def zbY {g a:xE}(h:OpD r g)(k:∀ d e z,a d e=some z->g d e=some z):OpD r a:=λF H x y d e z Q s c b f q=>h F H x y d e z Q s c b (k d e z f) q
def wX {f:zJ}(l:ED X a f)(k:ED X b h):ED X (.BinOp a .Add b pos) (zn wt f h) :=
 VE (((znK.or zi1).or zdG).or zeb) (zbY (zbv (zbv (zbv (zbK (g:=λi j=>i+j)) ziH) zir) zjV) λd e z h=>by
  cases d <;> try cases h
  all_goals cases e <;> try cases h
  .rfl
  .unfold wt at h;dsimp only at h;split at h <;> cases h;rename_i c;simp[Yx,zpj,c,zgg,zob,zor]
  .unfold wt at h;dsimp only at h;split at h <;> cases h;rename_i c;simp[Yx,zpj,c,zgg,zob,zor]
  .unfold wt at h;dsimp only at h;split at h <;> cases h;rename_i c;simp[Yx,zpj,c,zgg,zob,zor]) l k
def zb2 {H H1:Hp}{p:Addr}(b:Gr F H F1 H1)(a:H1 p=none):H p=none:=by
 cases e:H p with
 | none=>rfl
 | some o =>
  cases c:F p with
  | none=>rw[(b.kp p o c e).2]at a;cases a
  | some u=>rw[b.fh _ _ (b.ff _ _ c)]at a;cases a
def WV (i j:Int):Bool:=decide ((-(2^64)<i/\i<2^64)\/(-(2^64)<j/\j<2^64))
def zqo:D->D->Option zg
 | .lst a,.int k=>if -(2^63)<=k/\k<2^63/\lim (a.length*k.toNat)=true then some (List.replicate k.toNat a).flatten else none
 | _,_=>none
def zkb (d e:D):Option D:=(zqo d e).map .lst
def ZJ:xE
 | .int i,.int j=>if WV i j=true then some (.int (i*j))else none
 | .lst a,.int k=>if -(2^63)<=k/\k<2^63/\lim (a.length*k.toNat)=true then some (.lst (List.replicate k.toNat a).flatten)else none
 | _,_=>none
def zik:OpD rRep zkb:=by
 intro F H x y d e z Q s l i a q
 cases d <;> try cases a
 cases e <;> try cases a
 unfold zkb zqo at a
 dsimp only at a
 split at a <;> cases a
 rename_i b
 obtain⟨p,c,rfl,h,f⟩:=l.lst_inv
 refine⟨p,_,c,rfl,i.int_inv,s _ _ h,b.1,b.2.1,by rw[f.length];exact k8 b.2.2,λr j=>?_⟩
 rename_i m k
 have g:=Gr.alloc s j (.lst (List.replicate k.toNat c).flatten)
 exact q _ _ _ g (.lst zd ((f.rep _).mono g.ff))
def zoY {f:zJ}(l:ED X a f)(k:ED X b h):ED X (.BinOp a .Mult b pos) (zn ZJ f h) :=
 VE (zpc.or zov) (zbY (zbv (VT (Cb:=WV) (g:=λi j=>i*j) λi j h=>by have m:=k8 (show decide ((-(2^64)<i/\i<2^64)\/(-(2^64)<j/\j<2^64))=true from h);exact m) zik) λd e z h=>by
  cases d <;> try cases h
  all_goals cases e <;> try cases h
  .unfold ZJ at h;dsimp only at h;split at h <;> cases h;rename_i c;simp[za1,c]
  .unfold ZJ at h;dsimp only at h;split at h <;> cases h;rename_i c;show(zkb _ _)=_;unfold zkb zqo;dsimp only;rw[t9 c];rfl) l k
def zaK:=Yx λi j=>i-j
def Ya:=za1 (λ_ j=>decide (0<j/\j<1606938044258990275541962092341162602522202993782792835301376)) λi j=>i/j
def Zh:=za1 (λ_ j=>decide (0<j)) λi j=>i%j
def znS {f:zJ}(d:ED X a f)(c:ED X b h):ED X (.BinOp a .Sub b pos) (zn zaK f h):=VE zn0 zbK d c
def zjC:OpR X (binaryOp .FloorDiv) (rI (λ_ j=>0<j/\j<1606938044258990275541962092341162602522202993782792835301376) λi j=>.int (i/j)):=opI λi j _ _ _ _ _ a q=>by
 have d:(0:Int)<j:=a.1
 have c:j<1606938044258990275541962092341162602522202993782792835301376:=a.2
 refine PyProof.Rows.floordiv_int (by omega) (by rw[Int.fdiv_eq_ediv_of_nonneg i (by omega)];exact q) (.inl (PyProof.noPylong_of_log2 ?_))
 have h0:j.natAbs≠0:=by omega
 have b:j.natAbs<1606938044258990275541962092341162602522202993782792835301376:=by omega
 have e:j.natAbs.log2<200:=(Nat.log2_lt h0).mpr b
 omega
def zcc {f:zJ}(d:ED X a f)(c:ED X b h):ED X (.BinOp a .FloorDiv b pos) (zn Ya f h):=VE zjC (VT λ_ _ h=>by have e:=k8 h;exact e) d c
def zaP {f:zJ}(d:ED X a f)(c:ED X b h):ED X (.BinOp a .Mod b pos) (zn Zh f h):=VE zn4 (VT λ_ _ h=>by have e:=k8 h;exact e) d c
def ltD:=zbe λi j=>decide (i<j)
def leD:=zbe λi j=>decide (i<=j)
def gtD:=zbe λi j=>decide (j<i)
def geD:=zbe λi j=>decide (j<=i)
def eqS:D->D->Option Bool
 | .non,.non=>some true
 | .int i,.int j=>some (decide (i=j))
 | .bl i,.bl j=>some (decide (i=j))
 | .str i,.str j=>some (decide (i=j))
 | .non,.int _=>some false | .int _,.non=>some false | .non,.bl _=>some false | .bl _,.non=>some false | .non,.str _=>some false | .str _,.non=>some false
 | .int _,.str _=>some false | .str _,.int _=>some false | .bl _,.str _=>some false | .str _,.bl _=>some false
 | _,_=>none
def eqD (d e:D):Option D:=(eqS d e).map .bl
def neD (d e:D):Option D:=(eqS d e).map λc=>.bl (!c)
def zkf:OpD rEq eqD:=by
 intro F H x y d e z Q s a b g q
 obtain⟨c,f,rfl⟩:=u9.mp g
 cases d <;> cases e <;> try cases f
 .cases a.non_inv;cases b.non_inv;exact⟨rfl,q F H _ (.refl s) .bl⟩
 .cases a.non_inv;cases b.bl_inv;exact⟨rfl,q F H _ (.refl s) .bl⟩
 .cases a.non_inv;cases b.int_inv;exact⟨rfl,q F H _ (.refl s) .bl⟩
 .cases a.non_inv;cases b.str_inv;exact⟨rfl,q F H _ (.refl s) .bl⟩
 .cases a.bl_inv;cases b.non_inv;exact⟨rfl,q F H _ (.refl s) .bl⟩
 .cases a.bl_inv;cases b.bl_inv;refine⟨rfl,?_⟩;rw[show ∀ i j:Bool,decide (V.bl i=V.bl j)=decide (i=j)from λi j=>by simp];exact q F H _ (.refl s) .bl
 .cases a.bl_inv;cases b.str_inv;exact⟨rfl,q F H _ (.refl s) .bl⟩
 .cases a.int_inv;cases b.non_inv;exact⟨rfl,q F H _ (.refl s) .bl⟩
 .cases a.int_inv;cases b.int_inv;refine⟨rfl,?_⟩;rw[show ∀ i j:Int,decide (V.int i=V.int j)=decide (i=j)from λi j=>by simp];exact q F H _ (.refl s) .bl
 .cases a.int_inv;cases b.str_inv;exact⟨rfl,q F H _ (.refl s) .bl⟩
 .cases a.str_inv;cases b.non_inv;exact⟨rfl,q F H _ (.refl s) .bl⟩
 .cases a.str_inv;cases b.bl_inv;exact⟨rfl,q F H _ (.refl s) .bl⟩
 .cases a.str_inv;cases b.int_inv;exact⟨rfl,q F H _ (.refl s) .bl⟩
 .cases a.str_inv;cases b.str_inv;refine⟨rfl,?_⟩;rw[show ∀ i j:Str,decide (V.str i=V.str j)=decide (i=j)from λi j=>by simp];exact q F H _ (.refl s) .bl
def zc7:OpD rNe neD:=by
 intro F H x y d e z Q s k f l q
 obtain⟨c,i,rfl⟩:=u9.mp l
 have:=zkf F H x y d e (.bl c) (λv H'=>∃ b,v=.bl b/\Q (.bl (!b)) H') s k f (by unfold eqD;rw[i];rfl) λF' H' v g h=>⟨c,h.bl_inv,q F' H' _ g .bl⟩
 obtain⟨m,b,j,a⟩:=this
 cases j
 exact⟨m,a⟩
def zeJ:xE
 | d,.non=>some (.bl (match d with | .non=>true | _=>false))
 | .bl a,.bl b=>some (.bl (a == b))
 | _,_=>none
def xq:xE
 | d,.non=>some (.bl (match d with | .non=>false | _=>true))
 | .bl a,.bl b=>some (.bl (!(a == b)))
 | _,_=>none
def zmE {d:D}(h:At F d x):decide (x=V.non)=(match d with | .non=>true | _=>false):=by
 cases d with
 | non=>cases h.non_inv;rfl
 | bl b=>cases h.bl_inv;rfl
 | int b=>cases h.int_inv;rfl
 | str b=>cases h.str_inv;rfl
 | tup e=>obtain⟨a,c,rfl,_⟩:=h.tup_inv;rfl
 | lst e=>obtain⟨a,c,rfl,_⟩:=h.lst_inv;rfl
 | scr e=>obtain⟨a,rfl,_⟩:=h.scr_inv;rfl
 | dct z t f i=>obtain⟨a,c,rfl,_⟩:=h.dct_inv;rfl
 | obj w d g=>obtain⟨p,j,q,k,l,c,rfl,_⟩:=h.obj_inv;rfl
def zd5:OpD (λx y H Q=>(y=.non/\Q (.bl (!decide (x=.non))) H)\/∃ i j,x=.bl i/\y=.bl j/\Q (.bl (!(i == j))) H) xq:=by
 intro F H x y d e z Q s c b a q
 unfold xq at a
 split at a
 .cases a
  refine .inl ⟨b.non_inv,?_⟩
  rw[zmE c]
  have:=q F H _ (.refl s) .bl
  cases d <;> exact this
 .cases a
  exact .inr ⟨_,_,c.bl_inv,b.bl_inv,q F H _ (.refl s) .bl⟩
 .cases a
def zeO:OpR X (compareOp .IsNot) (λx y H Q=>(y=.non/\Q (.bl (!decide (x=.non))) H)\/∃ i j,x=.bl i/\y=.bl j/\Q (.bl (!(i == j))) H):=zlm.or zb8
def wo (g a:xE)(f h k:zJ):zJ:=fun ρ=>(f ρ).bind λx=>(h ρ).bind λy=>((g x y).bind asB).bind λc=>if c=true then (k ρ).bind λz=>a y z else some (.bl false)
def zdK {g:xE}{p t:TE}{f k:zJ}(G:OpD r g)(d:OpD o B)(U:RE p f)(P:RE C h)(I:RE t k):RE (za6 r o p C t) (wo g B f h k):=by
 intro σ ρ F H z Q s l e q
 obtain⟨x,V,e⟩:=u4.mp e
 obtain⟨y,N,e⟩:=u4.mp e
 obtain⟨c,m,e⟩:=u4.mp e
 obtain⟨Y,m,L⟩:=u4.mp m
 cases XO L
 refine U σ ρ F H x _ s l V λF1 H1 v b J=>?_
 refine P σ ρ F1 H1 y _ b.fh (l.mono b.ff) N λF2 H2 u j A=>?_
 refine G F2 H2 v u x y _ _ j.fh (J.mono j.ff) A m λF3 H3 w i S=>⟨c,S.bl_inv,?_⟩
 have a:=(b.trans j).trans i
 cases c with
 | true =>
  rw[t9 rfl]at e ⊢
  obtain⟨E,O,T⟩:=u4.mp e
  refine I σ ρ F3 H3 E _ i.fh (l.mono a.ff) O λF4 H4 R n M=>?_
  exact d F4 H4 u R y E z Q n.fh (A.mono (i.ff.trans n.ff)) M T λF5 H5 W K X=>q F5 H5 W ((a.trans n).trans K) X
 | false =>
  rw[j5 u7]at e ⊢
  cases e
  exact q F3 H3 _ a .bl
def zjg {d:CmpOp}{g:xE}{f k:zJ}(w:OpR X (compareOp l) r)(u:OpR X (compareOp d) i)(q:OpD r g)(j:OpD i m)(t:ED X a f)(s:ED X b h)(v:ED X c k)(e:∀ {n o p:TE},PE X a n->PE X b o->PE X c p->PE X (.Compare a [l,d] [b,c] pos) (za6 r i n o p)):ED X (.Compare a [l,d] [b,c] pos) (wo g m f h k) :=
 let ⟨_,pa,ra⟩:=t
 let ⟨_,pb,rb⟩:=s
 let ⟨_,pc,rc⟩:=v
 ⟨_,e pa pb pc,zdK q j ra rb rc⟩
def zja {d:CmpOp}{g:xE}{f k:zJ}(w:OpR X (compareOp l) r)(u:OpR X (compareOp d) i)(q:OpD r g)(j:OpD i m)(t:ED X a f)(s:ED X b h)(v:ED X c k)(e:∀ {n o p:TE},PE X a n->PE X b o->PE X c p->PT X (.Compare a [l,d] [b,c] pos) (zew (za6 r i n o p))):TD X (.Compare a [l,d] [b,c] pos) (tOf (wo g m f h k)) :=
 let ⟨_,pa,ra⟩:=t
 let ⟨_,pb,rb⟩:=s
 let ⟨_,pc,rc⟩:=v
 ⟨_,e pa pb pc,zjH (zdK q j ra rb rc)⟩
def zdp:zg->Option zy
 | []=>some []
 | .int b::ds=>(zdp ds).map (b::·)
 | _=>none
omit [KK] in
def WA:∀ {b:zg} {a:zy},zdp b=some a->b=a.map .int
 | [],a,h=>by cases h;rfl
 | d::b,a,h=>by
  cases d <;> try cases h
  obtain⟨e,c,rfl⟩:=u9.mp h
  rw[WA c]
  rfl
def leT:xE
 | .tup a,.tup b=>(zdp a).bind λns=>(zdp b).map λc=>.bl (HT.lexLe ns c)
 | _,_=>none
def zmo:OpD (rLeT K) leT:=by
 intro F H x y d e z Q s c b a q
 cases d <;> try cases a
 cases e <;> try cases a
 obtain⟨ns,i,l⟩:=u4.mp a
 obtain⟨g,j,rfl⟩:=u9.mp l
 rw[WA i]at c
 rw[WA j]at b
 obtain⟨p,o,rfl,f,m⟩:=c.tup_inv
 obtain⟨k,n,rfl,h,bl⟩:=b.tup_inv
 cases m.of_ints
 cases bl.of_ints
 exact⟨p,k,ns,g,rfl,rfl,SqT.of (s _ _ f),SqT.of (s _ _ h),q F H _ (.refl s) .bl⟩
def ixD:xE
 | .lst ds,.int i=>atI ds i
 | .tup ds,.int i=>atI ds i
 | .scr ns,.int i=>(atI ns i).map .int
 | _,_=>none
def AtL.atI {c:zg}{a:zw}{d:D}(b:AtL F c a)(h:L2.atI c i=some d):∃ x,L2.atI a i=some x/\At F d x:=by
 unfold L2.atI at h ⊢
 obtain⟨j,k,f⟩:=u4.mp h
 obtain⟨x,g,e⟩:=b.get f
 exact⟨x,by rw[b.length,k];exact g,e⟩
def zpx:OpD (rIx KK.K) ixD:=by
 intro F H x y d e z Q s g k c q
 cases e <;> try (cases d <;> cases c)
 cases k.int_inv
 cases d with
 | lst o =>
  obtain⟨p,h,rfl,b,i⟩:=g.lst_inv
  obtain⟨v,a,f⟩:=i.atI c
  exact .inl ⟨p,h,_,v,rfl,rfl,SqL.of (s _ _ b),a,q F H _ (.refl s) f⟩
 | tup o =>
  obtain⟨p,h,rfl,b,i⟩:=g.tup_inv
  obtain⟨v,a,f⟩:=i.atI c
  exact .inr (.inl ⟨p,h,_,v,rfl,rfl,SqT.of (s _ _ b),a,q F H _ (.refl s) f⟩)
 | scr ns =>
  obtain⟨p,rfl,b⟩:=g.scr_inv
  obtain⟨n,a,rfl⟩:=u9.mp c
  refine .inl ⟨p,ns.map V.int,_,.int n,rfl,rfl,s.seq b,?_,q F H _ (.refl s) .int⟩
  unfold L2.atI at a ⊢
  rw[t4]
  obtain⟨j,m,l⟩:=u4.mp a
  rw[m]
  show(ns.map V.int)[j]?=_
  rw[r8,l]
  rfl
 | _=>cases c
def z5 {f:zJ}(e:ED X a f)(d:ED X b h)(c:Y9 b)(g:X.K=KK.K:=by rfl):ED X (.Subscript a b pos) (zn ixD f h) :=
 let ⟨_,pa,ra⟩:=e
 let ⟨_,pb,rb⟩:=d
 ⟨_,zbR znp pa pb c,zfj (by rw[g];exact zpx) ra rb⟩
def X7 {α:Type}(a:List α)(b c:yx):List α:=(a.drop (HT.sIx a.length 0 b)).take (HT.sIx a.length a.length c-HT.sIx a.length 0 b)
def AtL.cut {a:zw}(b:AtL F ds a):AtL F (X7 ds lo hi) (zcw a lo hi):=by
 unfold X7 zcw
 rw[b.length]
 exact(b.drop _).take _
def OD (X:Cx)(e:Option Expr)(f:Ev->Option yx):Prop:=∃ t,PO X e t/\∀ (σ:St) (ρ:Ev) (F H:Hp) (i:yx) (Q:yx->Hp->Prop),zN F H->VAt F ρ σ->f ρ=some i->(∀ F' H',Gr F H F' H'->Q i H')->t σ H Q
def vk:Ev->Option yx:=λ_=>some none
def asI:D->yx
 | .int i=>some i
 | _=>none
def wL (f:zJ):Ev->Option yx:=fun ρ=>((f ρ).bind asI).map some
def V0:OD X none vk:=⟨_,zlz,λ_ _ _ _ _ _ s _ e q=>by cases e;exact q _ _ (.refl s)⟩
def V4 {f:zJ}(h:ED X e f):OD X (some e) (wL f):=by
 obtain⟨t,p,r⟩:=h
 refine⟨_,zl8 p,fun σ ρ F H i Q s g e q=>?_⟩
 obtain⟨j,a,rfl⟩:=u9.mp e
 obtain⟨d,a,k⟩:=u4.mp a
 cases d <;> cases k
 exact r σ ρ F H _ _ s g a λF1 H1 v c b=>⟨_,b.int_inv,q F1 H1 c⟩
def slD:D->yx->yx->Option D
 | .lst ds,lo,hi=>some (.lst (X7 ds lo hi))
 | .scr ns,lo,hi=>some (.lst ((X7 ns lo hi).map .int))
 | .tup ds,lo,hi=>some (.tup (X7 ds lo hi))
 | _,_,_=>none
def eSl (g:D->yx->yx->Option D)(f:zJ)(l h:Ev->Option yx):zJ:=fun ρ=>(f ρ).bind λd=>(l ρ).bind λb=>(h ρ).bind λa=>g d b a
omit [KK] in
def ziL {ns:zy}{a b:yx}:zcw (ns.map V.int) a b=(X7 ns a b).map V.int:=by
 unfold zcw X7
 rw[t4,List.map_take,List.map_drop]
end
end Dl
namespace L2
open PySem PySem.Spec PyProof.Rows
def rSlN:V->yx->yx->Hp->VK->Prop:=λx d c H Q=>∃ a b,x=.ref a/\H a=some (.tup b)/\(zcw b d c=b->Q (.ref a) H)/\∀ p,H p=none->Q (.ref p) (upd H p (.tup (zcw b d c)))
def zl5:SlR X rSlN:=by
 intro d s σ H x v n q m l t Q I g f pl j h
 obtain⟨a,b,rfl,i,o,p⟩:=h
 by_cases hw:HT.sIx b.length 0 m=0/\HT.sIx b.length b.length l=b.length
 .cases g
  obtain⟨e,r,k,u⟩:=I.tuple (SqT.of i)
  have c:e.toArray.size=b.length:=by rw[t7];exact r.length.symm
  refine⟨"tuple",_,m9.lookup,k.typeIs,?_⟩
  refine HT.own_getItem_whole k f pl j (by rw[c];exact hw) ⟨.ref a,H,I,rfl,o ?_⟩
  unfold zcw
  rw[hw.1,hw.2,List.drop_zero,Nat.sub_zero,u06]
 .exact zpE d s σ H (.ref a) v n q m l t Q I g f pl j ⟨a,b,rfl,SqT.of i,hw,p⟩
end L2
namespace Dl
open PySem L2
variable [KK]
section
variable {X:Cx}{a b c e:Expr}{pos:Pos}
def XW {w:Option Expr}{N:Pos}{f:zJ}(I:ED X a f)(E:OD X w l)(O:OD X A h)(T:X.K=KK.K:=by rfl):ED X (.Subscript a (.Slice w A none N) pos) (eSl slD f l h):=by
 obtain⟨W,R,P⟩:=I
 obtain⟨Y,B,K⟩:=E
 obtain⟨Z,L,S⟩:=O
 refine⟨_,zig (zmr.or zl5) R B L,fun σ ρ F H z Q s y e q=>?_⟩
 obtain⟨d,C,e⟩:=u4.mp e
 obtain⟨i,J,e⟩:=u4.mp e
 obtain⟨j,U,e⟩:=u4.mp e
 refine P σ ρ F H d _ s y C λF1 H1 v o G=>?_
 refine K σ ρ F1 H1 i _ o.fh (y.mono o.ff) J λF2 H2 t=>?_
 refine S σ ρ F2 H2 j _ t.fh (y.mono (o.ff.trans t.ff)) U λF3 H3 c=>?_
 have b:=(o.trans t).trans c
 have x:=G.mono (t.ff.trans c.ff)
 cases d <;> try cases e
 .obtain⟨p,m,rfl,k,u⟩:=x.tup_inv
  refine .inr ⟨p,m,rfl,c.fh _ _ k,λM=>?_,λr n=>?_⟩
  .have:=u.cut (lo:=i) (hi:=j)
   rw[M]at this
   exact q F3 H3 _ b (.tup k this)
  .have g:=Gr.alloc c.fh n (.tup (zcw m i j))
   exact q _ _ _ (b.trans g) (.tup zd (u.cut.mono g.ff))
 .obtain⟨p,m,rfl,k,u⟩:=x.lst_inv
  refine .inl ⟨p,m,rfl,SqL.of (c.fh _ _ k),λr n=>?_⟩
  have g:=Gr.alloc c.fh n (.lst (zcw m i j))
  exact q _ _ _ (b.trans g) (.lst zd (u.cut.mono g.ff))
 .rename_i ns _ _
  obtain⟨p,rfl,k⟩:=x.scr_inv
  refine .inl ⟨p,_,rfl,(by rw[T];exact c.fh.seq k),λr n=>?_⟩
  rw[ziL]
  have g:=Gr.alloc c.fh n (.lst ((X7 ns i j).map V.int))
  exact q _ _ _ (b.trans g) (.lst zd (.ints _))
def CaD (r:zd8)(g:xW):Prop:=∀ (F H:Hp) (a:zw) (b:zg) (z:D) (Q:VK),zN F H->AtL F b a->g b=some z->(∀ F' H' v,Gr F H F' H'->At F' z v->Q v H')->r a H Q
def eFn (g:xW)(f:yB):zJ:=fun ρ=>(f ρ).bind g
def fFn (g:zi9)(f:yB):yB:=fun ρ=>(f ρ).bind g
def xg {x:Str}{id:String}{p:Pos}{a:yX}{r:zd8}{g:xW}{f:yB}(G:Yh X (.builtin id) r)(j:CaD r g)(d:Gl X x)(I:X.mg x=none)(o:bootBuiltins x=some (.builtin id))(m:AD X (e::a) f)
 (l:x≠"__name__":=by decide) (b:(x == ("__debug__":Str))=false:=by decide) (E:starEach (e::a) X.env=(false,eval e X.env)::starEach a X.env:=by rfl) (c:(backTo pos (starEach a X.env)).any (·.1)=false:=by rfl) :
 ED X (.Call (.Name x p) (e::a) [] pos) (eFn g f):=by
 obtain⟨t,w,u⟩:=m
 refine⟨_,yw G d I o w l b E c,fun σ ρ F H z Q s A e q=>?_⟩
 obtain⟨i,C,n⟩:=u4.mp e
 refine u σ ρ F H i _ s A C λF1 H1 y h k=>?_
 exact j F1 H1 y i z Q h.fh k n λF' H' v g B=>q F' H' v (h.trans g) B
def Yu {p:Pos} {a:yX} {g:xW} {f:yB} (G:Yh X (.type T) r) (j:CaD r g) (d:Gl X x) (I:X.mg x=none) (o:bootBuiltins x=some (.type T)) (m:AD X (e::a) f) (l:x≠"__name__":=by decide) (b:(x == ("__debug__":Str))=false:=by decide) (E:starEach (e::a) X.env=(false,eval e X.env)::starEach a X.env:=by rfl) (c:(backTo pos (starEach a X.env)).any (·.1)=false:=by rfl) :
 ED X (.Call (.Name x p) (e::a) [] pos) (eFn g f):=by
 obtain⟨t,w,u⟩:=m
 refine⟨_,zaR G d I o w l b E c,fun σ ρ F H z Q s A e q=>?_⟩
 obtain⟨i,C,n⟩:=u4.mp e
 refine u σ ρ F H i _ s A C λF1 H1 y h k=>?_
 exact j F1 H1 y i z Q h.fh k n λF' H' v g B=>q F' H' v (h.trans g) B
def XQ:xW
 | [.lst ds]=>some (.int ds.length)
 | [.tup ds]=>some (.int ds.length)
 | [.scr ds]=>some (.int ds.length)
 | _=>none
def ZO:CaD (λb H Q=>∃ p c,b=[.ref p]/\(SqL KK.K H p c\/SqT KK.K H p c)/\Q (.int c.length) H) XQ:=by
 intro F H h i z Q s g e q
 unfold XQ at e
 split at e <;> cases e
 all_goals
  obtain⟨x,r,rfl,d,f⟩:=g.cons_inv
  cases f.nil_inv
 .obtain⟨p,b,rfl,a,bl⟩:=d.lst_inv
  exact⟨p,b,rfl,.inl (SqL.of (s _ _ a)),by rw[bl.length];exact q F H _ (.refl s) .int⟩
 .obtain⟨p,b,rfl,a,bl⟩:=d.tup_inv
  exact⟨p,b,rfl,.inr (SqT.of (s _ _ a)),by rw[bl.length];exact q F H _ (.refl s) .int⟩
 .obtain⟨p,rfl,a⟩:=d.scr_inv
  exact⟨p,_,rfl,.inl ((s.seq a)),by rw[t4];exact q F H _ (.refl s) .int⟩
def znM:xW
 | [.int i,.int j]=>some (.int (if j>i then j else i))
 | _=>none
def znC:xW
 | [.int i,.int j]=>some (.int (if j<i then j else i))
 | _=>none
def zdB {g:Int->Int->Int}:CaD (λf H Q=>∃ i j,f=[.int i,.int j]/\Q (.int (g i j)) H) (λb=>match b with | [.int i,.int j]=>some (.int (g i j)) | _=>none):=by
 intro F H k b z Q s h e q
 dsimp only at e
 split at e <;> cases e
 obtain⟨x,r,rfl,d,a⟩:=h.cons_inv
 obtain⟨y,r,rfl,c,a⟩:=a.cons_inv
 cases a.nil_inv
 exact⟨_,_,by rw[d.int_inv,c.int_inv],q F H _ (.refl s) .int⟩
def zi6:CaD (λa H Q=>∃ i j,a=[.int i,.int j]/\Q (.int (if j>i then j else i)) H) znM:=zdB (g:=λi j=>if j>i then j else i)
def ziD:CaD (λa H Q=>∃ i j,a=[.int i,.int j]/\Q (.int (if j<i then j else i)) H) znC:=zdB (g:=λi j=>if j<i then j else i)
def xH:xW
 | [.lst ds]=>some (.tup ds)
 | [.tup ds]=>some (.tup ds)
 | _=>none
def zhY:CaD (λa H Q=>∃ p c,a=[.ref p]/\((SqL K H p c/\∀ l,H l=none->Q (.ref l) (upd H l (.tup c)))\/(SqT K H p c/\Q (.ref p) H))) xH:=by
 intro F H j k z Q s i e q
 unfold xH at e
 split at e <;> cases e
 all_goals
  obtain⟨x,r,rfl,d,f⟩:=i.cons_inv
  cases f.nil_inv
 .obtain⟨p,a,rfl,b,bl⟩:=d.lst_inv
  refine⟨p,a,rfl,.inl ⟨SqL.of (s _ _ b),λl h=>?_⟩⟩
  have g:=Gr.alloc s h (.tup a)
  exact q _ _ _ g (.tup zd (bl.mono g.ff))
 .obtain⟨p,a,rfl,b,bl⟩:=d.tup_inv
  exact⟨p,a,rfl,.inr ⟨SqT.of (s _ _ b),q F H _ (.refl s) (.tup b bl)⟩⟩
def v8:zi9
 | [.lst ds]=>some ds
 | [.tup ds]=>some ds
 | [.scr ns]=>some (ns.map .int)
 | _=>none
def zlw {p:Pos} {f:yB} (j:Gl X "list") (C:X.mg "list"=none) (m:AD X [e] f) (w:X.K=KK.K:=by rfl)
 (B:starEach [e] X.env=(false,eval e X.env)::starEach [] X.env:=by rfl) (i:(backTo pos (starEach [] X.env)).any (·.1)=false:=by rfl):FL X (.Call (.Name "list" p) [e] [] pos) (fFn v8 f):=by
 obtain⟨t,v,u⟩:=m
 refine⟨_,zaR zbB j C zfx v (by decide) (by decide) B i,fun σ ρ F H z Q s y e q=>?_⟩
 obtain⟨n,A,g⟩:=u4.mp e
 refine u σ ρ F H n _ s y A λF1 H1 E a k=>?_
 unfold v8 at g
 split at g <;> cases g
 all_goals
  obtain⟨x,r,rfl,d,o⟩:=k.cons_inv
  cases o.nil_inv
 .obtain⟨p,h,rfl,c,bl⟩:=d.lst_inv
  exact⟨p,h,rfl,.inl (SqL.of (a.fh _ _ c)),λl b=>q _ _ _ _ (a.trans (Gr.hide a.fh b _)) (zb2 a b) (a.fh.free b) zd bl⟩
 .obtain⟨p,h,rfl,c,bl⟩:=d.tup_inv
  exact⟨p,h,rfl,.inr (SqT.of (a.fh _ _ c)),λl b=>q _ _ _ _ (a.trans (Gr.hide a.fh b _)) (zb2 a b) (a.fh.free b) zd bl⟩
 .obtain⟨p,rfl,c⟩:=d.scr_inv
  exact⟨p,_,rfl,.inl (by rw[w];exact a.fh.seq c),λl b=>q _ _ _ _ (a.trans (Gr.hide a.fh b _)) (zb2 a b) (a.fh.free b) zd (.ints _)⟩
inductive TyD (K:zu) (H:Hp):V->Value->Prop where
 | of {v:V} {t:Value} (h:zdI K H v t):TyD K H v t
 | dd {a:Addr} {u:HO} (h:Rd H a u) (d:(∃ kvs,u=.dK kvs)\/∃ kvs,u=.dT kvs):TyD K H (.ref a) (.type "dict")
def za2 {X:Cx}:Yh X (.builtin "isinstance") (λg H Q=>∃ x n t b,g=[x,.ty n]/\TyD X.K H x t/\W.kitOne X.K t (.type n)=some b/\Q (.bl b) H):=by
 intro f s σ H g v Q I r h
 obtain⟨x,n,t,b,rfl,ty,e,q⟩:=h
 cases ty with
 | of ty=>exact zcF f s σ H _ v Q I r ⟨x,n,t,b,rfl,ty,e,q⟩
 | @dd a u h d =>
  cases r with
  | cons y w =>
   cases w with
   | cons B l =>
    cases l
    cases y
    cases B
    have ok:=h.ok I.hok
    rcases d with ⟨c,rfl⟩ | ⟨c,rfl⟩
    .obtain⟨_,_,C,_,p⟩:=(show yK X.prog X.w H s.heap a (.dK c)from ok)
     obtain⟨o,A,m,i,k,_⟩:=p
     exact l6 u1y I.kIn ⟨o,i,k.1⟩ e (λz=>nomatch z) λj=>⟨.bl b,H,I.tok j,rfl,q⟩
    .obtain⟨_,_,g,_,o,A,m,i,k,_⟩:=(show yK X.prog X.w H s.heap a (.dT c)from ok)
     exact l6 u1y I.kIn ⟨o,i,k.1⟩ e (λz=>nomatch z) λj=>⟨.bl b,H,I.tok j,rfl,q⟩
def At.ty (s:zN F H):∀ {d:D} {v:V},At F d v->(∀ ns,d≠.scr ns)->(∀ w e g,d≠.obj w e g)->TyD K H v (.type (tyN d))
 | .non,_,h,_,_=>by cases h.non_inv;exact .of .non
 | .bl b,_,h,_,_=>by cases h.bl_inv;exact .of (.bl b)
 | .int i,_,h,_,_=>by cases h.int_inv;exact .of (.int i)
 | .str x,_,h,_,_=>by cases h.str_inv;exact .of (.str x)
 | .tup ds,_,h,_,_=>by obtain⟨a,j,rfl,e,_⟩:=h.tup_inv;exact .of (.tup (s _ _ e))
 | .lst ds,_,h,_,_=>by obtain⟨a,j,rfl,e,_⟩:=h.lst_inv;exact .of (.lst (s _ _ e))
 | .scr ns,_,_,n,_=>absurd rfl (n ns)
 | .obj w e g,_,_,_,n=>absurd rfl (n w e g)
 | .dct z t ks vs,_,h,_,_=>by
  obtain⟨a,j,rfl,d,_⟩:=h.dct_inv
  obtain⟨u,f,k⟩:=(d.mono s).rd
  exact .dd k (by
   unfold zcz at f
   split at f
   .obtain⟨c,rfl,_⟩:=f;exact .inr ⟨c,rfl⟩
   .obtain⟨c,rfl,_⟩:=f;exact .inl ⟨c,rfl⟩)
inductive Ty where
 | int | bool | tuple | list | str
def Ty.nm:Ty->String
 | .int=>"int" | .bool=>"bool" | .tuple=>"tuple" | .list=>"list" | .str=>"str"
def isT:Ty->D->Bool
 | .int,.int _=>true | .int,.bl _=>true
 | .bool,.bl _=>true
 | .tuple,.tup _=>true
 | .list,.lst _=>true
 | .str,.str _=>true
 | _,_=>false
def wv (n:Ty):D->Option D
 | .scr _=>none
 | .obj _ _ _=>none
 | d=>some (.bl (isT n d))
def zo1 (K:zu)(n:Ty)(d:D)(h:∀ ns,d≠.scr ns)(b:∀ w e a,d≠.obj w e a):W.kitOne K (.type (tyN d)) (.type n.nm)=some (isT n d):=by
 cases n <;> cases d <;> first | exact absurd rfl (h _) | exact absurd rfl (b _ _ _) | kernel_rfl
def Yp {p:Pos} {f:zJ} (n:Ty) (j:Gl X "isinstance") (E:X.mg "isinstance"=none) (r:ED X a f) (x:PE X b (tC (.ty n.nm)))
 (l:starEach [a,b] X.env=(false,eval a X.env)::starEach [b] X.env:=by rfl) (i:starEach [b] X.env=(false,eval b X.env)::starEach [] X.env:=by rfl) (g:(backTo pos (starEach [b] X.env)).any (·.1)=false:=by rfl) :
 ED X (.Call (.Name "isinstance" p) [a,b] [] pos) (eUn (wv n) f):=by
 obtain⟨t,y,u⟩:=r
 refine⟨_,yw za2 j E zF (zl y (zl x zU i) l) (by decide) (by decide) l g,fun σ ρ F H z Q s A e q=>?_⟩
 obtain⟨d,B,c⟩:=u4.mp e
 refine u σ ρ F H d _ s A B λF1 H1 v k o=>?_
 have ns:∀ ns,d≠.scr ns:=λns h=>by subst h;cases c
 have no:∀ w e m,d≠.obj w e m:=λw e m h=>by subst h;cases c
 have C:z=.bl (isT n d):=by
  cases d <;> first | exact(g4 c).symm | exact absurd rfl (ns _) | exact absurd rfl (no _ _ _)
 subst C
 exact⟨v,n.nm,_,_,rfl,o.ty k.fh ns no,zo1 _ n d ns no,q F1 H1 _ k .bl⟩
def zaC (m:Bool)(i:Nat)(f:zJ):zz:=fun ρ=>match (vEv m f ρ).bind λd=>match ρ[i]? with
 | some (.o ds)=>if decide (ds.length<sizeLine)=true then some (ρ.set i (.o (ds++[d])))else none
 | _=>none with
 | some a=>.nx a
 | none=>.no
def zoW {p b:Pos} {f:zJ} (I:PE X a (xz i)) (P:ED X e f) (C:∀ {A:TE} {t:TA},PE X a A->PA X [e] t->PE X (.Call (.Attribute a "append" p) [e] [] b) (tBM X.K "list" vE A t)) (z:swapsWith (.Call (.Attribute a "append" p) [e] [] b) none pos.line X.env=pure false:=by rfl) (j:starEach [e] X.env=(false,eval e X.env)::starEach [] X.env:=by rfl):SD X (.Expr (.Call (.Attribute a "append" p) [e] [] b) pos) (zaC m i f):=by
 obtain⟨t,G,K⟩:=P
 refine⟨_,vZ (C I (zl G zU j)) z,λFb Hb F H ρ σ E w k=>?_⟩
 unfold zaC at k
 cases h:(vEv m f ρ).bind λd=>match ρ[i]? with
  | some (.o n)=>if decide (n.length<sizeLine)=true then some (ρ.set i (.o (n++[d])))else none
  | _=>none with
 | none=>rw[h]at k;exact k.elim
 | some T =>
  rw[h]at k
  obtain⟨d,M,c⟩:=u4.mp h
  cases j:ρ[i]? with
  | none=>rw[j]at c;cases c
  | some L =>
   rw[j]at c
   cases L with
   | no=>cases c
   | v _=>cases c
   | m _ _ _=>cases c
   | k _ _ _=>cases c
   | o n =>
    dsimp only at c
    split at c <;> cases c
    rename_i B
    obtain⟨q,J,x,R,S,O,U⟩:=w.owns i n j
    refine⟨_,x,.inl ⟨rfl,J,SqL.of O⟩,?_⟩
    refine K.at w M λF' H' v g N=>?_
    have s:=w.grow g
    obtain⟨Q,u,r,_,_,y,l⟩:=s.owns i n j
    rw[x]at r
    cases r
    refine⟨q,u,v,rfl,rfl,y,by rw[l.length];exact k8 B,?_⟩
    exact k _ _ σ (s.mutate j x (l.snoc N))
def zbU (i:Nat)(f:zJ):zz:=fun ρ=>match (f (visF ρ)).bind λd=>match ρ[i]?,d with
 | some (.o ds),.lst es=>if lim (ds.length+es.length)=true then some (ρ.set i (.o (ds++es)))else none
 | _,_=>none with
 | some a=>.nx a
 | none=>.no
def zn7 {p c:Pos} {f:zJ} (J:PE X a (xz i)) (R:ED X e f) (G:∀ {B:TE} {t:TA},PE X a B->PA X [e] t->PE X (.Call (.Attribute a "extend" p) [e] [] c) (tBM X.K "list" zhC B t)) (A:swapsWith (.Call (.Attribute a "extend" p) [e] [] c) none pos.line X.env=pure false:=by rfl) (j:starEach [e] X.env=(false,eval e X.env)::starEach [] X.env:=by rfl):SD X (.Expr (.Call (.Attribute a "extend" p) [e] [] c) pos) (zbU i f):=by
 obtain⟨t,I,L⟩:=R
 refine⟨_,vZ (G J (zl I zU j)) A,λFb Hb F H ρ σ E u k=>?_⟩
 unfold zbU at k
 cases h:(f (visF ρ)).bind λd=>match ρ[i]?,d with
  | some (.o n),.lst y=>if lim (n.length+y.length)=true then some (ρ.set i (.o (n++y)))else none
  | _,_=>none with
 | none=>rw[h]at k;exact k.elim
 | some W =>
  rw[h]at k
  obtain⟨d,O,b⟩:=u4.mp h
  cases j:ρ[i]? with
  | none=>rw[j]at b;cases b
  | some M =>
   rw[j]at b
   cases M with
   | no=>cases b
   | v _=>cases b
   | m _ _ _=>cases b
   | k _ _ _=>cases b
   | o n =>
    cases d with
    | lst y =>
     dsimp only at b
     split at b <;> cases b
     rename_i C
     obtain⟨q,K,x,U,V,Q,Y⟩:=u.owns i n j
     refine⟨_,x,.inl ⟨rfl,K,SqL.of Q⟩,?_⟩
     refine L σ _ _ H _ _ u.gr.fh u.visF O λF' H' v g P=>?_
     have s:=u.grow g
     obtain⟨T,w,r,_,_,z,l⟩:=s.owns i n j
     rw[x]at r
     cases r
     obtain⟨N,zs,rfl,S,bl⟩:=P.lst_inv
     refine⟨q,N,w,zs,rfl,rfl,z,g.fh _ _ S,by rw[l.length,bl.length];exact k8 C,?_⟩
     exact k _ _ σ (s.mutate j x (l.append bl))
    | _=>cases b
end
end Dl
namespace Dl
open PySem L2
variable [KK]
def okE:Nat->D->Bool
 | _,.scr _=>false
 | _,.dct _ _ _ _=>false
 | _,.obj _ _ _=>false
 | 0,.tup _=>false
 | 0,.lst _=>false
 | n+1,.tup ds=>ds.all (okE n)
 | n+1,.lst ds=>ds.all (okE n)
 | _,_=>true
def eqN:Nat->D->D->Bool
 | _,.non,.non=>true
 | _,.bl a,.bl b=>a == b
 | _,.bl a,.int b=>(if a then 1 else 0) == b
 | _,.int a,.bl b=>a == (if b then 1 else 0)
 | _,.int a,.int b=>a == b
 | _,.str a,.str b=>a == b
 | n+1,.tup a,.tup b=>(List.zipWith (eqN n) a b).all id&&a.length == b.length
 | n+1,.lst a,.lst b=>(List.zipWith (eqN n) a b).all id&&a.length == b.length
 | _,_,_=>false
omit [KK] in
def zav:∀ (a b:zg),(List.zipWith (eqN n) a b).all id=(List.range (min a.length b.length)).all λj=>eqN n (a.getD j .non) (b.getD j .non):=by
 intro a b
 have:List.zipWith (eqN n) a b=(List.range (min a.length b.length)).map λj=>eqN n (a.getD j .non) (b.getD j .non):=by
  apply List.ext_getElem
  .simp
  .intro i c d
   simp at c d
   have f:i<a.length:=q7 c (Nat.min_le_left _ _)
   have e:i<b.length:=q7 c (Nat.min_le_right _ _)
   simp[f,e]
 rw[this,u1D]
 rfl
omit [KK] in
def vOf:D->V
 | .bl b=>.bl b
 | .int i=>.int i
 | .str t=>.str t
 | _=>.non
def wA {d:D}(h:okE 0 d=true)(a:At F d x):x=vOf d:=by
 cases d with
 | non=>exact a.non_inv
 | bl b=>exact a.bl_inv
 | int b=>exact a.int_inv
 | str b=>exact a.str_inv
 | _=>cases h
omit [KK] in
def XD {d:D}(h:okE 0 d=true):zm1 (vOf d)=true:=by
 cases d <;> first | rfl | cases h
omit [KK] in
def VW {d:D}{p:Addr}(h:okE 0 d=true)(e:vOf d=.ref p):False:=by
 cases d <;> first | (cases h;done) | (cases e;done)
def dOfV:V->D
 | .bl b=>.bl b
 | .int i=>.int i
 | .str t=>.str t
 | _=>.non
omit [KK] in
def zhR {d:D}(h:okE 0 d=true):dOfV (vOf d)=d:=by
 cases d <;> first | rfl | (cases h;done)
omit [KK] in
def zgf {d:D}(b:okE 0 d=true)(a:okE 0 e=true)(h:vOf d=vOf e):d=e:=by
 rw[<-zhR b,h,zhR a]
omit [KK] in
def ws {n:Nat}{d:D}(h:okE (n+1) d=true):okE 0 d=true\/(∃ a,d=.tup a/\a.all (okE n)=true)\/∃ a,d=.lst a/\a.all (okE n)=true:=by
 cases d with
 | tup a=>exact .inr (.inl ⟨a,rfl,h⟩)
 | lst a=>exact .inr (.inr ⟨a,rfl,h⟩)
 | scr _=>cases h
 | dct _ _ _ _=>cases h
 | obj _ _ _=>cases h
 | _=>exact .inl rfl
def zhB (k:∀ {d e:D} {v:V},okE n d=true->okE n e=true->At F d v->At F e v->d=e):∀ {c:zw} {a b:zg},a.all (okE n)=true->b.all (okE n)=true->AtL F a c->AtL F b c->a=b:=by
 intro c
 induction c with
 | nil =>
  intro a b _ _ f g
  exact(u0s.mp f.length.symm).trans (u0s.mp g.length.symm).symm
 | cons x c i =>
  intro a b j h f g
  cases a with
  | nil=>cases f.nil_inv
  | cons d a=>cases b with
   | nil=>cases g.nil_inv
   | cons e b =>
    obtain⟨y,r,l,b1,o⟩:=f.cons_inv
    obtain⟨q,s,m,b2,p⟩:=g.cons_inv
    cases l
    cases m
    rw[u1R,j6]at j h
    rw[i j.2 h.2 o p,k j.1 h.1 b1 b2]
def zkd:∀ (n:Nat) {d e:D} {v:V},okE n d=true->okE n e=true->At F d v->At F e v->d=e:=by
 intro n
 induction n with
 | zero =>
  intro d e v o h j b
  exact zgf o h ((wA o j).symm.trans (wA h b))
 | succ n x =>
  intro d e v o h j b
  rcases ws o with m | ⟨y,rfl,s⟩ | ⟨y,rfl,s⟩
  .have a:=wA m j
   rcases ws h with c | ⟨l,rfl,_⟩ | ⟨l,rfl,_⟩
   .exact zgf m c (a.symm.trans (wA c b))
   .obtain⟨p,u,t,_⟩:=b.tup_inv
    exact(VW m (a.symm.trans t)).elim
   .obtain⟨p,u,t,_⟩:=b.lst_inv
    exact(VW m (a.symm.trans t)).elim
  .obtain⟨p,u,g,i,w⟩:=j.tup_inv
   rcases ws h with c | ⟨l,rfl,k⟩ | ⟨l,rfl,k⟩
   .exact(VW c ((wA c b).symm.trans g)).elim
   .obtain⟨q,r,a,f,bl⟩:=b.tup_inv
    cases g.symm.trans a
    cases i.symm.trans f
    rw[zhB x s k w bl]
   .obtain⟨q,r,a,f,bl⟩:=b.lst_inv
    cases g.symm.trans a
    cases i.symm.trans f
  .obtain⟨p,u,g,i,w⟩:=j.lst_inv
   rcases ws h with c | ⟨l,rfl,k⟩ | ⟨l,rfl,k⟩
   .exact(VW c ((wA c b).symm.trans g)).elim
   .obtain⟨q,r,a,f,bl⟩:=b.tup_inv
    cases g.symm.trans a
    cases i.symm.trans f
   .obtain⟨q,r,a,f,bl⟩:=b.lst_inv
    cases g.symm.trans a
    cases i.symm.trans f
    rw[zhB x s k w bl]
omit [KK] in
def zdJ:∀ (n:Nat) {d:D},okE n d=true->eqN n d d=true:=by
 intro n
 induction n with
 | zero =>
  intro d h
  cases d with
  | tup _=>cases h
  | lst _=>cases h
  | scr _=>cases h
  | dct _ _ _ _=>cases h
  | obj _ _ _=>cases h
  | _=>first | rfl | exact q5 rfl | exact u0P _
 | succ n e =>
  have b:∀ {a:zg},a.all (okE n)=true->(List.zipWith (eqN n) a a).all id=true:=by
   intro a
   induction a with
   | nil=>intro _;rfl
   | cons d a c =>
    intro h
    rw[u1R,j6]at h
    rw[List.zipWith_cons_cons,u1R,c h.2,u2z]
    exact e h.1
  intro d h
  cases d with
  | tup a=>show((List.zipWith (eqN n) a a).all id&&a.length == a.length)=true;rw[b h];simp
  | lst a=>show((List.zipWith (eqN n) a a).all id&&a.length == a.length)=true;rw[b h];simp
  | scr _=>cases h
  | dct _ _ _ _=>cases h
  | obj _ _ _=>cases h
  | _=>first | rfl | exact q5 rfl | exact u0P _
def zkG (n:Nat){d:D}(c:okE n d=true)(a:okE n e=true)(b:At F d v)(f:At F e v):eqN n d e=true:=by
 rw[zkd n c a b f]
 exact zdJ n a
omit [KK] in
def wB {a:zg}{j:Nat}(h:a.all (okE n)=true)(b:j<a.length):okE n (a.getD j .non)=true:=by
 have:a.getD j .non=a[j]:=by simp[b]
 rw[this]
 exact m7.mp h _ (u0O b)
def AtL.nth {a:zg}{b:zx}{j:Nat}(f:AtL F a c)(r:yp c b)(h:j<b.length):∃ x,At F (a.getD j .non) x/\yZ x b[j]:=by
 have o:=f.length
 have k:=r.length
 have e:j<a.length:=by omega
 obtain⟨x,l,g⟩:=f.get (i:=j) (d:=a[j]) (by simp[e])
 obtain⟨u,m,n⟩:=r.get l
 refine⟨x,by rw[show a.getD j .non=a[j] by simp[e]];exact g,?_⟩
 have:b[j]?=some b[j]:=by simp[h]
 rw[m]at this
 cases this
 exact n
omit [KK] in
def zdR {d:D}(b:okE 0 d=true)(a:okE 0 e=true):eqN n d e=eqV (vOf d) (vOf e):=by
 cases n <;> cases d <;> first | (cases b;done) | skip
 all_goals cases e <;> first | (cases a;done) | rfl
omit [KK] in
def zdu {n:Nat}{d:D}(a:zg)(h:okE 0 d=true):eqN (n+1) d (.tup a)=false/\eqN (n+1) d (.lst a)=false/\eqN (n+1) (.tup a) d=false/\eqN (n+1) (.lst a) d=false:=by
 cases d <;> first | exact⟨rfl,rfl,rfl,rfl⟩ | cases h
omit [KK] in
def V2 {A:zM}{s:zm}{d:D}{p:Addr}(h:okE 0 d=true)(r:yZ (vOf d) u)(c:A.units<cLine) :
 (s.heap.IsTuple p e->SeqAt.EqAt A s u (.ref p) false/\SeqAt.EqAt A s (.ref p) u false)/\(s.heap.IsList p e->SeqAt.EqAt A s u (.ref p) false/\SeqAt.EqAt A s (.ref p) u false):=by
 cases d with
 | non=>cases r;exact⟨λa=>⟨.none_tuple a c,.tuple_none a c⟩,λa=>⟨.none_list a c,.list_none a c⟩⟩
 | bl b=>cases r;exact⟨λa=>⟨.bool_tuple b a c,.tuple_bool b a c⟩,λa=>⟨.bool_list b a c,.list_bool b a c⟩⟩
 | int b=>obtain⟨t,rfl⟩:=r;exact⟨λa=>⟨.int_tuple b t a c,.tuple_int b t a c⟩,λa=>⟨.int_list b t a c,.list_int b t a c⟩⟩
 | str b=>obtain⟨t,rfl⟩:=r;exact⟨λa=>⟨.str_tuple b t a c,.tuple_str b t a c⟩,λa=>⟨.str_list b t a c,.list_str b t a c⟩⟩
 | _=>cases h
def zae {s:zm}(I:Inv X c σ H s)(f:zN F H)(a:At F (.tup e) x)(r:yZ x u):∃ p b d,u=.ref p/\x=.ref p/\yp d b/\AtL F e d/\s.heap.IsTuple p b.toArray:=by
 obtain⟨p,d,rfl,g,j⟩:=a.tup_inv
 cases r
 obtain⟨b,i,h,k⟩:=I.tuple (SqT.of (f _ _ g))
 exact⟨p,b,d,rfl,rfl,i,j,h⟩
def zar {s:zm}(I:Inv X c σ H s)(f:zN F H)(a:At F (.lst e) x)(r:yZ x u):∃ p b d,u=.ref p/\x=.ref p/\yp d b/\AtL F e d/\s.heap.IsList p b.toArray:=by
 obtain⟨p,d,rfl,g,j⟩:=a.lst_inv
 cases r
 obtain⟨b,i,h,k⟩:=I.list (SqL.of (f _ _ g))
 exact⟨p,b,d,rfl,rfl,i,j,h.isList⟩
omit [KK] in
def zhc (a b:zg):((List.zipWith (eqN n) a b).all id&&a.length == b.length)=((List.range (min a.length b.length)).all (λj=>eqN n (a.getD j .non) (b.getD j .non))&&a.length == b.length):=by rw[zav]
def zaU (I:Inv X S σ H s)(B:zN F H):∀ (n:Nat) {A:zM} {d e:D} {x y:V} {u v:Value},okE n d=true->okE n e=true->At F d x->At F e y->yZ x u->yZ y v->A.units+n<cLine->SeqAt.EqAt A s u v (eqN n d e):=by
 intro n
 induction n with
 | zero =>
  intro A d e x y u v E z t g G o hu
  cases wA E t
  cases wA z g
  rw[zdR E z]
  exact zkN G o (XD E) (XD z)
 | succ n ih =>
  intro A d e x y u v E z t g G o hu
  have c:A.units<cLine:=l9 (u2F _ _) hu
  have U:A.units+1+n<cLine:=by rw[Nat.add_assoc,Nat.add_comm 1 n];exact hu
  rcases ws E with K | ⟨l,rfl,k1⟩ | ⟨l,rfl,k1⟩
  .cases wA K t
   rcases ws z with m | ⟨f,rfl,J⟩ | ⟨f,rfl,J⟩
   .cases wA m g
    rw[zdR K m]
    exact zkN G o (XD K) (XD m)
   .obtain⟨q,b,R,rfl,_,_,_,a⟩:=zae I B g o
    rw[(zdu f K).1]
    exact((V2 K G c).1 a).1
   .obtain⟨q,b,R,rfl,_,_,_,a⟩:=zar I B g o
    rw[(zdu f K).2.1]
    exact((V2 K G c).2 a).1
  .obtain⟨p,N,xs,rfl,L,P,T,C⟩:=zae I B t G
   rcases ws z with m | ⟨f,rfl,J⟩ | ⟨f,rfl,J⟩
   .cases wA m g
    rw[(zdu l m).2.2.1]
    exact((V2 m o c).1 C).2
   .obtain⟨q,b,R,rfl,M,r,bl,a⟩:=zae I B g o
    by_cases i:p=q
    .subst i
     rw[L]at t
     rw[M]at g
     rw[zkG (n+1) E z t g]
     exact .same _
    .have h:N.toArray.size=l.length:=by rw[t7,<- P.length,T.length]
     have k:b.toArray.size=f.length:=by rw[t7,<- r.length,bl.length]
     have:=SeqAt.RcAt.tuples (A:=A) (e:=λj=>eqN n (l.getD j .non) (f.getD j .non)) C a c λj O Q=>by
      obtain⟨x',Y,rx⟩:=T.nth P (j:=j) O
      obtain⟨y',W,Z⟩:=bl.nth r (j:=j) Q
      exact ih (wB k1 (h ▸ O)) (wB J (k ▸ Q)) Y W rx Z U
     rw[h,k]at this
     rw[show eqN (n+1) (.tup l) (.tup f)=_ from zhc l f]
     exact u2l i this
   .obtain⟨q,b,R,rfl,_,_,_,a⟩:=zar I B g o
    exact .tuple_list C a c
  .obtain⟨p,N,xs,rfl,L,P,T,C⟩:=zar I B t G
   rcases ws z with m | ⟨f,rfl,J⟩ | ⟨f,rfl,J⟩
   .cases wA m g
    rw[(zdu l m).2.2.2]
    exact((V2 m o c).2 C).2
   .obtain⟨q,b,R,rfl,_,_,_,a⟩:=zae I B g o
    exact .list_tuple C a c
   .obtain⟨q,b,R,rfl,M,r,bl,a⟩:=zar I B g o
    by_cases i:p=q
    .subst i
     rw[L]at t
     rw[M]at g
     rw[zkG (n+1) E z t g]
     exact .same _
    .have h:N.toArray.size=l.length:=by rw[t7,<- P.length,T.length]
     have k:b.toArray.size=f.length:=by rw[t7,<- r.length,bl.length]
     rw[show eqN (n+1) (.lst l) (.lst f)=_ from zhc l f]
     by_cases w:l.length=f.length
     .have:=SeqAt.RcAt.lists (A:=A) (e:=λj=>eqN n (l.getD j .non) (f.getD j .non)) C a (by rw[h,k,w]) c λj O Q=>by
       obtain⟨x',Y,rx⟩:=T.nth P (j:=j) O
       obtain⟨y',W,Z⟩:=bl.nth r (j:=j) Q
       exact ih (wB k1 (h ▸ O)) (wB J (k ▸ Q)) Y W rx Z U
      rw[h]at this
      rw[<-w,Nat.min_self,u0P,u2z]
      exact u2l i this
     .have:=SeqAt.RcAt.lists_lengths (A:=A) C a (by rw[h,k];exact bne_iff_ne.mpr w) c
      rw[g6.mpr w,u0Q]
      exact u2l i this
def ziT (d:D)(a:zg):Option Bool:=if okE 20 d=true/\a.all (okE 20)=true then some (a.any λe=>eqN 20 e d)else none
def inD (d e:D):Option D:=(vj e).bind λa=>(ziT d a).map .bl
def zdf (d e:D):Option D:=(vj e).bind λa=>(ziT d a).map λb=>.bl (!b)
open Classical in
noncomputable def zbq (F:Hp)(d:D)(u:Value):Bool:=decide (∃ a x,At F a x/\yZ x u/\okE 20 a=true/\eqN 20 a d=true)
open Classical in
def zcj {d:D}(a:At F b x)(r:yZ x u)(k:okE 20 b=true):zbq F d u=eqN 20 b d:=by
 unfold zbq
 cases h:eqN 20 b d with
 | true=>exact q5 ⟨b,x,a,r,k,h⟩
 | false =>
  refine q4 ?_
  rintro⟨j,y,g,i,f,c⟩
  have e:=i.inj r
  subst e
  rw[zkd 20 f k g a]at c
  rw[c]at h
  cases h
def Zm {d:D}:∀ {a:zg} {b:zw} {c:zx},AtL F a b->yp b c->a.all (okE 20)=true->c.any (zbq F d)=a.any λe=>eqN 20 e d
 | [],_,_,al,r,_=>by cases al.nil_inv;cases r;rfl
 | e::a,_,_,al,r,k=>by
  obtain⟨x,b,rfl,f,g⟩:=al.cons_inv
  cases r with
  | cons i h =>
   rw[u1R,j6]at k
   rw[u1S,u1S,zcj f i k.1,Zm g h k.2]
section
variable {X:Cx}
def zpR (a:Bool):R2:=λx y H Q=>∃ F d e c b,zN F H/\At F d x/\At F e y/\vj e=some c/\ziT d c=some b/\Q (.bl (if a then !b else b)) H
def zdT {k:Nat}(P:yY k X.A):OpR X (compareOp .In) (zpR false):=by
 intro J s σ H x y v u Q I N D h
 obtain⟨F,d,e,G,b,o,K,C,M,A,q⟩:=h
 unfold ziT at A
 split at A <;> cases A
 rename_i m
 have O:X.A.in1.units+20<cLine:=by have:=P.un;show X.A.units+1+20<cLine;omega
 have i:∀ {l:zw} {t:zx},AtL F G l->yp l t->∀ z∈t,SeqAt.EqAt X.A.in1 s z v (zbq F d z):=λ{l t} c r z f=>by
  obtain⟨j,L,rfl⟩:=u09 f
  obtain⟨R,B,g⟩:=c.nth r L
  have n:j<G.length:=by have:=c.length;have:=r.length;omega
  have E:=wB m.2 n
  rw[zcj B g E]
  exact zaU I o 20 E m.1 B K g N O
 cases e <;> cases M
 .obtain⟨p,l,rfl,w,c⟩:=C.tup_inv
  cases D
  obtain⟨a,r,pl,f⟩:=I.tuple (SqT.of (o _ _ w))
  refine SeqAt.in_tupleAt (zbq F d) pl (λz f=>i c r z (by simpa using f)) ⟨.bl _,H,I,rfl,?_⟩
  rw[show a.toArray.any (zbq F d)=a.any (zbq F d) by simp,Zm c r m.2]
  exact q
 .obtain⟨p,l,rfl,w,c⟩:=C.lst_inv
  cases D
  obtain⟨a,r,pl,f⟩:=I.list (SqL.of (o _ _ w))
  refine SeqAt.in_listAt (zbq F d) pl.isList (λz f=>i c r z (by simpa using f)) ⟨.bl _,H,I,rfl,?_⟩
  rw[show a.toArray.any (zbq F d)=a.any (zbq F d) by simp,Zm c r m.2]
  exact q
def zhQ {k:Nat}(P:yY k X.A):OpR X (compareOp .NotIn) (zpR true):=by
 intro J s σ H x y v u Q I N D h
 obtain⟨F,d,e,G,b,o,K,C,M,A,q⟩:=h
 unfold ziT at A
 split at A <;> cases A
 rename_i m
 have O:X.A.in1.units+20<cLine:=by have:=P.un;show X.A.units+1+20<cLine;omega
 have i:∀ {l:zw} {t:zx},AtL F G l->yp l t->∀ z∈t,SeqAt.EqAt X.A.in1 s z v (zbq F d z):=λ{l t} c r z f=>by
  obtain⟨j,L,rfl⟩:=u09 f
  obtain⟨R,B,g⟩:=c.nth r L
  have n:j<G.length:=by have:=c.length;have:=r.length;omega
  have E:=wB m.2 n
  rw[zcj B g E]
  exact zaU I o 20 E m.1 B K g N O
 cases e <;> cases M
 .obtain⟨p,l,rfl,w,c⟩:=C.tup_inv
  cases D
  obtain⟨a,r,pl,f⟩:=I.tuple (SqT.of (o _ _ w))
  refine SeqAt.notIn_tupleAt (zbq F d) pl (λz f=>i c r z (by simpa using f)) ⟨.bl _,H,I,rfl,?_⟩
  rw[show a.toArray.any (zbq F d)=a.any (zbq F d) by simp,Zm c r m.2]
  exact q
 .obtain⟨p,l,rfl,w,c⟩:=C.lst_inv
  cases D
  obtain⟨a,r,pl,f⟩:=I.list (SqL.of (o _ _ w))
  refine SeqAt.notIn_listAt (zbq F d) pl.isList (λz f=>i c r z (by simpa using f)) ⟨.bl _,H,I,rfl,?_⟩
  rw[show a.toArray.any (zbq F d)=a.any (zbq F d) by simp,Zm c r m.2]
  exact q
def zdC:OpD (zpR false) inD:=by
 intro F H x y d e z Q s g c i q
 obtain⟨j,a,h⟩:=u4.mp i
 obtain⟨b,f,rfl⟩:=u9.mp h
 exact⟨F,d,e,j,b,s,g,c,a,f,q F H _ (.refl s) .bl⟩
def zgR:OpD (zpR true) zdf:=by
 intro F H x y d e z Q s g c i q
 obtain⟨j,a,h⟩:=u4.mp i
 obtain⟨b,f,rfl⟩:=u9.mp h
 exact⟨F,d,e,j,b,s,g,c,a,f,q F H _ (.refl s) .bl⟩
def eqG (d e:D):Option Bool:=match d,e with
 | .tup _,.tup _=>if okE 20 d=true/\okE 20 e=true then some (eqN 20 d e)else none
 | .lst _,.lst _=>if okE 20 d=true/\okE 20 e=true then some (eqN 20 d e)else none
 | _,_=>eqS d e
def wP (d e:D):Option D:=(eqG d e).map .bl
def zpP:R2:=λx y H Q=>∃ F d e,zN F H/\At F d x/\At F e y/\((∃ b a,d=.tup b/\e=.tup a)\/(∃ b a,d=.lst b/\e=.lst a))/\okE 20 d=true/\okE 20 e=true/\Q (.bl (eqN 20 d e)) H
def zog {k:Nat}(Z:yY k X.A):OpR X (compareOp .Eq) zpP:=by
 intro S s σ H x y v u Q I t o h
 obtain⟨F,d,e,n,M,N,V,R,O,q⟩:=h
 have D:X.A.units+30<cLine:=by have:=Z.un;omega
 rcases V with ⟨c,f,rfl,rfl⟩ | ⟨c,f,rfl,rfl⟩
 .obtain⟨p,W,rfl,L,B⟩:=M.tup_inv
  obtain⟨P,Y,rfl,E,bl⟩:=N.tup_inv
  cases t
  cases o
  obtain⟨m,r,C,hz⟩:=I.tuple (SqT.of (n _ _ L))
  obtain⟨b,A,l,J⟩:=I.tuple (SqT.of (n _ _ E))
  have a:m.toArray.size=c.length:=by rw[t7,<- r.length,B.length]
  have g:b.toArray.size=f.length:=by rw[t7,<- A.length,bl.length]
  refine SeqAt.eq_tupleAt (e:=λj=>eqN 19 (c.getD j .non) (f.getD j .non)) (show s.heap.IsTuple p m.toArray from C) (show s.heap.IsTuple P b.toArray from l) (by omega) (λj w z=>?_) ⟨.bl _,H,I,rfl,?_⟩
  .obtain⟨U,K,t⟩:=B.nth r (j:=j) (by simpa using w)
   obtain⟨y',G,o⟩:=bl.nth A (j:=j) (by simpa using z)
   exact zaU I n 19 (wB R (by rw[<-a];exact w)) (wB O (by rw[<-g];exact z)) K G (by simpa using t) (by simpa using o) (l9 (show X.A.units+20<=X.A.units+30 from u0M (by decide) _) D)
  .rw[a,g,<- zav]
   exact q
 .obtain⟨p,W,rfl,L,B⟩:=M.lst_inv
  obtain⟨P,Y,rfl,E,bl⟩:=N.lst_inv
  cases t
  cases o
  obtain⟨m,r,C,hz⟩:=I.list (SqL.of (n _ _ L))
  obtain⟨b,A,l,J⟩:=I.list (SqL.of (n _ _ E))
  have a:m.toArray.size=c.length:=by rw[t7,<- r.length,B.length]
  have g:b.toArray.size=f.length:=by rw[t7,<- A.length,bl.length]
  have T:eqN 20 (.lst c) (.lst f)=((List.range (min c.length f.length)).all (λj=>eqN 19 (c.getD j .non) (f.getD j .non))&&c.length == f.length):=by
   show((List.zipWith (eqN 19) c f).all id&&c.length == f.length)=_
   rw[zav]
  by_cases i:c.length=f.length
  .refine SeqAt.eq_listAt (e:=λj=>eqN 19 (c.getD j .non) (f.getD j .non)) C.isList l.isList (by rw[a,g];exact i) (l9 (u2F _ 30) D) (λj w z=>?_) ⟨.bl _,H,I,rfl,?_⟩
   .obtain⟨U,K,t⟩:=B.nth r (j:=j) (by simpa using w)
    obtain⟨y',G,o⟩:=bl.nth A (j:=j) (by simpa using z)
    exact zaU I n 19 (wB R (by rw[<-a];exact w)) (wB O (by rw[<-g];exact z)) K G (by simpa using t) (by simpa using o) (l9 (show X.A.units+20<=X.A.units+30 from u0M (by decide) _) D)
   .rw[a]
    rw[T,<- i,Nat.min_self]at q
    simpa using q
  .refine SeqAt.eq_list_lengthsAt C.isList l.isList (by rw[a,g];simpa using i) (l9 (u2F _ 30) D) ⟨.bl _,H,I,rfl,?_⟩
   have:(c.length == f.length)=false:=by simpa using i
   rw[T,this,u0Q]at q
   exact q
def zk8:OpD zpP (λd e=>match d,e with
 | .tup _,.tup _=>if okE 20 d=true/\okE 20 e=true then some (.bl (eqN 20 d e))else none
 | .lst _,.lst _=>if okE 20 d=true/\okE 20 e=true then some (.bl (eqN 20 d e))else none
 | _,_=>none):=by
 intro F H x y d e z Q s c f a q
 dsimp only at a
 split at a
 .split at a <;> cases a
  rename_i b
  exact⟨F,_,_,s,c,f,.inl ⟨_,_,rfl,rfl⟩,b.1,b.2,q F H _ (.refl s) .bl⟩
 .split at a <;> cases a
  rename_i b
  exact⟨F,_,_,s,c,f,.inr ⟨_,_,rfl,rfl⟩,b.1,b.2,q F H _ (.refl s) .bl⟩
 .cases a
def yF {k:Nat}(a:yY k X.A):OpR X (compareOp .Eq) (λx y H Q=>rEq x y H Q\/zpP x y H Q):=zpZ.or (zog a)
def z3:OpD (λx y H Q=>rEq x y H Q\/zpP x y H Q) wP:=by
 refine zbY (zbv zkf zk8) λd e z h=>?_
 obtain⟨b,a,rfl⟩:=u9.mp h
 unfold eqG at a
 split at a
 .split at a <;> cases a
  rename_i c
  show(Option.or none (if okE 20 _=true/\okE 20 _=true then some (D.bl (eqN 20 _ _))else none))=_
  rw[t9 c]
  rfl
 .split at a <;> cases a
  rename_i c
  show(Option.or none (if okE 20 _=true/\okE 20 _=true then some (D.bl (eqN 20 _ _))else none))=_
  rw[t9 c]
  rfl
 .show((eqD d e).or _)=_
  unfold eqD
  rw[a]
  rfl
def zdk {d:xp}{A:zM}{Q:yT}(I:Inv X d σ H s)(D:A.handled=none)(h:SqL X.K H a x\/SqT X.K H a x) (k:∀ (C:Addr) (c:zx) (y F:xX) (St:Nat->Heap->Prop) (f:zm),yp x c->Walks X.prog X.w A C y F c.length (λi v=>c[i]?=some v) St->St 0 f.heap->(∀ b∈y,b<f.heap.objs.size) ->
 (∀ (l:Heap) (q:Nat),(∀ b o,b∉F->f.heap.get? b=some o->l.get? b=some o)->Inv X d σ H { f with heap:=l,toks:=q })->Q (.ref C) f) :
 wpAny (model X.prog X.w) A (pyIter (.ref a)) Q E s:=by
 have g:∀ {o:Obj} {f:zm},f={ s with heap:=s.heap.push o }->∀ (l:Heap) (q:Nat),(∀ b u,b∉[s.heap.objs.size]->f.heap.get? b=some u->l.get? b=some u)->Inv X d σ H { f with heap:=l,toks:=q }:=λ{o f} e l q kk=>by
  subst e
  exact I.kept (t':=q) λb u z=>kk b u (by simpa using r0 (j4 z)) (u8 _ z)
 rcases h with h | h
 .obtain⟨c,r,p,G⟩:=I.list h
  have m:a<s.heap.objs.size:=by obtain⟨o,n,t,_⟩:=p;exact j4 t
  refine wpAny_pyIter_list p.isList ?_
  have W:=Walks.list (prog:=X.prog) (w:=X.w) (A:=A) D s.heap.objs.size a (r0 m) c.toArray
  refine k s.heap.objs.size c [s.heap.objs.size,a] [s.heap.objs.size] (λi h=>h.IsListIter s.heap.objs.size a i/\h.IsList a c.toArray) _ r (by simpa using W) ⟨⟨_,k9 _ rfl,rfl,rfl⟩,p.isList.at λo e=>u8 _ e⟩ (λb j=>?_) (g rfl)
  show b<(s.heap.push _).objs.size
  rw[u0c]
  rcases j9.mp j with rfl | j
  .exact u07 _
  .rw[t8.mp j];exact u0K m
 .obtain⟨c,r,p,G⟩:=I.tuple h
  have B:s.heap.IsTuple a c.toArray:=p
  have m:a<s.heap.objs.size:=by obtain⟨o,t,_⟩:=p;exact j4 t
  refine u0T B ?_
  have W:=Walks.tuple (prog:=X.prog) (w:=X.w) (A:=A) D s.heap.objs.size a (r0 m) c.toArray
  refine k s.heap.objs.size c [s.heap.objs.size,a] [s.heap.objs.size] (λi h=>h.IsTupleIter s.heap.objs.size a i/\h.IsTuple a c.toArray) _ r (by simpa using W) ⟨⟨_,k9 _ rfl,rfl,rfl⟩,B.at λo e=>u8 _ e⟩ (λb j=>?_) (g rfl)
  show b<(s.heap.push _).objs.size
  rw[u0c]
  rcases j9.mp j with rfl | j
  .exact u07 _
  .rw[t8.mp j];exact u0K m
end
end Dl
namespace Dl
open PySem L2
variable [KK]
omit [KK] in
def zfz {a:List Bool}:(List.range a.length).all (λi=>a.getD i false)=a.all id:=by
 have:a=(List.range a.length).map λi=>a.getD i false:=by
  apply List.ext_getElem
  .simp
  .intro i b c
   simp[b]
 conv=>rhs;rw[this]
 rw[u1D]
 rfl
omit [KK] in
def zfh:∀ (ns:zy) (n:Nat),n<=ns.length->preSum (λi=>ns.getD i 0) n=(ns.take n).sum:=by
 intro ns n
 induction n with
 | zero=>intro _;simp[preSum]
 | succ n a =>
  intro h
  show preSum (λi=>ns.getD i 0) n+ns.getD n 0=_
  rw[a (by omega),List.take_succ,List.sum_append]
  have:ns[n]?=some ns[n]:=by simp[show n<ns.length by omega]
  simp[this]
section
variable {X:Cx}
omit [KK] in
def zmx {b:List Bool}{i:Nat}(r:yp (b.map V.bl) a)(h:a[i]?=some v):v=.bool (b.getD i false):=by
 have d:=r.length
 have f:i<a.length:=(j3.mp h).1
 rw[t4]at d
 obtain⟨u,c,e⟩:=r.get (i:=i) (x:=.bl (b[i]'(by omega))) (by rw[r8];simp[show i<b.length by omega])
 rw[h]at c
 cases c
 cases e
 simp[show i<b.length by omega]
omit [KK] in
def zij {ns:zy}{i:Nat}(r:yp (ns.map V.int) a)(h:a[i]?=some v):∃ t,v=.int (ns.getD i 0) t:=by
 have c:=r.length
 have e:i<a.length:=(j3.mp h).1
 rw[t4]at c
 obtain⟨u,b,d⟩:=r.get (i:=i) (x:=.int (ns[i]'(by omega))) (by rw[r8];simp[show i<ns.length by omega])
 rw[h]at b
 cases b
 obtain⟨t,rfl⟩:=d
 exact⟨t,by simp[show i<ns.length by omega]⟩
def zbm (z:X.calm=true):Yh X (.builtin "all") (λe H Q=>∃ (p:Addr) (b:List Bool),e=[.ref p]/\(SqL X.K H p (b.map V.bl)\/SqT X.K H p (b.map V.bl))/\Q (.bl (b.all id)) H):=by
 intro f s σ H e C Q I r h
 obtain⟨p,b,rfl,y,q⟩:=h
 obtain⟨u,rfl,A⟩:=Ve r
 cases A
 refine call_all_walk (zdk I (I.ok.hd z) y λt B g x St D d W k l a=>?_)
 have c:=d.length
 rw[t4]at c
 refine⟨t,g,x,_,_,St,λi=>b.getD i false,rfl,W,k,λi v s Q E m o=>?_,λw n j=>⟨.bl _,H,a w n j,rfl,?_⟩⟩
 .rw[zmx d m]
  exact u0b o
 .rw[<-c,zfz]
  exact q
def zg3 (w:X.calm=true):Yh X (.builtin "sum") (λf H Q=>∃ (p:Addr) (ns:zy),f=[.ref p]/\(SqL X.K H p (ns.map V.int)\/SqT X.K H p (ns.map V.int))/\Q (.int ns.sum) H):=by
 intro d s σ H f C Q I r h
 obtain⟨p,ns,rfl,t,q⟩:=h
 obtain⟨u,rfl,z⟩:=Ve r
 cases z
 refine call_sum_walkG (zdk I (I.ok.hd w) t λj A g n St B e W o b a=>?_)
 have c:=e.length
 rw[t4]at c
 refine⟨j,g,n,_,_,St,λi=>ns.getD i 0,rfl,W,o,b,λi v x=>zij e x,λl k y m=>⟨.int ns.sum,H,a l k m,?_,q⟩⟩
 refine⟨y,?_⟩
 rw[<-c,zfh ns _ (t6 _),u06]
omit [KK] in
def getD_mem {ns:zy}{k:Nat}(h:k<ns.length):ns.getD k 0∈ns:=by
 rw[g8,o6 h]
 exact u0O h
omit [KK] in
def getD_at {ns:zy}{k:Nat}(h:k<ns.length):ns.getD k 0=ns[k]:=by
 rw[g8,o6 h]
 rfl
def zmw:zg->Option (List Bool)
 | []=>some []
 | .bl b::ds=>(zmw ds).map (b::·)
 | _=>none
def znn:zg->Option zy
 | []=>some []
 | .int b::ds=>(znn ds).map (b::·)
 | _=>none
omit [KK] in
def ze8:∀ {b:zg} {a:List Bool},zmw b=some a->b=a.map .bl
 | [],a,h=>by cases h;rfl
 | d::b,a,h=>by
  cases d <;> try cases h
  obtain⟨e,c,rfl⟩:=u9.mp h
  rw[ze8 c]
  rfl
omit [KK] in
def zg7:∀ {b:zg} {a:zy},znn b=some a->b=a.map .int
 | [],a,h=>by cases h;rfl
 | d::b,a,h=>by
  cases d <;> try cases h
  obtain⟨e,c,rfl⟩:=u9.mp h
  rw[zg7 c]
  rfl
omit [KK] in
def zjY (a:List Bool):zmw (a.map .bl)=some a:=by
 induction a with
 | nil=>rfl
 | cons b r c=>show(zmw (r.map .bl)).map (b::·)=_;rw[c];rfl
omit [KK] in
def zis (a:zy):znn (a.map .int)=some a:=by
 induction a with
 | nil=>rfl
 | cons b r c=>show(znn (r.map .int)).map (b::·)=_;rw[c];rfl
def AtL.of_bls:∀ {ns:List Bool} {a:zw},AtL H (ns.map D.bl) a->a=ns.map V.bl
 | [],_,h=>h.nil_inv
 | n::r,_,h=>by
  obtain⟨x,d,rfl,c,b⟩:=AtL.cons_inv (by simpa using h)
  rw[c.bl_inv,AtL.of_bls b]
  rfl
def zpH {α:Type}(a:zg->Option α)(g:α->Option D):xW
 | [d]=>((vj d).bind a).bind g
 | _=>none
def zfI {α:Type}{l:zg->Option α}{g:α->Option D}(s:zN F H)(t:AtL F m i)(e:zpH l g m=some z) :
 ∃ p f a b,i=[.ref p]/\(SqL K H p a\/SqT K H p a)/\AtL F f a/\l f=some b/\g b=some z:=by
 unfold zpH at e
 split at e
 .obtain⟨b,o,k⟩:=u4.mp e
  obtain⟨f,q,h⟩:=u4.mp o
  obtain⟨x,r,rfl,j,n⟩:=t.cons_inv
  cases n.nil_inv
  rename_i d
  cases d <;> cases q
  .obtain⟨p,a,rfl,c,bl⟩:=j.tup_inv
   exact⟨p,_,a,b,rfl,.inr (SqT.of (s _ _ c)),bl,h,k⟩
  .obtain⟨p,a,rfl,c,bl⟩:=j.lst_inv
   exact⟨p,_,a,b,rfl,.inl (SqL.of (s _ _ c)),bl,h,k⟩
 .cases e
def znm:=zpH zmw λa=>some (.bl (a.all id))
def zqi:=zpH znn λns=>some (.int ns.sum)
def zhm:CaD (λb H Q=>∃ (p:Addr) (a:List Bool),b=[.ref p]/\(SqL K H p (a.map V.bl)\/SqT K H p (a.map V.bl))/\Q (.bl (a.all id)) H) znm:=by
 intro F H h i z Q s g e q
 obtain⟨p,j,b,a,rfl,c,bl,d,f⟩:=zfI (K:=K) s g e
 cases f
 rw[ze8 d]at bl
 rw[bl.of_bls]at c
 exact⟨p,a,rfl,c,q F H _ (.refl s) .bl⟩
def zmq:CaD (λa H Q=>∃ (p:Addr) (ns:zy),a=[.ref p]/\(SqL K H p (ns.map V.int)\/SqT K H p (ns.map V.int))/\Q (.int ns.sum) H) zqi:=by
 intro F H h i z Q s g e q
 obtain⟨p,j,a,f,rfl,b,bl,c,d⟩:=zfI (K:=K) s g e
 cases d
 rw[zg7 c]at bl
 rw[bl.of_ints]at b
 exact⟨p,f,rfl,b,q F H _ (.refl s) .int⟩
end
end Dl
namespace Dl
open PySem L2
variable [KK]
section
variable {X:Cx}{tg a b c e:Expr}{pos:Pos}
def zipD:zg->zg->zg
 | x::xs,y::ys=>.tup [x,y]::zipD xs ys
 | _,_=>[]
def XB (f:yB):yB:=fun ρ=>(f ρ).bind λc=>match c with
 | [d,e]=>(vj d).bind λb=>(vj e).bind λa=>if b.length<=a.length then some (zipD b a)else none
 | _=>none
def Y5 (g:zi9)(f:yB)(b:vW)(h:zz):zz:=fun ρ=>match (f (visG ρ)).bind g with
 | some a=>zdr b h a ρ
 | none=>.no
def zjT {p d:Pos} {b:wN} {f:yB} {g:zz} (s:PassesOwn (model X.prog X.w) X.A X.env X.xe) (i:X.calm=true) (m:Gl X "range") (N:X.mg "range"=none) (u:AD X [a] f) (o:BD X tg n) (G:SDs X b g) (j:starEach [a] X.env=[(false,eval a X.env)]:=by rfl) (A:∀ x,foldedSetIterable (.Call (.Name "range" p) [a] [] pos) X.env x=pure x:=by intro _;rfl):SD X (.For tg (.Call (.Name "range" p) [a] [] pos) b [] d) (Y5 zaL f n g):=by
 obtain⟨t,I,r⟩:=u
 obtain⟨L,K,z⟩:=o
 obtain⟨R,C,y⟩:=G
 refine⟨_,zaY s i (zaQ m N I j) K C A,λFb Hb F H ρ σ E e k=>?_⟩
 unfold Y5 at k
 cases h:(f (visG ρ)).bind zaL with
 | none=>rw[h]at k;exact k.elim
 | some P =>
  rw[h]at k
  obtain⟨M,J,c⟩:=u4.mp h
  refine r σ _ _ H M _ e.gh e.visG J λF1 H1 Q v q=>?_
  have l:=e.grow (e.back v).1
  unfold zaL at c
  split at c
  .split at c <;> cases c
   rename_i i
   obtain⟨x,O,rfl,w,B⟩:=q.cons_inv
   cases B.nil_inv
   exact⟨_,by rw[w.int_inv],(vv.mp i).1,(vv.mp i).2,zkm (zf8 0 _) z y l k⟩
  .cases c
end
def zit (K:zu):Sp:=λb H Q _=>∃ (a:Addr) (ns:zy),b=[.ref a]/\SqL K H a (ns.map V.int)/\ns.length<=63/\∀ H',Q (.bl true) H'
end Dl
namespace Dl
open PySem L2
structure Def (K:zu) (mg:wc) (x:Str) (st:Stmt) (ps:zD) (f:Addr) (fd:ww):Prop where
 fn:Fun K x x st f fd
 bd:xh K fd ps []
 at_:mg x=some (.ref f)
def Def.kp {f:Addr}(d:Def K c x e a f b):W.keepIn K (.ref f)=true:=d.fn.kp
inductive Ctl.w:Ctl->W6->W6->W6->(D->Prop)->Prop where
 | nx {ρ:SE} {n b k:W6} {r:D->Prop}:n ρ->Ctl.w (.nx ρ) n b k r
 | bk {ρ:SE} {n b k:W6} {r:D->Prop}:b ρ->Ctl.w (.bk ρ) n b k r
 | ct {ρ:SE} {n b k:W6} {r:D->Prop}:k ρ->Ctl.w (.ct ρ) n b k r
 | rt {d:D} {n b k:W6} {r:D->Prop}:r d->Ctl.w (.rt d) n b k r
section
variable {ρ:SE}{d:D}{n b k:W6}{r:D->Prop}
def Ctl.w.nxi (h:Ctl.w (.nx ρ) n b k r):n ρ:=by cases h;assumption
def Ctl.w.bki (h:Ctl.w (.bk ρ) n b k r):b ρ:=by cases h;assumption
def Ctl.w.cti (h:Ctl.w (.ct ρ) n b k r):k ρ:=by cases h;assumption
def Ctl.w.rti (h:Ctl.w (.rt d) n b k r):r d:=by cases h;assumption
def Ctl.w.noi (h:Ctl.w .no n b k r):False:=by cases h
end
abbrev noP:W6:=λ_=>False
section
variable {g h:zz}{ρ ρ':SE}{n b k:W6}{r:D->Prop}
def vD (e:(g ρ).w (fun ρ'=>(h ρ').w n b k r) b k r):(zS g h ρ).w n b k r:=by
 unfold zS
 cases a:g ρ with
 | nx ρ'=>rw[a]at e;exact e.nxi
 | bk ρ'=>rw[a]at e;exact .bk e.bki
 | ct ρ'=>rw[a]at e;exact .ct e.cti
 | rt d=>rw[a]at e;exact .rt e.rti
 | no=>rw[a]at e;exact e.noi.elim
def zG (e:g ρ=.nx ρ')(q:(h ρ').w n b k r):(zS g h ρ).w n b k r:=vD (by rw[e];exact .nx q)
def zhV (e:g ρ=.nx ρ')(q:n ρ'):(g ρ).w n b k r:=by rw[e];exact .nx q
def YU {d:D}(e:g ρ=.rt d)(q:r d):(g ρ).w n b k r:=by rw[e];exact .rt q
def zh3 {t:vx}(e:t (visG ρ)=some c)(d:c=true->(g ρ).w n b k r)(a:c=false->(h ρ).w n b k r):(sIf t g h ρ).w n b k r:=by
 unfold sIf
 rw[e]
 cases c with
 | true=>exact d rfl
 | false=>exact a rfl
def zqT (e:zpJ ρ i=ρ')(q:(g ρ').w n b k r):(sFz i g ρ).w n b k r:=by
 unfold sFz
 rw[e]
 exact q
theorem zkX {l:vW}(I:Nat->SE->Prop):∀ (c:zg) (j:Nat) (ρ:SE),I j ρ ->
 (∀ i d ρ,c[i]?=some d->I (j+i) ρ->∃ f,l d ρ=some f/\(g f).w (I (j+i+1)) n (I (j+i+1)) r)->(∀ ρ,I (j+c.length) ρ->n ρ)->(zdr l g c ρ).w n b k r
 | [],j,ρ,h0,_,fin=>.nx (fin ρ h0)
 | d::c,j,ρ,h0,step,fin=>by
  obtain⟨f,q,a⟩:=step 0 d ρ rfl h0
  unfold zdr
  rw[q]
  dsimp only
  have next:∀ ρ',I (j+1) ρ'->(zdr l g c ρ').w n b k r:=fun ρ' p=>zkX I c (j+1) ρ' p
   (λi m ρ o h=>by
    have:=step (i+1) m ρ (by simpa using o) (by rw[show j+(i+1)=j+1+i by omega];exact h)
    rwa[show j+(i+1)+1=j+1+i+1 by omega]at this)
   (fun ρ h=>fin ρ (by rw[o4,show j+(c.length+1)=j+1+c.length by omega];exact h))
  cases e:g f with
  | nx ρ'=>rw[e]at a;exact next ρ' a.nxi
  | ct ρ'=>rw[e]at a;exact next ρ' a.cti
  | bk ρ'=>rw[e]at a;exact .nx a.bki
  | rt m=>rw[e]at a;exact .rt a.rti
  | no=>rw[e]at a;exact a.noi.elim
def ziR {f:yB}{h:vW}{ds:zg}(I:Nat->SE->Prop)(e:f (visF ρ)=some ds)(h0:I 0 ρ)
 (c:∀ i d ρ,ds[i]?=some d->I i ρ->∃ j,h d ρ=some j/\(g j).w (I (i+1)) n (I (i+1)) r) (fin:∀ ρ,I ds.length ρ->n ρ):(W8 f h g ρ).w n b k r:=by
 unfold W8
 rw[e]
 exact zkX I ds 0 ρ h0 (λi d ρ l a=>by rw[l0]at a ⊢;exact c i d ρ l a) (fun ρ a=>fin ρ (by rw[l0]at a;exact a))
end
def Xu {m:Nat}{g:zz}{c:zg}{d:D}(e:c.map .v++List.replicate (m-c.length) .no=ρ)(q:(g ρ).w (λ_=>d=.non) noP noP (λb=>b=d)):fnD m g c=some d:=by
 unfold fnD
 rw[e]
 cases a:g ρ with
 | nx f=>rw[a]at q;rw[show d=.non from q.nxi]
 | rt b=>rw[a]at q;rw[show b=d from q.rti]
 | bk _=>rw[a]at q;exact q.bki.elim
 | ct _=>rw[a]at q;exact q.cti.elim
 | no=>rw[a]at q;exact q.noi.elim
def zoF {i:Nat}{f:zJ}{ρ:SE}{ds:zg}{d:D}(c:vEv m f ρ=some d)(a:ρ[i]?=some (.o ds))(b:ds.length<=1000):zaC m i f ρ=.nx (ρ.set i (.o (ds++[d]))):=by
 unfold zaC
 rw[c,a]
 show(match (if decide (ds.length<sizeLine)=true then some (ρ.set i (.o (ds++[d])))else none)with | some e=>Ctl.nx e | none=>Ctl.no)=_
 rw[t9 (q5 (yR b))]
def zac {b:za7}{t:vx}{f:zJ}{α:Type}(c:α->D)(y:α->D):∀ (a:List α),(∀ x∈a,∃ own,b (c x)=some own/\t (own++ρ)=some true/\f (own++ρ)=some (y x))->lcD b t f ρ (a.map c)=some (a.map y)
 | [],_=>rfl
 | x::a,h=>by
  obtain⟨own,g,e,d⟩:=h x g3
  show lcD b t f ρ (c x::a.map c)=_
  unfold lcD
  rw[g]
  simp only[k6,e,u2p,d,zac c y a λz i=>h z (r9 _ i)]
  rfl
def Vs {b:za7}{t:vx}{f:zJ}{α:Type}(c:α->D)(p:α->Bool)(y:α->D):∀ (a:List α),(∀ x∈a,∃ own,b (c x)=some own/\t (own++ρ)=some (p x)/\(p x=true->f (own++ρ)=some (y x)))->lcD b t f ρ (a.map c)=some ((a.filter p).map y)
 | [],_=>rfl
 | x::a,h=>by
  obtain⟨own,j,g,i⟩:=h x g3
  have e:=Vs c p y a λz k=>h z (r9 _ k)
  show lcD b t f ρ (c x::a.map c)=_
  unfold lcD
  rw[j]
  simp only[k6,g]
  cases d:p x with
  | false =>
   rw[j5 u7,e,List.filter_cons,j5 (by rw[d];exact u7)]
  | true =>
   rw[t9 rfl,i d,e,List.filter_cons,t9 d]
   rfl
mutual
def noS:D->Bool
 | .tup ds=>zh7 ds
 | .lst ds=>zh7 ds
 | .scr _=>false
 | .obj _ _ _=>false
 | _=>true
def zh7:zg->Bool
 | []=>true
 | d::ds=>noS d&&zh7 ds
end
def v5:∀ {ds:zg} {i:Nat} {d:D},zh7 ds=true->ds[i]?=some d->noS d=true
 | [],_,_,_,h=>by simp at h
 | d::ds,i,e,h,he=>by
  unfold zh7 at h
  rw[j6]at h
  cases i with
  | zero=>simp at he;subst he;exact h.1
  | succ i=>exact v5 h.2 (by simpa using he)
def Z3 {n:Nat}(h:n<=1000):lim n=true:=by
 unfold lim
 exact q5 (m4 (yR h))
end Dl
namespace Dl
open PySem L2
abbrev Pr:=Int × Int
def prD (t:Pr):D:=.tup [.int t.1,.int t.2]
def prOf:D->Option Pr
 | .tup [.int a,.int b]=>some (a,b)
 | _=>none
def zf3:zg->Option (List Pr)
 | []=>some []
 | d::ds=>(prOf d).bind λt=>(zf3 ds).map (t::·)
def zfT (a:List Pr):zf3 (a.map prD)=some a:=by
 induction a with
 | nil=>rfl
 | cons t a b =>
  show(prOf (prD t)).bind (λu=>(zf3 (a.map prD)).map (u::·))=_
  rw[b]
  rfl
def zoK (a b:Pr):Bool:=!OwnSort.bltP b a
def zfR (a:List Pr):List Pr:=a.mergeSort zoK
def zd3:OwnSort.bltP b a=false↔zoK a b=true:=by unfold zoK;simp
def XR:zoK a b=true↔a.1<b.1\/(a.1=b.1/\a.2<=b.2):=by
 rw[<-zd3]
 unfold OwnSort.bltP
 rw[p6]
 omega
variable [KK]
end Dl
namespace Dl
open PySem L2
variable [KK]
section
variable {X:Cx}{a b:Expr}{pos:Pos}
def y0 {a:wN}:SDs X a sNo:=⟨_,zf9,λ_ _ _ _ _ _ _ _ h=>h.elim⟩
end
end Dl
namespace Dl
open PySem L2
variable [KK]
section
variable {X:Cx}{a e:Expr}
def zf4 (m:xE)(f:zJ)(g:yB):zJ:=fun ρ=>(f ρ).bind λc=>(g ρ).bind λa=>match a with
 | [d]=>m c d
 | _=>none
end
end Dl
namespace Dl
open PySem L2
def zqC:D->Option Key
 | .int i=>some (.inl i)
 | .str x=>some (.inr x)
 | _=>none
def zj1:zg->Option (List Key)
 | []=>some []
 | d::ds=>(zqC d).bind λk=>(zj1 ds).map (k::·)
def keyT:D->Option (List Key)
 | .tup a=>zj1 a
 | _=>none
def zm4 (t:Bool)(d:D):Option (List Key):=if t=true then keyT d else (zqC d).map ([·])
def intQ:Int->Int->Bool
 | .ofNat a,.ofNat b=>Nat.beq a b
 | .negSucc a,.negSucc b=>Nat.beq a b
 | _,_=>false
def zdj:intQ a b=true↔a=b:=by
 cases a with
 | ofNat a=>cases b with
  | ofNat b=>exact⟨λh=>(by rw[Nat.eq_of_beq_eq_true h]),λh=>(by cases h;exact Nat.beq_refl a)⟩
  | negSucc b=>exact⟨λh=>(by cases h),λh=>(by cases h)⟩
 | negSucc a=>cases b with
  | ofNat b=>exact⟨λh=>(by cases h),λh=>(by cases h)⟩
  | negSucc b=>exact⟨λh=>(by rw[Nat.eq_of_beq_eq_true h]),λh=>(by cases h;exact Nat.beq_refl a)⟩
def zii:Key->Key->Bool
 | .inl i,.inl j=>intQ i j
 | .inr a,.inr b=>decide (a=b)
 | _,_=>false
def zpL:List Key->List Key->Bool
 | [],[]=>true
 | a::r,b::s=>match zii a b with
  | true=>zpL r s
  | false=>false
 | _,_=>false
def zbH:zii a b=true↔a=b:=by
 cases a with
 | inl i=>cases b with
  | inl j=>exact⟨λh=>(by rw[zdj.mp h]),λh=>(by cases h;exact zdj.mpr rfl)⟩
  | inr b=>exact⟨λh=>(by cases h),λh=>(by cases h)⟩
 | inr i=>cases b with
  | inl j=>exact⟨λh=>(by cases h),λh=>(by cases h)⟩
  | inr b=>exact⟨λh=>(by rw[k8 h]),λh=>(by cases h;exact q5 rfl)⟩
def zdd:zpL x y=true↔x=y:=by
 induction x generalizing y with
 | nil=>cases y with
  | nil=>exact⟨λ_=>rfl,λ_=>rfl⟩
  | cons b s=>exact⟨λh=>(by cases h),λh=>(by cases h)⟩
 | cons a r c=>cases y with
  | nil=>exact⟨λh=>(by cases h),λh=>(by cases h)⟩
  | cons b s =>
   show(match zii a b with | true=>zpL r s | false=>false)=true↔_
   cases h:zii a b with
   | true=>rw[zbH.mp h];exact c.trans ⟨λh=>(by rw[h]),λh=>(by cases h;rfl)⟩
   | false=>exact⟨λh=>(by cases h),λe=>(by cases e;rw[zbH.mpr rfl]at h;cases h)⟩
def zeX (x y:List Key):Decidable (x=y):=match h:zpL x y with
 | true=>.isTrue (zdd.mp h)
 | false=>.isFalse λe=>by rw[zdd.mpr e]at h;cases h
def WQ:List (List Key)->zg->List Key->Option D
 | k'::ks,v::vs,k=>@ite _ (k'=k) (zeX k' k) (some v) (WQ ks vs k)
 | _,_,_=>none
def zpK:List (List Key)->zg->List Key->D->zg
 | k'::ks,v::vs,k,d=>(@ite _ (k'=k) (zeX k' k) d v)::zpK ks vs k d
 | _,_,_,_=>[]
def zgd (a:List (List Key))(b:zg)(k:List Key):List (List Key):=if (WQ a b k).isSome=true then a else a++[k]
def zfW (b:List (List Key))(a:zg)(k:List Key)(d:D):zg:=if (WQ b a k).isSome=true then zpK b a k d else a++[d]
def zaO {k:List Key}:WQ (a::b) (v::c) k=if a=k then some v else WQ b c k:=by
 show @ite _ (a=k) (zeX a k) (some v) (WQ b c k)=_
 by_cases h:a=k
 .rw[t9 h,t9 h]
 .rw[j5 h,j5 h]
section
variable [KK]
def zct {d:D}{k:Key}(h:zqC d=some k)(a:At F d y):y=kV k:=by
 cases d with
 | int i=>cases h;exact a.int_inv
 | str x=>cases h;exact a.str_inv
 | _=>cases h
def zda:∀ {b:zg} {c:List Key} {e:zw},zj1 b=some c->AtL F b e->e=c.map kV
 | [],_,_,h,a=>by cases h;exact a.nil_inv
 | d::b,_,_,h,a=>by
  obtain⟨k,j,f⟩:=u4.mp h
  obtain⟨r,g,rfl⟩:=u9.mp f
  obtain⟨x,m,rfl,i,l⟩:=a.cons_inv
  rw[zct j i,zda g l]
  rfl
def ze7 {F:Hp}{d:D}{k:List Key}(h:keyT d=some k)(a:At F d y):∃ b,y=.ref b/\F b=some (.tup (k.map kV)):=by
 cases d with
 | tup f =>
  obtain⟨b,g,rfl,c,e⟩:=a.tup_inv
  rw[zda (show zj1 f=some k from h) e]at c
  exact⟨b,rfl,c⟩
 | _=>cases h
section
variable {κ:Type}[DecidableEq κ](f:κ->List Key)(hf:∀ a b,f a=f b->a=b)
include hf
theorem VL {k:κ}:∀ {b:List (κ × V)} {c:zg},AtL F c (b.map (·.2)) ->
 (∀ d,WQ (b.map λp=>f p.1) c (f k)=some d->∃ x,zdv b k=some x/\At F d x)/\(WQ (b.map λp=>f p.1) c (f k)=none->zdv b k=none)
 | [],_,_=>⟨λd h=>(by cases h),λ_=>rfl⟩
 | p::b,[],a=>by cases a.nil_inv
 | p::b,v::c,a=>by
  obtain⟨x,r,e,g,i⟩:=a.cons_inv
  cases e
  have j:=VL (k:=k) i
  by_cases h:p.1=k
  .rw[XX h]
   have e:WQ ((p::b).map λp=>f p.1) (v::c) (f k)=some v:=by
    rw[o7,zaO,t9 (by rw[h])]
   rw[e]
   exact⟨λd z=>(by cases z;exact⟨_,rfl,g⟩),λz=>(by cases z)⟩
  .rw[XI h]
   have e:WQ ((p::b).map λp=>f p.1) (v::c) (f k)=WQ (b.map λp=>f p.1) c (f k):=by
    rw[o7,zaO,j5 (λz=>h (hf _ _ z))]
   rw[e]
   exact j
theorem zi5 {k:κ}{b:List (κ × V)}(a:AtL F c (b.map (·.2))):(WQ (b.map λp=>f p.1) c (f k)).isSome=(zdv b k).isSome:=by
 obtain⟨i,g⟩:=VL f hf (k:=k) a
 cases h:WQ (b.map λp=>f p.1) c (f k) with
 | none=>rw[g h];rfl
 | some d=>obtain⟨x,e,_⟩:=i d h;rw[e];rfl
theorem zeT {k:κ}{d:D}(i:At F d y):∀ {b:List (κ × V)} {c:zg},AtL F c (b.map (·.2)) ->
 AtL F (zpK (b.map λp=>f p.1) c (f k) d) ((b.map λg=>if g.1=k then (g.1,y)else g).map (·.2))
 | [],_,_=>by unfold zpK;exact .nil
 | p::b,[],a=>by cases a.nil_inv
 | p::b,v::c,a=>by
  obtain⟨x,r,e,j,m⟩:=a.cons_inv
  cases e
  have l:=zeT (k:=k) i m
  rw[o7,o7]
  refine AtL.cons ?_ l
  by_cases h:p.1=k
  .rw[t9 h,t9 (by rw[h])];exact i
  .rw[j5 h,j5 (λz=>h (hf _ _ z))];exact j
theorem zgZ {k:κ}{d:D}(g:At F d y){b:List (κ × V)}(a:AtL F c (b.map (·.2))) :
 (zcv b k y).map (λp=>f p.1)=zgd (b.map λp=>f p.1) c (f k)/\AtL F (zfW (b.map λp=>f p.1) c (f k) d) ((zcv b k y).map (·.2)):=by
 unfold zcv zgd zfW
 rw[zi5 f hf a,zaf]
 cases h:(zdv b k).isSome with
 | true =>
  rw[t9 rfl,t9 rfl,t9 rfl]
  refine⟨?_,zeT f hf g a⟩
  rw[u0V]
  refine u1Y λp _=>?_
  by_cases e:p.1=k
  .show f (if p.1=k then (p.1,y)else p).1=_;rw[t9 e]
  .show f (if p.1=k then (p.1,y)else p).1=_;rw[j5 e]
 | false =>
  rw[j5 u7,j5 u7,j5 u7,p4,p4]
  exact⟨rfl,a.append (.cons g .nil)⟩
end
def zhD (a b:Key)(h:[a]=[b]):a=b:=by cases h;rfl
def zkq (a b:List Key)(h:a=b):a=b:=h
def zlQ {t:Bool}{g:List (List Key)}{k:List Key}(s:zN F H)(c:V8 F a z t g j)(n:AtL F h j)(f:zm4 t m=some k)(i:At F m y) :
 ∃ o,zqG H a y o/\(∀ d,WQ g h k=some d->∃ x,o=some x/\At F d x)/\(WQ g h k=none->o=none):=by
 obtain⟨u,c,l⟩:=(c.mono s).rd
 unfold zcz at c
 unfold zm4 at f
 cases t with
 | true =>
  rw[t9 rfl]at c f
  obtain⟨e,rfl,rfl,rfl⟩:=c
  obtain⟨b,rfl,p⟩:=ze7 f i
  exact⟨_,.inr ⟨e,k,b,l,rfl,s _ _ p,rfl⟩,VL (λk=>k) zkq n⟩
 | false =>
  rw[j5 u7]at c f
  obtain⟨e,rfl,rfl,rfl⟩:=c
  obtain⟨q,r,rfl⟩:=u9.mp f
  rw[zct r i]
  exact⟨_,.inl ⟨e,q,l,rfl,rfl⟩,VL (λk=>[k]) zhD n⟩
def zmz {H:Hp}{t:Bool}{f:List (List Key)}{g:zg}{d:D}{k:List Key}(h:H a=some o)(c:zcz o t f r)(w:AtL F g r)(e:zm4 t u=some k)(q:At G u y)(s:zN G H)(n:At F d v)(m:f.length<sizeLine):∃ p,zjG H a y v (upd H a p)/\zdl F p (.m t (zgd f g k) (zfW f g k d)):=by
 unfold zcz at c
 unfold zm4 at e
 cases t with
 | true =>
  rw[t9 rfl]at c e
  obtain⟨j,rfl,rfl,rfl⟩:=c
  obtain⟨b,rfl,z⟩:=ze7 e q
  obtain⟨l,i⟩:=zgZ (λk=>k) zkq (k:=k) n w
  refine⟨_,zjG.t h (s _ _ z) (by simpa using m),_,?_,i⟩
  unfold zcz
  rw[t9 rfl]
  exact⟨_,rfl,l,rfl⟩
 | false =>
  rw[j5 u7]at c e
  obtain⟨j,rfl,rfl,rfl⟩:=c
  obtain⟨x,A,rfl⟩:=u9.mp e
  rw[zct A q]
  obtain⟨l,i⟩:=zgZ (λk=>[k]) zhD (k:=x) n w
  refine⟨_,zjG.k h (by simpa using m),_,?_,i⟩
  unfold zcz
  rw[j5 u7]
  exact⟨_,rfl,l,rfl⟩
def zo3 (a:Bool):xE
 | kd,.dct _ t ks vs=>(zm4 t kd).map λk=>.bl (a != (WQ ks vs k).isSome)
 | _,_=>none
section
variable {X:Cx}{a b c:Expr}{pos apos:Pos}
def rDIn (b:Bool):R2:=λx y H Q=>∃ a o,y=.ref a/\zqG H a x o/\Q (.bl (b != o.isSome)) H
def zgl {k:Nat}(d:yY k X.A):OpR X (compareOp .In) (rDIn false):=by
 intro b s σ H x y v u Q I c e h
 obtain⟨a,o,rfl,g,q⟩:=h
 obtain rfl:u=Value.ref a:=e
 exact d_in (znx d) I g c λf I3=>⟨.bl o.isSome,H,I3,rfl,by simpa using q⟩
def zcf {a:Bool}:OpD (rDIn a) (zo3 a):=by
 intro F H x y d e z Q s g m h q
 cases e with
 | dct v t b c =>
  obtain⟨k,n,rfl⟩:=u9.mp h
  obtain⟨p,u,rfl,j,r⟩:=m.dct_inv
  obtain⟨o,f,l,i⟩:=zlQ s j r n g
  refine⟨p,o,rfl,f,?_⟩
  have e:(WQ b c k).isSome=o.isSome:=by
   cases h:WQ b c k with
   | none=>rw[i h];rfl
   | some d=>obtain⟨w,rfl,_⟩:=l d h;rfl
  rw[<-e]
  exact q F H _ (.refl s) .bl
 | _=>cases h
end
section
variable {X:Cx}{a e ko:Expr}{pos pos':Pos}{st:Stmt}
def zic (t:Bool)(i:Nat):zz:=fun ρ=>.nx (ρ.set i (.m t [] []))
def zeY {t:Bool}{i:Nat}(e:X.N.Nodup)(l:X.N[i]?=some x)(j:Loc X.env.scope x)(c:swapsWith (.Dict [] [] pos) (some (.Name x pos')) pos.line X.env=pure false:=by rfl)(d:X.fn x=true\/X.env.scope.names.lookup x=some .local:=by first | exact .inl rfl | exact .inr rfl | assumption)(c:swapsWith (.Dict [] [] h) (some (.Name x pos')) pos.line X.env=pure false:=by rfl):SD X (.Assign [.Name x pos'] (.Dict [] [] h) pos) (zic t i):=by
 have f:∀ (o:HO),zdl (λ_=>none) o (.m t [] [])->∀ (Fb Hb F H:Hp) (ρ:SE) (σ:St) (E:Z7),Rl Fb Hb F H ρ σ->SOk Fb Hb E (zic t i ρ)->∀ p,H p=none->E.nx (σ.set i (some (.ref p))) (upd H p o):=λo m Fb Hb F H ρ σ E a k p b=>by
  have g:=Gr.hide a.gr.fh b o
  refine k F _ _ ((a.grow g).setW (a.notbase b) (a.gr.fh.free b) zd (m.mono λ_ _ z=>by cases z) (a.notown g b))
 cases t with
 | true =>
  refine⟨_,wJ e l j ziV c d,λFb Hb F H ρ σ E a k=>?_⟩
  refine λp b=>f (.dT []) ⟨[],?_,.nil⟩ Fb Hb F H ρ σ E a k p b
  unfold zcz
  rw[t9 rfl]
  exact⟨[],rfl,rfl,rfl⟩
 | false =>
  refine⟨_,wJ e l j ziZ c d,λFb Hb F H ρ σ E a k=>?_⟩
  refine λp b=>f (.dK []) ⟨[],?_,.nil⟩ Fb Hb F H ρ σ E a k p b
  unfold zcz
  rw[j5 u7]
  exact⟨[],rfl,rfl,rfl⟩
def zne (ρ:SE)(i:Nat)(a d:D):Option SE:=match ρ[i]? with
 | some (.m t ks vs)=>(zm4 t a).bind λk=>if decide (ks.length<sizeLine)=true then some (ρ.set i (.m t (zgd ks vs k) (zfW ks vs k d)))else none
 | _=>none
def zd2 (m:Bool)(i:Nat)(a e:zJ):zz:=fun ρ=>match (vEv m e ρ).bind λd=>(a (visG ρ)).bind λc=>zne ρ i c d with
 | some b=>.nx b
 | none=>.no
def zeS {k:Nat}(T:yY k X.A)(W:ED X e x)(L:PE X a (xz i))(M:ED X ko s)(f:swapsWith e (some (.Subscript a ko pos')) pos.line X.env=pure false:=by rfl):SD X (.Assign [.Subscript a ko pos'] e pos) (zd2 m i s x):=by
 obtain⟨t,p,r⟩:=W
 obtain⟨tk,N,O⟩:=M
 refine⟨_,zlM (znx T) L N p f,λFb Hb F H ρ σ E B k=>?_⟩
 unfold zd2 at k
 cases h:(vEv m x ρ).bind λd=>(s (visG ρ)).bind λC=>zne ρ i C d with
 | none=>rw[h]at k;exact k.elim
 | some ρ' =>
  rw[h]at k
  obtain⟨d,Q,c⟩:=u4.mp h
  obtain⟨C,S,c⟩:=u4.mp c
  unfold zne at c
  split at c
  .rename_i tt y vs f
   obtain⟨Z,I,n⟩:=u4.mp c
   have z:decide (y.length<sizeLine)=true:=by
    cases P:decide (y.length<sizeLine) with
    | true=>rfl
    | false=>rw[P,j5 u7]at n;cases n
   rw[t9 z]at n
   cases n
   refine r.at B Q λF' H' v g R=>?_
   have b:=B.grow g
   obtain⟨q,o,w,_⟩:=b.ows i _ f rfl
   refine⟨_,w,?_⟩
   refine O σ _ _ H' _ _ b.gh b.visG S λF3 H3 v3 A u=>?_
   obtain⟨G,_⟩:=b.back A
   have l:=b.grow G
   obtain⟨q3,Y,j,_,_,U,xs,V,K⟩:=l.ows i _ f rfl
   rw[w]at j
   cases j
   obtain⟨o',J,hw⟩:=zmz U V K I u A.fh (R.mono G.ff) (k8 z)
   exact⟨q,_,rfl,J,k _ _ σ (l.mutW f rfl w hw)⟩
  .cases c
end
end
end Dl
namespace L2
open PySem PySem.Spec PyProof.Rows
section
variable {prog:zO}{w:World}{A:zM}{E:yT}{s:zm}{d it:Addr}{o:Obj}{es:Array DictEntry}{ep i:Nat}
def raw_iter {Q:yT}(f:(d == sysModules)=false)(a:s.heap.get? d=some o)(e:o.ExactDict)(c:o.data=.dict es ep)
 (g:Q (.ref s.heap.objs.size) { s with heap:=s.heap.push { cls:=.type "dict_keyiterator",data:=.fields #[.ref d,.int 0 0,.int es.size 0,.int ep 0] } }):wpAny (model prog w) A (pyIter (.ref d)) Q E s:=by
 have b:s.TypeIs (.ref d) "dict":=⟨o,a,e.1⟩
 refine wpAny_pyIter_slot b PySem.F.slot_dict_iter (u0h PySem.F.slot_dict_iter b PySem.F.entry_dict_iter ?_ (PySem.F.args_dict_iter_1 _))
 unfold Builtin.«dict.__iter__»
 refine u5 ?_
 unfold Builtin.Dict.dictSlotNone
 refine u5 (wpAny_notOrdered_dict b ?_)
 show wpAny _ _ (pure (Value.ref d)) _ _ s
 refine t5 ?_
 show wpAny _ _ (Builtin.Dict.showsAll d>>=_) _ _ s
 unfold Builtin.Dict.showsAll
 rw[j5 (by rw[f];exact u7)]
 refine u5 (t5 (u5 (u2x a c (u5 (wpAny_dictEpoch a c ?_)))))
 refine u5 (l8 (t5 ⟨_,rfl,"dict_keyiterator",_,⟨_,k9 _ rfl,rfl⟩,l7.lookup,?_⟩))
 simpa [rawInt]using g
def raw_next {e:DictEntry}{Q:Option Value->Shared->Prop}(a:s.heap.IsKeyIter it d i es.size ep)(k:s.heap.get? d=some o)(l:o.data=.dict es ep)(m:es[i]?=some e)
 (n:∀ j,j.IsKeyIter it d (i+1) es.size ep->Heap.SameBut it s.heap j->Q (some e.key) { s with heap:=j }):wpAny (model prog w) A (pyNext (.ref it)) Q E s:=by
 obtain⟨p,f,h,b⟩:=id a
 unfold pyNext
 refine u5 (u1o (i5 (name:=Str.ofString "__next__") a.typeIs l7
  (u0h l7 a.typeIs u1a ?_ (u03 _))))
 refine u5 (t5 ?_)
 refine u5 ?_
 refine u5 ?_
 first | refine u5 (u0r a.typeIs (t5 ?_)) | refine u5 (u0L a.typeIs (t5 ?_))
 refine u5 (wpAny_fieldsOf f b ?_)
 have g:Builtin.Dict_items.ownsTuple "dict_keyiterator"=false:=by decide
 simp only[g,u1f,u2m]
 show wpAny _ _ (if (Value.ref d == Value.none)=true then _ else _) _ _ s
 rw[j5 (show ¬ ((Value.ref d == Value.none)=true)from u7)]
 refine u5 (t5 (u5 (u2x k l ?_)))
 rw[j5 (by simp)]
 refine u5 (t5 (u5 (wpAny_dictEpoch k l ?_)))
 rw[j5 (by simp)]
 refine t5 ?_
 simp only[show ¬ ((i:Int)<0)from by omega,u2m,u0H,m]
 refine u5 ?_
 first | refine u5 (u0r a.typeIs (t5 ?_)) | refine u5 (u0L a.typeIs (t5 ?_))
 refine u5 (wpAny_isOneOf_keyiter a.typeIs ?_)
 show wpAny _ _ (setField (.ref it) 1 (rawInt ((i:Int)+1))>>=_) _ _ s
 refine u5 (u2r f b (by simp) ?_)
 have c:(s.heap.update it (Obj.mapFields (·.setIfInBounds 1 (rawInt ((i:Int)+1))))).IsKeyIter it d (i+1) es.size ep :=
  ⟨_,i2 _ f (Obj.isFreed_of_fields (u1l b _)),(Obj.cls_mapFields ..).trans h,by rw[u1l b];simp[rawInt]⟩
 refine u5 (i0 ?_)
 refine u5 (wpAny_isOneOf_keyiter (s:={ s with heap:=s.heap.update it (Obj.mapFields (·.setIfInBounds 1 (rawInt ((i:Int)+1)))) }) c.typeIs ?_)
 show wpAny _ _ (pure e.key) _ _ _
 exact t5 (t5 ⟨_,rfl,t5 (n _ c (u08 ..))⟩)
def raw_end {Q:Option Value->Shared->Prop}(n:A.handled=none)(c:s.heap.IsKeyIter it d i es.size ep)(h:s.heap.get? d=some o)(j:o.data=.dict es ep)(l:es.size<=i)
 (q:∀ k,Heap.ExtBut it s.heap k->Q none { s with heap:=k }):wpAny (model prog w) A (pyNext (.ref it)) Q E s:=by
 obtain⟨r,f,p,e⟩:=id c
 unfold pyNext
 refine u5 (u1o (i5 (name:=Str.ofString "__next__") c.typeIs l7
  (u0h l7 c.typeIs u1a ?_ (u03 _))))
 refine u5 (t5 ?_)
 refine u5 ?_
 refine u5 ?_
 first | refine u5 (u0r c.typeIs (t5 ?_)) | refine u5 (u0L c.typeIs (t5 ?_))
 refine u5 (wpAny_fieldsOf f e ?_)
 have g:Builtin.Dict_items.ownsTuple "dict_keyiterator"=false:=by decide
 simp only[g,u1f,u2m]
 show wpAny _ _ (if (Value.ref d == Value.none)=true then _ else _) _ _ s
 rw[j5 (show ¬ ((Value.ref d == Value.none)=true)from u7)]
 refine u5 (t5 (u5 (u2x h j ?_)))
 rw[j5 (by simp)]
 refine u5 (t5 (u5 (wpAny_dictEpoch h j ?_)))
 rw[j5 (by simp)]
 refine t5 ?_
 simp only[show ¬ ((i:Int)<0)from by omega,u2m,u0H,Array.getElem?_eq_none l]
 refine u5 ?_
 first | refine u5 (u0r c.typeIs (t5 ?_)) | refine u5 (u0L c.typeIs (t5 ?_))
 show wpAny _ _ (setField (.ref it) 0 .none>>=_) _ _ s
 refine u5 (u2r f e (by simp) ?_)
 show wpAny _ _ (newExc (.type "StopIteration") []>>=_) _ _ _
 refine u5 ?_
 simp only[newExc,newTuple]
 refine u5 (l8 ?_ (by size_fits))
 refine u5 (m:=firstArgMember _ _) (wpAny_of_eq (a:=Value.none) (by first | rfl | (simp only[firstArgMember];rfl)) ?_)
 refine l8 ?_ (by size_fits)
 simp only[raiseNew]
 refine u5 (wpAny_handled ?_)
 rw[show A.in1.handled=none from n]
 refine u5 (t5 (wpAny_throw ?_))
 refine u5 (wpAny_isInstance (T:="StopIteration") (b:=true) ⟨_,k9 _ rfl,rfl⟩ isSubtype_stop ?_)
 exact t5 (q _ (((u08 ..).extBut.push _).push _))
end
def dLen:HO->Nat
 | .dK a=>a.length
 | .dT a=>a.length
 | _=>0
def zjo (u:HO):Prop:=(∃ a,u=.dK a)\/∃ a,u=.dT a
section
variable {X:Cx}{tg:Expr}
def Inv.frz {a:xp}{σ:St}{H:Hp}{s:zm}{p:Addr}{u:HO}(I:Inv X a σ H s)(e:H p=some u)(i:zjo u):∃ t,Inv X a σ (upd H p (.frz t u)) s:=by
 have ok:=I.hok p u e
 have k:Mut (H p):=by
  rw[e]
  rcases i with ⟨d,rfl⟩ | ⟨d,rfl⟩ <;> exact True.intro
 rcases i with ⟨d,rfl⟩ | ⟨d,rfl⟩
 .obtain⟨z,f,l,m,o,h,g,c,r⟩:=ok
  refine⟨o,I.write (h':=s.heap) (t':=s.toks) k (.inl rfl) (λb u _ e=>e) ⟨o,c⟩ ⟨c,z,f,l,m,o,h,g,c,r⟩⟩
 .obtain⟨z,f,q,n,o,h,g,c,r⟩:=ok
  refine⟨o,I.write (h':=s.heap) (t':=s.toks) k (.inl rfl) (λb u _ e=>e) ⟨o,c⟩ ⟨c,z,f,q,?_,o,h,g,c,r⟩⟩
  exact KT.keeps n λb v j=>by
   rw[zf (zjD j e (λz=>nomatch z))]
   exact j
def tFrz (i:Nat)(t:TS):TS:=λE σ H=>∃ p u,σ[i]?=some (some (.ref p))/\H p=some u/\zjo u/\∀ a,t E σ (upd H p (.frz a u))
def zlu {t:TS}(i:Nat)(h:PSs X b t):PSs X b (tFrz i t):=by
 intro a s σ H E I q
 obtain⟨p,u,_,e,d,q⟩:=q
 obtain⟨c,I2⟩:=I.frz e d
 exact h a s σ _ E I2 (q c)
end
end L2
namespace Dl
open PySem L2
section
variable [KK]
def zlE {t:Bool}{b:List (List Key)}(h:zcz u t b c):zjo u/\dLen u=b.length:=by
 unfold zcz at h
 cases t with
 | true=>rw[t9 rfl]at h;obtain⟨a,rfl,rfl,_⟩:=h;exact⟨.inr ⟨_,rfl⟩,by rw[t4];rfl⟩
 | false=>rw[j5 u7]at h;obtain⟨a,rfl,rfl,_⟩:=h;exact⟨.inl ⟨_,rfl⟩,by rw[t4];rfl⟩
def Gr.see {H:Hp}(s:zN F H)(h:H b=some (.tup c)):∃ F',Gr F H F' H/\F' b=some (.tup c):=by
 cases e:F b with
 | some o =>
  have:=s _ _ e
  rw[h]at this
  cases this
  exact⟨F,.refl s,e⟩
 | none =>
  refine⟨upd F b (.tup c),⟨λp o z=>?_,λp o z=>?_,λp o f d=>⟨?_,d⟩⟩,zd⟩
  .rw[zf (ze z e)];exact z
  .by_cases a:p=b
   .subst a;rw[zd]at z;cases z;exact h
   .rw[zf a]at z;exact s p o z
  .by_cases a:p=b
   .subst a
    rw[h]at d
    cases d
    exact .inr ⟨⟨_,rfl⟩,zd⟩
   .exact .inl (by rw[zf a];exact f)
section
variable {X:Cx}{tg a b e k v:Expr}{pos pos':Pos}{sts:wN}
def zpU (i:Nat)(g:zz):zz:=fun ρ=>match ρ[i]? with
 | some (.m t ks vs)=>g (ρ.set i (.v (.dct true t ks vs)))
 | _=>.no
def Rl.fzM {H:Hp}{ρ:SE}{i:Nat}{t:Bool}(r:Rl Fb Hb F H ρ σ)(h:ρ[i]?=some (.m t E G)) :
 ∃ p u,σ[i]?=some (some (.ref p))/\H p=some u/\zjo u/\∀ C,Rl Fb Hb (upd F p (.frz C u)) (upd H p (.frz C u)) (ρ.set i (.v (.dct true t E G))) σ:=by
 obtain⟨p,u,B,e2,e3,W,xs,N,al⟩:=r.ows i _ h rfl
 refine⟨p,u,B,W,(zlE N).1,λC=>?_⟩
 have T:i<ρ.length:=(j3.mp h).1
 have m:zN F (upd F p (.frz C u)):=λb o e=>by rw[zf (ze e e3)];exact e
 have n:∀ {j:Nat} {s:Sl},(ρ.set i (.v (.dct true t E G)))[j]?=some s->s.isO=true->i≠j:=λ{j s} h c e=>by
  subst e
  rw[j8 T]at h
  cases h
  cases c
 refine⟨⟨r.gr.ff.trans m,λb o z=>?_,λb o z1 O=>?_⟩,λj d z=>?_,λj s z c=>?_,λj k q s s' g I R Q X h4=>?_,by simp[r.len],r.dk.step (λj x d' ps M=>?_) m λj x d' ps Z dx q vw vh ys f A L J K Y S=>?_⟩
 .by_cases l:b=p
  .subst l;rw[zd]at z ⊢;exact z
  .rw[zf l]at z ⊢;exact r.gr.fh b o z
 .have l:b≠p:=ze O e2
  obtain⟨x,y⟩:=r.gr.kp b o z1 O
  refine⟨?_,by rw[zf l];exact y⟩
  unfold Hid
  rw[zf l]
  exact x
 .by_cases a:i=j
  .subst a
   rw[j8 T]at z
   cases z
   refine⟨_,B,?_⟩
   unfold At
   exact⟨p,xs,rfl,⟨u,N,by rw[t9 rfl];exact⟨C,zd⟩⟩,al.mono m⟩
  .rw[u6 a]at z
   obtain⟨v,f,A⟩:=r.vals j d z
   exact⟨v,f,A.mono m⟩
 .have a:=n z c
  rw[u6 a]at z
  obtain⟨q,y,f,A,L,J,K⟩:=r.ows j s z c
  have U:q≠p:=λw=>a (r.dis i j p _ s h z rfl c B (by rw[<-w];exact f))
  exact⟨q,y,f,A,by rw[zf U];exact L,by rw[zf U];exact J,K.mono m⟩
 .have V:=n g R
  have a2:=n I Q
  rw[u6 V]at g
  rw[u6 a2]at I
  exact r.dis j k q s s' g I R Q X h4
 .have a:=n M rfl
  rw[u6 a]at M
  exact⟨M,rfl⟩
 .have n1:Z≠p:=λw=>by
   have a:=r.dis i j p _ _ h f rfl rfl B (by rw[<-w];exact A)
   subst a
   rw[h]at f
   cases f
  have P:q≠p:=λw=>S i _ h rfl (by rw[w];exact B)
  refine⟨by rw[zf n1];exact L,J,by rw[zf P];exact K,by rw[zf P];exact Y,λk s g c=>?_⟩
  have a:=n g c
  rw[u6 a]at g
  exact S k s g c
def zgO {g:zz}(i:Nat)(h:SDs X sts g):SDs X sts (zpU i g):=by
 obtain⟨t,p,r⟩:=h
 refine⟨_,zlu i p,λFb Hb F H ρ σ E f k=>?_⟩
 unfold zpU at k
 split at k
 .rename_i n l m a
  obtain⟨q,u,c,e,d,b⟩:=f.fzM a
  exact⟨q,u,c,e,d,λj=>r Fb Hb _ _ _ σ E (b j) k⟩
 .exact k.elim
end
end
end Dl
namespace OwnRep
open PySem Builtin
def zml {α:Type}{a b:Sem α}{Q:α->Shared->Prop}(d:c=false)(h:wpAny M A b Q E s):wpAny M A (if c=true then a else b) Q E s:=by rw[d,j5 u7];exact h
def noFill_tuple_mul:fillsNumberSlot (.type "tuple") "mul"=pure false :=
 fillsNumberSlot_seq (id:="tuple.__mul__") (r:=some (.builtin "tuple.__rmul__")) u04.lookup (by decide +kernel) F.slot_tuple_rmul.lookup (by decide +kernel)
def repeat_tuple:seqRepeat? (.type "tuple")=pure (some (.builtin "tuple.__mul__")):=by
 unfold seqRepeat?
 rw[seqSlot_of (T:="tuple") (name:="__mul__") (id:="tuple.__mul__") u04.lookup (by decide +kernel),seqSlot_of (T:="tuple") (name:="__rmul__") (id:="tuple.__rmul__") F.slot_tuple_rmul.lookup (by decide +kernel)]
 rfl
def int_rmul_tuple (a:Int)(t:Tok)(l:Addr)(b:wY)(n:Nat)(e:yM)(f:Array (Option Value)) :
 Meets (Builtin.«int.__rmul__» ⟨[.int a t,.ref l],[]⟩) (λ_ R s=>s.heap.get? l=some { cls:=.type "tuple",dict:=e,data:=.seq b n,slots:=f }/\R (.ok (.ret Value.notImplemented)) s) :=
 .of_wp λc w A R s h=>by obtain⟨j,g,d,k,os⟩:=s;obtain⟨i,h⟩:=h;wp_walk;exact⟨_,rfl,h⟩
def tmul_same (l:Addr)(a:wY)(n:Nat)(f:yM)(i:Array (Option Value))(x:Int)(u:Tok)(b:(decide (x < -(2^63))||decide (x >= 2^63))=false)(e:(a.isEmpty||x == 1)=true) :
 Meets (Builtin.«tuple.__mul__» ⟨[.ref l,.int x u],[]⟩) (λ_ R s=>s.heap.get? l=some { cls:=.type "tuple",dict:=f,data:=.seq a n,slots:=i }/\R (.ok (.ret (Value.ref l))) s) :=
 .of_wp λc w A R s h=>by obtain⟨k,g,d,m,os⟩:=s;obtain⟨j,h⟩:=h;wp_walk;refine zml b ?_;wp_walk;exact⟨_,rfl,h⟩
def tmul_none (l:Addr)(a:wY)(n:Nat)(f:yM)(j:Array (Option Value))(x:Int)(u:Tok)(b:(decide (x < -(2^63))||decide (x >= 2^63))=false)(e:(a.isEmpty||x == 1)=false)(i:(decide (x<=0)||a.isEmpty)=true) :
 Meets (Builtin.«tuple.__mul__» ⟨[.ref l,.int x u],[]⟩) (λ_ R s=>s.heap.get? l=some { cls:=.type "tuple",dict:=f,data:=.seq a n,slots:=j }/\R (.ok (.ret (Value.ref s.heap.objs.size))) { s with heap:=s.heap.push { cls:=.type "tuple",data:=.seq #[] },toks:=s.toks }) :=
 .of_wp λc w A R s h=>by obtain⟨m,g,d,o,os⟩:=s;obtain⟨k,h⟩:=h;wp_walk;refine zml b ?_;wp_walk;exact⟨_,rfl,h⟩
def tmul_some (l:Addr)(a:wY)(n:Nat)(k:yM)(p:Array (Option Value))(x:Int)(u:Tok)(e:(decide (x < -(2^63))||decide (x >= 2^63))=false)(q:(a.isEmpty||x == 1)=false)(m:(decide (x<=0)||a.isEmpty)=false)(b:¬ (a.size:Int)*x>(2^63-1)/8)(o:Builtin.Tuple.tupleTooMany ((a.size:Int)*x)=false)(j:(List.foldl (λc f=>c++f) #[] (List.replicate x.toNat a)).size<=sizeLine) :
 Meets (Builtin.«tuple.__mul__» ⟨[.ref l,.int x u],[]⟩) (λ_ R s=>s.heap.get? l=some { cls:=.type "tuple",dict:=k,data:=.seq a n,slots:=p }/\R (.ok (.ret (Value.ref s.heap.objs.size))) { s with heap:=s.heap.push { cls:=.type "tuple",data:=.seq (List.foldl (λc f=>c++f) #[] (List.replicate x.toNat a)) },toks:=s.toks }) :=
 .of_wp λi w A R s h=>by obtain⟨t,g,d,v,os⟩:=s;obtain⟨r,h⟩:=h;wp_walk;refine zml e ?_;wp_walk;refine wpAny_ite_false (q4 b) ?_;wp_walk;exact⟨_,rfl,h⟩
end OwnRep
namespace L2
open PySem
section
variable {X:Cx}
def zpa (K:zu):R2:=λx y H Q=>∃ a k b,x=.ref a/\y=.int k/\SqT K H a b/\b≠[]/\-(2^63)<=k/\k<2^63/\b.length*k.toNat<=sizeLine /\
 (k=1->Q (.ref a) H)/\(k≠1->∀ p,H p=none->Q (.ref p) (upd H p (.tup (List.replicate k.toNat b).flatten)))
def zlB:OpR X (binaryOp .Mult) (zpa X.K):=by
 intro j s σ H x y v u Q I V O h
 obtain⟨a,k,M,rfl,rfl,K,W,h1,h2,C,P,L⟩:=h
 cases V
 obtain⟨t,rfl⟩:=O
 obtain⟨c,r,⟨⟨cls,l,N,z⟩,e,G,n,D⟩,_⟩:=I.tuple K
 simp only at G D
 subst G D
 have i:c.toArray.isEmpty=false:=by
  cases c with
  | nil=>exact absurd (r.nil_iff.mp rfl) W
  | cons _ _=>rfl
 have f:(decide (k < -(2^63))||decide (k >= 2^63))=false:=by
  rw[q4 (by omega),q4 (by omega)];rfl
 have d:∀ m:Nat,List.foldl (λS Z=>S++Z) #[] (List.replicate m c.toArray)=(List.replicate m c).flatten.toArray:=λm=>by
  have:=WB c m []
  rw[List.nil_append]at this
  exact this
 have J:((List.replicate k.toNat c).flatten).length<=sizeLine:=by rw[zcD,<- r.length,Nat.mul_comm];exact C
 have B:∀ {Q':yT},wpAny (model X.prog X.w) X.A (call (.builtin "tuple.__mul__") [.ref a,.int k t]) Q' X.xe s->wpAny (model X.prog X.w) X.A (binaryOp .Mult (.ref a) (.int k t)) Q' X.xe s:=λ{Q'} w =>
  wpAny_binaryOp_repeat_ref (T:="tuple") (U:="int") (by decide) ⟨_,e,rfl⟩ (λs'=>u2U s' k t) OwnRep.noFill_tuple_mul F.fills_int_mul u1U OwnRep.repeat_tuple F.slot_int_index.lookup
   (u0u u1U (u2U s k t) F.entry_int_rmul (F.args_int_rmul_2 _ _) (OwnRep.int_rmul_tuple k t a c.toArray n l z) ⟨e,rfl,⟨_,e,rfl⟩,w⟩)
 by_cases A:k=1
 .exact B (u0u u04 ⟨_,e,rfl⟩ u2t (u2d _ _) (OwnRep.tmul_same a c.toArray n l z k t f (by rw[A];simp)) ⟨e,⟨.ref a,H,I,rfl,P A⟩⟩)
 have g:(c.toArray.isEmpty||k == 1)=false:=by rw[i,Bool.false_or];exact g6.mpr A
 have fin:∀ (p:zx),p=(List.replicate k.toNat c).flatten->EP X j σ Q (.ref s.heap.objs.size) { s with heap:=s.heap.push { cls:=.type "tuple",data:=.seq p.toArray },toks:=s.toks }:=λp Y=>by
  refine⟨.ref s.heap.objs.size,_,I.laid (t':=s.toks) (o:=.tup (List.replicate k.toNat M).flatten) (λb ob q=>u8 _ q) (t6 _) ?_,rfl,L A _ (I.hok.fresh (t6 _))⟩
  refine⟨by rw[zcD,Nat.mul_comm];exact C,p,?_,PyProof.Rows.IsTup.new _ _⟩
  rw[Y]
  exact r.rep k.toNat
 by_cases E:k<=0
 .refine B (u0u u04 ⟨_,e,rfl⟩ u2t (u2d _ _) (OwnRep.tmul_none a c.toArray n l z k t f g (by rw[q5 E];rfl)) ⟨e,fin [] ?_⟩)
  rw[show k.toNat=0 by omega]
  rfl
 .have R:(c.toArray.size:Int)*k<=(sizeLine:Int):=by
   have:((c.length*k.toNat:Nat):Int)<=(sizeLine:Int):=by rw[<-r.length];exact Int.ofNat_le.mpr C
   rw[Int.natCast_mul,Int.toNat_of_nonneg (by omega)]at this
   exact this
  refine B (u0u u04 ⟨_,e,rfl⟩ u2t (u2d _ _) (OwnRep.tmul_some a c.toArray n l z k t f g (by rw[i,Bool.or_false];exact q4 E) ?_ ?_ ?_) ⟨e,?_⟩)
  .have:(sizeLine:Int)<=(2^63-1)/8:=by decide
   omega
  .unfold Builtin.Tuple.tupleTooMany
   exact q4 (by omega)
  .rw[d,t7]
   exact J
  .rw[d]
   exact fin _ rfl
end
end L2
namespace Dl
open PySem L2
section
variable [KK]
def zjp:xE
 | .tup a,.int k=>if a≠[]/\-(2^63)<=k/\k<2^63/\lim (a.length*k.toNat)=true then some (.tup (List.replicate k.toNat a).flatten)else none
 | _,_=>none
def zjj:OpD (zpa K) zjp:=by
 intro F H x y d e z Q s m j a q
 cases d <;> try cases a
 cases e <;> try cases a
 rename_i f k
 unfold zjp at a
 dsimp only at a
 split at a <;> cases a
 rename_i b
 obtain⟨p,i,rfl,h,c⟩:=m.tup_inv
 refine⟨p,k,i,rfl,j.int_inv,SqT.of (s _ _ h),λe=>b.1 ?_,b.2.1,b.2.2.1,by rw[c.length];exact k8 b.2.2.2,λe=>?_,λ_ r l=>?_⟩
 .subst e
  exact u0s.mp c.length.symm
 .subst e
  refine q F H _ (.refl s) ?_
  show At F (.tup (List.replicate 1 f).flatten) _
  rw[show(List.replicate 1 f).flatten=f by simp]
  exact .tup h c
 .have g:=Gr.alloc s l (.tup (List.replicate k.toNat i).flatten)
  exact q _ _ _ g (.tup zd ((c.rep _).mono g.ff))
section
variable {X:Cx}{a b:Expr}{pos:Pos}
def zli {f:zJ}(d:ED X a f)(c:ED X b h):ED X (.BinOp a .Mult b pos) (zn zjp f h):=VE zlB zjj d c
end
end
end Dl
namespace L2
open PySem PySem.Spec PyProof.Rows
def zc6 {k:Str}:∀ {D:List (Str × KTD.Dat)},(∀ d,KTD.datumAt k D=some d->KTD.Opened h₀ P d)->KTD.EachL h₀ k P D
 | [],_=>trivial
 | [(x,d)],h=>λe=>h d (by show(if decide (k=x)=true then some d else none)=_;rw[t9 (q5 e)])
 | (x,d)::q::D,h=>by
  show if decide (k=x)=true then KTD.Opened h₀ P d else KTD.EachL h₀ k P (q::D)
  by_cases e:k=x
  .rw[t9 (q5 e)]
   exact h d (by show(if decide (k=x)=true then some d else _)=_;rw[t9 (q5 e)])
  .rw[j5 (by rw[q4 e];exact u7)]
   refine zc6 λa b=>h a ?_
   show(if decide (k=x)=true then some d else KTD.datumAt k (q::D))=_
   rw[j5 (by rw[q4 e];exact u7),b]
def Vz:∀ {ns:zy} {a:zx},KTD.Flats a (ns.map PyData.int)->yp (ns.map V.int) a
 | [],_,h=>by cases h;exact .nil
 | n::ns,_,h=>by
  cases h with
  | cons c b =>
   obtain⟨t,rfl⟩:=c.int_inv
   exact .cons ⟨t,rfl⟩ (Vz b)
section
variable {X:Cx}{a:Addr}{D:List (Str × KTD.Dat)}{nm:Str}{b:Expr}{p pos:Pos}{tb:TE}
def zo6 (a:Addr)(D:List (Str × KTD.Dat)):R2:=λx y H Q=>∃ s,x=.str s/\y=.ref a/\Q (.bl (KTD.inKeys s D)) H
def zdc (T:∀ h:Heap,X.K.In h->KTD.TextTab h a D):OpR X (compareOp .In) (zo6 a D):=by
 intro b s σ H x y v u Q I c d h
 obtain⟨z,rfl,rfl,q⟩:=h
 obtain⟨t,rfl⟩:=c
 cases d
 exact KTD.in_text ⟨T _ I.kIn,λ_ _ e=>e⟩ ⟨.bl _,H,I.tok _,rfl,q⟩
def tTab (D:List (Str × KTD.Dat))(b:Heap)(tb:TE):TE:=fun σ H Q=>tb σ H λy H1=>∃ (z:Str) (ns:zy),y=.str z/\KTD.datumAt z D=some (.tup (ns.map PyData.int))/\∀ p a,IsTup b p (List.toArray a)->yp (ns.map V.int) a->Q (.ref p) H1
def zos (T:∀ h:Heap,X.K.In h->KTD.TextTab h a D) (k:Gl X nm) (v:X.mg nm=some (.ref a)) (l:PE X b tb) (j:Y9 b) (e:(nm == ("__debug__":Str))=false:=by decide):PE X (.Subscript (.Name nm p) b pos) (tTab D X.base tb):=by
 intro c s σ H Q I h
 refine Subscript_ (vF I k v (thn (l c s σ H _ I h) λu w n=>?_) e)
 obtain⟨y,H1,I1,r,z,ns,rfl,i,q⟩:=n
 obtain⟨t,rfl⟩:=r
 have f:KTD.inKeys z D=true:=by rw[<-KTD.isSome_datumAt,i];rfl
 refine KTD.item_text (h₀:=X.base) ⟨T _ I.mod.kin,I1.bk⟩ f (zc6 λd e=>?_) (j _ _) (by intro _;with_unfolding_all rfl)
 rw[i]at e
 cases e
 exact λp g o m=>⟨.ref p,H1,I1.tok _,rfl,q p g o (Vz m)⟩
def rIxB (b:Heap):R2:=λx y H Q=>∃ p a c i v,x=.ref p/\y=.int i/\IsTup b p (List.toArray a)/\yp c a/\c.length<=sizeLine/\atI c i=some v/\Q v H
def zmW:IxR X (rIxB X.base):=by
 intro b d a s σ H x y v u Q I B m h A
 obtain⟨p,e,M,i,z,rfl,rfl,D,r,P,F,q⟩:=h
 cases B
 obtain⟨t,rfl⟩:=m
 have pl:IsTup s.heap p e.toArray:=by
  obtain⟨o,k,G,n,g⟩:=D
  exact⟨o,I.bk _ _ k,G,n,g⟩
 obtain⟨j,l,C,L,N,O⟩:=zao F
 obtain⟨w,E,c⟩:=r.get C
 have f:=r.length
 have K:=Xd
 have fin:EP X a σ Q w s:=⟨z,H,I,c,q⟩
 exact u1t (x:=w) pl.typeIs slot_tuple_getitem.lookup
  (getItem_tuple (j:=j) (Q:=λr J=>r=w/\EP X a σ Q r J) pl (by omega) (by omega) (by rw[t7,<- f];exact l) (by simpa using E) ⟨rfl,fin⟩) A
end
end L2
namespace Dl
open PySem L2 PySem.Spec PyProof.Rows
variable [KK]{X:Cx}{a:Addr}{T:List (Str × KTD.Dat)}{nm:Str}{b:Expr}{p p2 p3 pos:Pos}{f:zJ}
abbrev zj3:=List (Str × zy)
def zbu (t:zj3):List (Str × KTD.Dat):=t.map λq=>(q.1,.tup (q.2.map PyData.int))
def Wh:zj3->Str->Option zy
 | [],_=>none
 | q::t,x=>if x=q.1 then some q.2 else Wh t x
omit [KK] in
def WZ (x:Str):∀ t:zj3,KTD.datumAt x (zbu t)=(Wh t x).map λns=>KTD.Dat.tup (ns.map PyData.int)
 | []=>rfl
 | q::t=>by
  show(if decide (x=q.1)=true then some (KTD.Dat.tup (q.2.map PyData.int))else KTD.datumAt x (zbu t))=(if x=q.1 then some q.2 else Wh t x).map _
  by_cases h:x=q.1
  .rw[t9 (q5 h),t9 h];rfl
  .rw[j5 (by rw[q4 h];exact u7),j5 h,WZ x t]
def zkQ (t:zj3):D->Option D
 | .str x=>some (.bl (Wh t x).isSome)
 | _=>none
def zgW (t:zj3)(i:Int):D->Option D
 | .str x=>(Wh t x).bind λns=>(atI ns i).map D.int
 | _=>none
def zj4 {t:zj3} (T:∀ h:Heap,X.K.In h->KTD.TextTab h a (zbu t)) (g:Gl X nm) (w:X.mg nm=some (.ref a)) (k:ED X b f) (r:behindInMarks .In (.Name nm p)=false:=by with_unfolding_all rfl) (l:(nm == ("__debug__":Str))=false:=by decide) :
 ED X (.Compare b [.In] [.Name nm p] pos) (eUn (zkQ t) f):=by
 obtain⟨y,i,u⟩:=k
 refine⟨_,zfu (zdc T) i (yU (v:=.ref a) g w rfl l) r,fun σ ρ F H z Q s n e q=>?_⟩
 obtain⟨d,o,c⟩:=u4.mp e
 refine u σ ρ F H d _ s n o λF1 H1 v m j=>?_
 cases d with
 | str x =>
  cases c
  cases j.str_inv
  refine⟨x,rfl,rfl,?_⟩
  rw[<-KTD.isSome_datumAt,WZ,u1x]
  exact q F1 H1 _ m .bl
 | _=>cases c
def zif {t:zj3} (T:∀ h:Heap,X.K.In h->KTD.TextTab h a (zbu t)) (l:∀ q∈t,q.2.length<=sizeLine) (y:Gl X nm) (S:X.mg nm=some (.ref a)) (K:ED X b f) (G:Y9 b) (B:(nm == ("__debug__":Str))=false:=by decide) :
 ED X (.Subscript (.Subscript (.Name nm p) b p2) (.Constant (.int i) j p3) pos) (eUn (zgW t i) f):=by
 obtain⟨U,I,E⟩:=K
 refine⟨_,zbR zmW (zos T y S I G B) zr (λ_ _=>rfl),fun σ ρ F H z Q s M e q=>?_⟩
 obtain⟨d,N,o⟩:=u4.mp e
 refine E σ ρ F H d _ s M N λF1 H1 v C A=>?_
 cases d with
 | str x =>
  obtain⟨ns,u,P⟩:=u4.mp o
  obtain⟨n,D,rfl⟩:=u9.mp P
  cases A.str_inv
  have g:∀ t:zj3,(∀ q∈t,q.2.length<=sizeLine)->Wh t x=some ns->ns.length<=sizeLine:=by
   intro t
   induction t with
   | nil=>intro _ h;cases h
   | cons q t L =>
    intro l h
    unfold Wh at h
    split at h
    .cases h;exact l q g3
    .exact L (λr O=>l r (r9 _ O)) h
  refine⟨x,ns,rfl,by rw[WZ,u];rfl,λp m J R=>⟨p,m,ns.map V.int,i,.int n,rfl,rfl,J,R,by rw[t4];exact g t l u,?_,q F1 H1 _ C .int⟩⟩
  have:∀ (c:zy),atI c i=some n->atI (c.map V.int) i=some (V.int n):=λc h=>by
   unfold atI at h ⊢
   rw[t4]
   cases w:ixN c.length i with
   | none=>rw[w]at h;cases h
   | some k =>
    rw[w]at h
    show(c.map V.int)[k]?=_
    have h:c[k]?=some n:=h
    rw[r8,h]
    rfl
  exact this ns D
 | _=>cases o
end Dl
namespace Dl
open PySem L2
variable [KK]
section
variable {X:Cx}{st:Stmt}{sts:wN}{a b c e tg:Expr}{pos pos':Pos}
omit [KK] in
def zeR {f:zJ}(ρ:SE)(d:D):xN m i f ρ≠.rt d:=by
 unfold xN
 cases vEv m f ρ <;> (intro h;cases h)
end
end Dl
namespace L2
open PySem PySem.Spec PyProof.Rows
def KD {α:Type}:Sem α->Prop
 | .pure _=>True
 | .raise _=>True
 | .unsupported _=>True
 | .finish _=>True
 | .rule _ k=>KD (k ())
 | .at _ k=>KD (k ())
 | .load _ _ k=>∀ o,KD (k o)
 | .update _ _ f k=>(∀ o,(f o).dict=o.dict)/\KD (k ())
 | .loadIfAlive _ k=>∀ o,KD (k o)
 | .point _ k=>KD (k ())
 | .register _ _=>True
 | .alloc _ k=>∀ a,KD (k a)
 | .fresh k=>∀ t,KD (k t)
 | .ask k=>∀ x,KD (k x)
 | .handled _ k=>∀ x,KD (k x)
 | .stack k=>∀ x,KD (k x)
 | .thread k=>∀ n,KD (k n)
 | .choose _ _ _=>False
 | .os _ _ _=>False
 | .call _ _ _ _ _=>False
 | .newGen _ _=>False
 | .genState _ _=>False
 | .resume _ _ _ _=>False
 | .yield _ _ _ _=>False
 | .fork _ _=>False
 | .await _ _ _ _ _=>False
def zlg {α β:Type}(f:α->Sem β)(i:∀ a,KD (f a)):∀ (m:Sem α),KD m->KD (m.bind f):=by
 intro m
 induction m with
 | pure a=>intro _;exact i a
 | raise e=>intro _;trivial
 | unsupported w=>intro _;trivial
 | finish e=>intro _;trivial
 | rule t k b=>intro h;exact b () h
 | «at» p k b=>intro h;exact b () h
 | load a p k b=>intro h o;exact b o (h o)
 | update a p g k b=>intro h;exact⟨h.1,b () h.2⟩
 | loadIfAlive a k b=>intro h o;exact b o (h o)
 | point l k b=>intro h;exact b () h
 | register a k b=>intro h;trivial
 | alloc o k b=>intro h a;exact b a (h a)
 | fresh k b=>intro h a;exact b a (h a)
 | ask k b=>intro h a;exact b a (h a)
 | handled o k b=>intro h a;exact b a (h a)
 | stack k b=>intro h a;exact b a (h a)
 | thread k b=>intro h a;exact b a (h a)
 | choose s n k b=>intro h;exact h.elim
 | os q l k b=>intro h;exact h.elim
 | call c h g l k b=>intro h;exact h.elim
 | newGen c k b=>intro h;exact h.elim
 | genState g k b=>intro h;exact h.elim
 | resume g r l k b=>intro h;exact h.elim
 | yield v g l k b=>intro h;exact h.elim
 | fork c k b=>intro h;exact h.elim
 | await a f d l k b=>intro h;exact h.elim
def yd {α β:Type}{m:Sem α}{f:α->Sem β}(c:KD m)(b:∀ a,KD (f a)):KD (m>>=f):=zlg f b m c
def DK (h c:Heap):Prop:=∀ (b:Nat) (o:Obj),h.objs[b]?=some o->∃ a:Obj,c.objs[b]?=some a/\a.dict=o.dict
def DK.refl (h:Heap):DK h h:=λ_ o e=>⟨o,e,rfl⟩
def DK.trans {d f:Heap}(a:DK d c)(b:DK c f):DK d f:=λp o e=>by
 obtain⟨k,l,h⟩:=a p o e
 obtain⟨i,g,j⟩:=b p k l
 exact⟨i,g,j.trans h⟩
def DK.push (h:Heap)(o:Obj):DK h (h.push o):=λb u e=>by
 refine⟨u,?_,rfl⟩
 obtain⟨a,l⟩:=h
 show(a.push o)[b]?=some u
 have c:b<a.size:=(u15.mp e).1
 rw[Array.getElem?_push_lt c]
 exact(u15.mp e).2 ▸ rfl
def DK.update (h:Heap)(a:Addr){f:Obj->Obj}(g:∀ o,(f o).dict=o.dict):DK h (h.update a f):=λb u e=>by
 obtain⟨c,l⟩:=h
 show ∃ d,(c.modify a f)[b]?=some d/\_
 rw[Array.getElem?_modify]
 have e:c[b]?=some u:=e
 split
 .rw[e];exact⟨f u,rfl,g u⟩
 .rw[e];exact⟨u,rfl,rfl⟩
def zht {h:Heap}(e:h.get? b=some o):h.objs[b]?=some o:=by
 unfold Heap.get? at e
 split at e
 .cases e
 .exact e
def DK.of {h f:Heap}{o a:Obj}(k:DK h f)(e:h.get? b=some o)(g:f.get? b=some a):a.dict=o.dict:=by
 obtain⟨i,c,d⟩:=k b o (zht e)
 rw[zht g]at c
 cases c
 exact d
def zqP {α:Type}(M:Model)(Γ:PySem.Ctx):∀ (m:Sem α) (Q:α->Pos->Shared->Prop) (E:Value->Pos->Shared->Prop) (p:Pos) (s s0:zm),KD m->DK s0.heap s.heap->Sem.wp M Γ m Q E p s ->
 Sem.wp M Γ m (λa p i=>Q a p i/\DK s0.heap i.heap) (λe p i=>E e p i/\DK s0.heap i.heap) p s:=by
 intro m
 induction m with
 | pure a=>intro Q E p s s0 _ k h;exact⟨h,k⟩
 | raise e=>intro Q E p s s0 _ k h;exact⟨h,k⟩
 | unsupported w=>intro Q E p s s0 _ k h;exact h
 | finish e=>intro Q E p s s0 _ k h;exact h
 | rule t k b=>intro Q E p s s0 c d h;exact b () Q E p s s0 c d h
 | «at» p k b=>intro Q E p s s0 c d h;exact b () Q E _ s s0 c d h
 | load a p k b =>
  intro Q E p s s0 c d h
  obtain⟨o,e,h⟩:=h
  exact⟨o,e,b o Q E p s s0 (c o) d h⟩
 | update a p g k b =>
  intro Q E p s s0 c d h
  obtain⟨e,h⟩:=h
  exact⟨e,b () Q E p _ s0 c.2 (d.trans (.update s.heap a c.1)) h⟩
 | loadIfAlive a k b=>intro Q E p s s0 c d h;exact b _ Q E p s s0 (c _) d h
 | point l k b=>intro Q E p s s0 c d h;exact b () Q E p s s0 c d h
 | register a k b=>intro Q E p s s0 c d h;exact h
 | alloc o k b=>intro Q E p s s0 c d h;exact b _ Q E p _ s0 (c _) (d.trans (.push s.heap o)) h
 | fresh k b=>intro Q E p s s0 c d h;exact b _ Q E p _ s0 (c _) d h
 | ask k b=>intro Q E p s s0 c d h;exact b _ Q E p s s0 (c _) d h
 | handled o k b=>intro Q E p s s0 c d h;exact b _ Q E p s s0 (c _) d h
 | stack k b=>intro Q E p s s0 c d h;exact b _ Q E p s s0 (c _) d h
 | thread k b=>intro Q E p s s0 c d h;exact b _ Q E p s s0 (c _) d h
 | choose s n k b=>intro Q E p s s0 c;exact c.elim
 | os q l k b=>intro Q E p s s0 c;exact c.elim
 | call c h g l k b=>intro Q E p s s0 c;exact c.elim
 | newGen c k b=>intro Q E p s s0 c;exact c.elim
 | genState g k b=>intro Q E p s s0 c;exact c.elim
 | resume g r l k b=>intro Q E p s s0 c;exact c.elim
 | yield v g l k b=>intro Q E p s s0 c;exact c.elim
 | fork c k b=>intro Q E p s s0 c;exact c.elim
 | await a f d l k b=>intro Q E p s s0 c;exact c.elim
def zoX {α:Type}{t:Sem α}{Q:α->Shared->Prop}{E:yT}{s:zm}(c:KD t)(h:wpAny M A t Q E s) :
 wpAny M A t (λa b=>Q a b/\DK s.heap b.heap) (λe b=>E e b/\DK s.heap b.heap) s:=fun Γ p d=>zqP M Γ t _ _ p s s c (.refl _) (h Γ p d)
def ZY {α:Type}{t:Sem α}{Q Q':α->Shared->Prop}{s:zm}(c:KD t)(h:wpAny M A t Q E s)(k:∀ a b,Q a b->DK s.heap b.heap->Q' a b):wpAny M A t Q' E s :=
 p0 (zoX c h) (λa b x=>k a b x.1 x.2) λ_ _ x=>x.1
def zcH (v:Value):KD (fieldsOf v):=by
 unfold fieldsOf
 split
 .refine yd (λ_=>trivial) λo=>?_
  split <;> trivial
 .trivial
def XJ (v:Value)(i:Nat):KD (field v i):=by
 unfold field
 refine yd (zcH v) λa=>?_
 split <;> trivial
def Vl (f:wY->wY)(o:Obj):(Obj.mapFields f o).dict=o.dict:=by
 obtain⟨c,d,x,s⟩:=o
 cases x <;> rfl
def Y7 (v:Value)(i:Nat)(x:Value):KD (setField v i x):=by
 unfold setField
 split
 .unfold updateField
  refine yd (λ_=>trivial) λo=>?_
  split
  .split
   .exact⟨Vl _,trivial⟩
   .trivial
  .trivial
 .trivial
def Yn (e:Value)(f:yM):KD (setFlight e f):=by
 unfold setFlight
 refine yd (XJ e 1) λa=>?_
 split
 .exact Y7 _ _ _
 .trivial
def zaT (ty:String)(b:zx):KD (newFields ty b):=by
 have a:KD (newObjAsIs (Value.type ty) (Data.fields b.toArray)):=yd (λ_=>trivial) λ_=>trivial
 unfold newFields newObj
 show KD (if b.toArray.size>sizeLine+2 then _ else _)
 by_cases h:b.toArray.size>sizeLine+2
 .rw[t9 h]
  exact yd (show KD (unsupported (α:=Unit) _)from trivial) λ_=>a
 .rw[j5 h]
  exact a
def zcl (a b c d e:Value)(pl:zx):KD (EntryCells.newEntry a b c d e pl):=zaT _ _
def zi2 (f:Addr)(b:Bool):KD (entryPlaceOf f b):=by
 unfold entryPlaceOf
 refine yd (λ_=>trivial) λa=>?_
 split <;> trivial
def zbQ:KD frameEnvs:=by
 unfold frameEnvs
 exact yd (λ_=>trivial) λ_=>trivial
def ziN:∀ l:List Env,KD (readyFrames l):=by
 intro l
 induction l with
 | nil=>trivial
 | cons env outer a =>
  unfold readyFrames
  split
  .refine yd (λ_=>trivial) λo=>?_
   split
   .trivial
   .refine yd ?_ λb=>yd ?_ λbk=>yd ⟨λo=>rfl,trivial⟩ λ_=>a
    .unfold behindIsImport
     split
     .trivial
     .split
      .trivial
      .exact yd (XJ _ _) λ_=>trivial
    .unfold keptBack
     split
     .split
      .trivial
      .unfold underTheClaimsCaller
       exact yd (λ_=>trivial) λ_=>trivial
     .trivial
  .trivial
def zeC (env:Env):KD (PySem.frameOf env):=by
 unfold PySem.frameOf
 refine yd zbQ λl=>yd ?_ λo=>?_
 .unfold frameObject
  split
  .trivial
  .exact yd (ziN _) λ_=>trivial
 .split <;> trivial
def Xj (e:Value)(env:Env):KD (noteFrame e env):=by
 unfold noteFrame
 split
 .rename_i f c
  refine yd (XJ e 1) λa=>?_
  have b:KD (do setField e 1 (<- EntryCells.newEntry a (<- PySem.frameOf env) .none (rawInt f) .none (<- entryPlaceOf f (a != .none)))):=yd (zeC env) λ_=>yd (zi2 _ _) λ_=>yd (zcl _ _ _ _ _ _) λ_=>Y7 _ _ _
  by_cases h:(a != Value.none)=true
  .dsimp only
   rw[t9 h]
   refine yd (XJ a 3) λx=>?_
   split
   .trivial
   .exact yd (Y7 _ _ _) λ_=>b
  .dsimp only
   rw[j5 h]
   exact b
 .trivial
def ZR (env:Env)(e:Value):KD (leaving env e):=yd (Xj e env) λ_=>Yn e none
end L2
namespace L2
open PySem PySem.Spec PyProof.Rows
open Sem (wp)
abbrev exH (h:Heap) (C:Addr) (a:zx):Heap:=(h.push { cls:=.type "tuple",data:=.seq a.toArray }).push { cls:=.ref C,data:=.fields #[.ref h.objs.size,.none,.none,.none,.bool false,.none] }
def vd {h:Heap}(e:h.get? b=some o):(exH h C us).get? b=some o:=u8 _ (u8 _ e)
def zkr (h:Heap)(C:Addr)(a:zx):(exH h C a).get? (h.objs.size+1)=some { cls:=.ref C,data:=.fields #[.ref h.objs.size,.none,.none,.none,.bool false,.none] }:=by heap_get
section
variable {prog:zO}{w:World}{A:zM}{E:yT}{h:Heap}{g:Array GenState}{d:Drawn}{t:Nat}{os:OsState}
 {nm q:Str} {C N fI:Addr} {bs bm:zx} {hdct:Bool} {sn:zD} {sub:zx} {ab:Bool} {col:Option Bool} {dd:yM} {k0 k1 k2 k3 k5:Option Value} {mN:wc} {us:zx} {oI:Obj}
def zep {R:Fin->Shared->Prop} (T:OwnTail h [.type "ValueError",.type "Exception",.type "BaseException",.type "object"] bm) (a:h.get? C=some (excClassObj nm q C N bs bm hdct sn sub ab col dd k0 k1 k2 k3 k5 "ValueError.__new__")) (v:h.Ns N mN) (s:mN "__init__"=some (.ref fI)) (p:h.get? fI=some oI) (u:oI.cls=.type "function")
 (k:wpAny (model prog w) A (call (.ref fI) (.ref (h.objs.size+1)::us)) (λr j=>r=.none/\R (.done (.ret (.ref (h.objs.size+1)))) j) E ⟨exH h C us,g,d,t,os⟩) (m:us.length<=sizeLine) :
 wpAny (model prog w) A (Builtin.«type.__call__» ⟨.ref C::us,[]⟩) R E ⟨h,g,d,t,os⟩:=by
 have FV:=u0i
 repeat (first | with_reducible refine wpAny_madeBy_exc a ?_ | with_reducible refine u0Y a ?_ | wp_step)
 refine codeAny_call_builtin_code (u2b _ FV.quiet) (wpAny_check_new_subU FV (by decide) T a (codeAny_exc_new_subU FV (by decide) FV T a ?_ m))
 show wpAny _ _ _ _ _ _
 have i:=vd (us:=us) (C:=C) a
 have l:=vd (us:=us) (C:=C) p
 have y:(exH h C us).Ns N mN:=let ⟨ob,ens,epo,e1,r1⟩:=v;⟨ob,ens,epo,vd e1,r1⟩
 have x:=T.keeps (h':=exH h C us) λb o e=>vd e
 have n:=zkr h C us
 have f:(Value.ref C::bm).contains (.ref C)=true:=by simp
 unfold isInstance
 repeat (first | (with_reducible refine wpAny_isSubtype_exc i ?_;rw[f]) | with_reducible refine u0Y n ?_ | wp_step)
 show wpAny _ _ (typeLookup (.ref C) _) _ _ _
 refine wpAny_typeLookup_tail i y x FV.mroIs FV.init.lookup ?_
 rw[s]
 refine i0 (u5 ?_)
 unfold bindSpecial
 refine u5 (u1I (T:="function") ⟨_,l,u⟩ ?_)
 rw[t9 (by decide)]
 refine t5 (u5 (p0 k (λr j c=>?_) λ_ _ z=>z))
 obtain⟨rfl,c⟩:=c
 wp_walk
 exact c
def zhj {R:yT} (T:OwnTail h [.type "ValueError",.type "Exception",.type "BaseException",.type "object"] bm) (a:h.get? C=some (excClassObj nm q C N bs bm hdct sn sub ab col dd k0 k1 k2 k3 k5 "ValueError.__new__")) (f:h.Ns N mN) (b:mN "__init__"=some (.ref fI)) (j:h.get? fI=some oI) (e:oI.cls=.type "function")
 (k:wpAny (model prog w) (A.under (.builtin "type.__call__" ⟨.ref C::us,[]⟩)) (call (.ref fI) (.ref (h.objs.size+1)::us)) (λr i=>r=.none/\R (.ref (h.objs.size+1)) i) E ⟨exH h C us,g,d,t,os⟩) (c:us.length<=sizeLine) :
 wpAny (model prog w) A (call (.ref C) us) R E ⟨h,g,d,t,os⟩:=by
 have m:=tc_lookup
 have l:=tc_bind (.ref C)
 have n:(⟨h,g,d,t,os⟩:zm).TypeIs (.ref C) "type":=⟨_,a,rfl⟩
 refine u1A (codeAny_of_tree ?_)
 show wpAny _ _ (callAny (.ref C) _) _ _ _
 repeat (any_goals (first | with_reducible refine u0Y a ?_ | assumption | wp_step))
 refine⟨rfl,codeAny_call_builtin_at (u2b _ (by decide +kernel)) entry_typeCall (wpAny_check_type_call_sub a (zep T a f b j e ?_ c))⟩
 exact k
end
def zen {A:zM} {E:yT} {nm:Str} {N:Addr} {bs bm:zx} {sub:zx} (l:bm.contains (.type "BaseException")=true) (k:A.handled=none) (h:wpAny M A x (λv a=>∃ e t c f,v=.ref e/\a.heap.get? C=some (excClassObj nm q C N bs bm hdct sn sub ab col dd k0 k1 k2 k3 k5 newId) /\
 a.heap.get? e=some { cls:=.ref C,dict:=c,data:=.fields #[.ref t,.none,.none,.none,.bool false,.none],slots:=f }/\E (.ref e) a) E s):wpAny M A (raiseStmt env (some x) none) Q E s:=by
 have b:(Value.ref C::bm).contains (.type "BaseException")=true:=by rw[List.contains_cons,l,Bool.or_true]
 unfold raiseStmt
 refine u5 (p0 h (λv a z=>?_) λ_ _ z=>z)
 obtain⟨e,t,c,f,rfl,d,g,i⟩:=z
 obtain⟨m,o,j,n,os⟩:=a
 repeat (first | with_reducible refine u0Y d ?_ | with_reducible refine u0Y g ?_ | (with_reducible refine wpAny_isSubtype_exc d ?_;rw[b]) | wp_step)
 exact wpAny_raiseNew_none k i
end L2
namespace L2
open PySem PySem.Spec PyProof.Rows
section
variable {prog:zO}{w:World}{A:zM}{E:yT}{s:zm}{env:Env}
 {nm q:Str} {C N fI:Addr} {bs bm:zx} {hdct:Bool} {sn:zD} {sub:zx} {ab:Bool} {col:Option Bool} {dd:yM} {k0 k1 k2 k3 k5:Option Value} {mN:wc} {oI:Obj}
def zet (K:bm.contains (.type "BaseException")=true) (J:A.handled=none) (l:(backTo b (starEach args env)).any (·.1)=false) (L:mN "__init__"=some (.ref fI)) (O:oI.cls=.type "function") (h:wpAny (model prog w) A (eval (.Name x F) env) (λf D=>f=.ref C/\wpAny (model prog w) A (evalArgs (.ref C) true (backTo b (starEach args env)) []) (λa c=>a.kw=[]/\a.pos.length<=sizeLine /\
 c.heap.get? C=some (excClassObj nm q C N bs bm hdct sn sub ab col dd k0 k1 k2 k3 k5 "ValueError.__new__")/\c.heap.Ns N mN/\OwnTail c.heap [.type "ValueError",.type "Exception",.type "BaseException",.type "object"] bm/\c.heap.get? fI=some oI /\
 wpAny (model prog w) (A.under (.builtin "type.__call__" ⟨.ref C::a.pos,[]⟩)) (call (.ref fI) (.ref (c.heap.objs.size+1)::a.pos)) (λr i=>r=.none/\∃ t j n,i.heap.get? C=some (excClassObj nm q C N bs bm hdct sn sub ab col dd k0 k1 k2 k3 k5 "ValueError.__new__") /\
  i.heap.get? (c.heap.objs.size+1)=some { cls:=.ref C,dict:=j,data:=.fields #[.ref t,.none,.none,.none,.bool false,.none],slots:=n }/\E (.ref (c.heap.objs.size+1)) i) E { c with heap:=exH c.heap C a.pos }) E D) E s) :
 wpAny (model prog w) A (exec (.Raise (some (.Call (.Name x F) args [] b)) none u) env) Q E s:=by
 rw[arm_exec_Raise]
 refine u5 (u1q (zen (C:=C) (nm:=nm) (q:=q) (N:=N) (bs:=bs) (bm:=bm) (hdct:=hdct) (sn:=sn) (sub:=sub) (ab:=ab) (col:=col) (dd:=dd) (k0:=k0) (k1:=k1) (k2:=k2) (k3:=k3) (k5:=k5) (newId:="ValueError.__new__") K J (u5 (p0 (wpAny_Call_ofName (p0 h (λf D z=>?_) λ_ _ z=>z)) (λv i z=>u5 (u1q (t5 z))) λ_ _ z=>z))))
 obtain⟨rfl,z⟩:=z
 unfold callWith
 refine u5 (i0 (p0 z (λa c y=>u5 (u1q ?_)) λ_ _ z=>z))
 obtain⟨S,M⟩:=a
 obtain⟨k,e,B,P,H,I,m⟩:=y
 obtain rfl:M=[]:=k
 obtain⟨R,g,d,T,os⟩:=c
 simp only[l]
 refine u5 (wpAny_keeperOf_exc B (u5 (zhj H B P L I O (p0 m (λr i y=>?_) λ_ _ z=>z) e)))
 obtain⟨rfl,t,j,n,o,p,G⟩:=y
 exact⟨rfl,u5 (i0 (wpAny_point (t5 ⟨_,t,j,n,rfl,o,p,G⟩)))⟩
end
def zmZ (K:zu)(C f:Addr):Bool:=match K.lookup C with
 | some ⟨.type "type",_,.cls cd,sl⟩=>(match cd.mro,sl.toList with
  | .ref C'::bm,[_,_,_,_,some (.builtin n),_]=>(C' == C)&&(n == "ValueError.__new__"&&(!cd.hasDel&&(cd.hasDict&&(W.tailIn K [.type "ValueError",.type "Exception",.type "BaseException",.type "object"] bm&&(W.nsOkIn K cd.ns&&(W.nsIn K cd.ns "__init__" == some (some (.ref f))&&(match K.lookup f with | some of=>of.cls == .type "function" | none=>false)))))))
  | _,_=>false)
 | _=>false
def zlR {K:zu}{h:Heap}{N:Addr}{m:wc}(X:K.In h)(G:h.Ns N m)(e:W.nsIn K N n=some (some v)):m n=some v:=by
 obtain⟨k,i,a,f,b,_,c⟩:=G
 unfold W.nsIn at e
 split at e
 .rename_i d
  have z:=(X _ _ d).symm.trans f
  cases z
  cases b
  split at e
  .rename_i j g
   cases e
   rw[<-c]
   unfold nsFind findBy
   rw[<-Array.find?_toList,g]
   rfl
  .split at e <;> cases e
 .cases e
def zjt {K:zu}{h0:Heap}{f:Addr}(X:K.In h0)(e:zmZ K C f=true) :
 ∃ h N w q y v g s c t i p o k j B m,h0.get? C=some (excClassObj w q C N y h true v g s c t i p o k j "ValueError.__new__")/\h0.Ns N B/\B "__init__"=some (.ref f)/\OwnTail h0 [.type "ValueError",.type "Exception",.type "BaseException",.type "object"] h/\h0.get? f=some m/\m.cls=.type "function":=by
 unfold zmZ at e
 split at e
 .rename_i t I z G
  split at e
  .rename_i C' h i p o k n j E A
   simp only[j6,u0g,u0W]at e
   obtain⟨rfl,rfl,b,a,F,d,D,u⟩:=e
   obtain⟨w,y,L,ns,H,M,v,g,s,c,J⟩:=I
   dsimp only at E b a d D
   subst E b a
   have r:z=#[i,p,o,k,some (.builtin "ValueError.__new__"),j]:=by
    obtain⟨l⟩:=z
    simp only at A
    rw[A]
   subst r
   split at u
   .rename_i m x
    exact⟨h,ns,w,H,y,v,g,s,c,t,i,p,o,k,j,h0.nsMap ns,m,X _ _ G,.of_isNs (u2i X d),zlR X (.of_isNs (u2i X d)) D,W.tail_of_in X F,X _ _ x,u0g.mp u⟩
   .cases u
  .cases e
 .cases e
end L2
namespace L2
open PySem PySem.Spec PyProof.Rows PySem.Builtin PySem.Builtin.ObjectAttr
abbrev veV:zx:=[.type "ValueError",.type "Exception",.type "BaseException",.type "object"]
def zgj:zx->Bool
 | .ref _::r=>zgj r
 | l=>l == veV
def zfZ (a:Value):∀ {l:zx},zgj l=true->refuseLoop a "__setattr__" l=pure ():=by
 intro l
 induction l with
 | nil=>intro e;cases e
 | cons v r b =>
  intro e
  cases v with
  | ref c=>rw[refuseLoop_ref];exact b e
  | _=>exact u0g.mp (show((_:zx) == veV)=true from e) ▸ PySem.F.store_ValueError.passes a
def zgq:∀ {l:zx},zgj l=true->l.contains (.type "object")=true/\l.isEmpty=false:=by
 intro l
 induction l with
 | nil=>intro e;cases e
 | cons v r a =>
  intro e
  refine⟨?_,rfl⟩
  cases v with
  | ref c=>rw[List.contains_cons,(a e).1,Bool.or_true]
  | _=>rw[u0g.mp (show((_:zx) == veV)=true from e)];decide +kernel
def WW (K:zu) (C:Addr):Bool:=(W.clsIn K C).any (λa=>zgj a.mro&&a.hasDict)&&W.findIn K (.ref C) "__setattr__" == some (some (.builtin "object.__setattr__"))&&W.findIn K (.ref C) "__getattribute__" == some (some (.builtin "BaseException.__getattribute__"))&&W.findIn K (.ref C) "__getattr__" == some none&&W.subIn K (.ref C) (.type "BaseException") == some true
structure Xl (K:zu) (C:Addr):Prop where
 cls:∃ cd,W.clsIn K C=some cd/\zgj cd.mro=true/\cd.hasDict=true
 sa:W.findIn K (.ref C) "__setattr__"=some (some (.builtin "object.__setattr__"))
 ga:W.findIn K (.ref C) "__getattribute__"=some (some (.builtin "BaseException.__getattribute__"))
 gt:W.findIn K (.ref C) "__getattr__"=some none
 sb:W.subIn K (.ref C) (.type "BaseException")=some true
def Xl.of {K:zu}{C:Addr}(h:WW K C=true):Xl K C:=by
 unfold WW at h
 simp only[j6,u0g]at h
 obtain⟨b,e,a⟩:=W.any_some h.1.1.1.1
 rw[j6]at a
 exact⟨⟨b,e,a.1,a.2⟩,h.1.1.1.2,h.1.1.2,h.1.2,h.2⟩
section
variable {prog:zO}{w:World}{A:zM}{E:yT}{s:zm}{K:zu}{x C:Addr}{ox:Obj}{od:Option Obj}{name:Str}{v:Value}
def zna {R:Result->Shared->Prop}(X:K.In s.heap)(I:PySem.W.InstAt s.heap x ox C od)(n:Xl K C)(o:W.findIn K (.ref C) name=some none)(h:wpAny (model prog w) A.in1 (storeInOwnDict (.ref x) (.ref C) (.str name b) name v false) (λfin a=>match fin with | .done f=>R (.ok f) a | .again k=>k.quiet=true/\codeAny (model prog w) A k R a) (λe a=>R (.error e) a) s) :
 codeAny (model prog w) A (.call (.builtin "object.__setattr__") ⟨[.ref x,.str name b,v],[]⟩) R s:=by
 have SO:=PySem.F.store_object
 obtain⟨p,j,i,_⟩:=n.cls
 obtain⟨c,d⟩:=zgq i
 have g:PySem.W.Looks (model prog w) s.heap (isInstance (.ref x) (.type "object")) true:=I.type.andThen (W.looks_mroIn X (by unfold W.mroIn;rw[j,k6,j5 (by rw[d];decide),c]))
 refine u1P SO.slot.plain SO.entry (@W.check_slot (model prog w) _ _ s "object.__setattr__" "object" "__setattr__" (.ref x) [.str name b,v] [] _ SO.kind SO.split g (SO.args (.ref x) (.str name b) v) ?_)
 have m:PySem.W.Looks (model prog w) s.heap (mroOf (.ref C)) p.mro:=(u12 X j).andThen .now
 have l:PySem.W.Looks (model prog w) s.heap (storeTaker? none) none:=.now
 rw[W.osa_eq,refuse_eq]
 refine u5 (u5 (I.type.here (u5 (m.here ?_))))
 rw[zfZ _ i]
 exact t5 (u5 (I.type.here (u5 ((W.looks_findIn X o).here (u5 (l.here h))))))
def zmb {Q:Unit->Shared->Prop}(X:K.In s.heap)(I:PySem.W.InstAt s.heap x ox C od)(a:Xl K C)(d:W.findIn K (.ref C) name=some none)
 (h:wpAny (model prog w) A.in1 (storeInOwnDict (.ref x) (.ref C) (.str name s.toks) name v false) (λfin b=>match fin with | .done (.ret _)=>Q () b | _=>False) E { s with toks:=s.toks+1 }) :
 wpAny (model prog w) A (setAttr (.ref x) name v) Q E s:=by
 refine W.set_plain X I a.sa (zna (s:={ s with toks:=s.toks+1 }) X I a d (p0 h (λfin b z=>?_) λ_ _ z=>z))
 cases fin with
 | again c=>exact z.elim
 | done f=>cases f <;> first | exact z | exact z.elim
def ziw {Q:Unit->Shared->Prop}(X:K.In s.heap)(j:s.heap.get? x=some ox)(a:ox.cls=.ref C)(d:PySem.W.notCls ox=true)(m:ox.dict=none)(t:Xl K C)(F:PySem.W.findIn K (.ref C) name=some none)
 (h:∀ g:Heap,g.get? x=some { ox with dict:=some s.heap.objs.size }->g.Ns1 s.heap.objs.size (λy=>if y=name then some v else none)->(∀ b o,b≠x->s.heap.get? b=some o->g.get? b=some o)->Q () { s with heap:=g,toks:=s.toks+2 }) :
 wpAny (model prog w) A (setAttr (.ref x) name v) Q E s:=by
 have I:PySem.W.InstAt s.heap x ox C none:=⟨j,a,d,by rw[m];trivial⟩
 refine zmb X I t F ?_
 obtain⟨W,S,_,N⟩:=t.cls
 have P:=u12 (M:=model prog w) X S
 unfold storeInOwnDict
 refine u5 (t5 ?_)
 have k:(Value.ref C == Value.type "module")=false:=rfl
 simp only[k]
 unfold ownDictForStores instanceDict
 refine u5 ?_
 refine u5 (wpAny_loadPart j ?_)
 obtain⟨T,J,f,r⟩:=ox
 dsimp only at a m
 subst a m
 dsimp only
 refine u5 (P.here (s:={ s with toks:=s.toks+1 }) ?_)
 rw[N]
 rw[j5 (by decide),j5 (by simp[typeHasDict])]
 have D:∀ c,f≠.cls c:=λc e=>by rw[e]at d;cases d
 split
 .rename_i c;exact absurd rfl (D c)
 have B:(s.heap.push { cls:=.type "dict",data:=.dict #[] }).get? x=some ⟨.ref C,none,f,r⟩:=u8 _ j
 have u:x≠s.heap.objs.size:=r0 (j4 j)
 refine u5 (wpAny_alloc' (u5 (wpAny_update' B (t5 ?_))))
 generalize q:((s.heap.push { cls:=Value.type "dict",data:=Data.dict #[] }).update x λo=>{ cls:=o.cls,dict:=some s.heap.objs.size,data:=o.data,slots:=o.slots })=h1
 have G:h1.get? s.heap.objs.size=some { cls:=.type "dict",data:=.dict #[] }:=by rw[<-q];exact(Heap.get?_update_ne _ _ _ _ u.symm).trans (Heap.get?_push_at rfl rfl)
 have H:h1.Ns s.heap.objs.size (λ_=>none):=⟨_,#[],_,G,rfl,λe R=>absurd R (by simp),λ_=>rfl⟩
 show wpAny _ _ (storeInDict s.heap.objs.size (.str name s.toks) name v) _ _ _
 unfold storeInDict newKeyGuard
 refine u5 (t5 (u5 (wpAny_nsSet1 (Heap.Ns1.of_empty H) λg i z=>?_)))
 obtain⟨Y,U,V,l,n,p⟩:=i.count (Within.cons name v Within.nil)
 refine u5 (wpAny_lookBehind l (by rw[n];exact pastItsLine_dict (n0 p (by rw[o4,u1X,u0G];omega))) (t5 (h g ?_ i λb o O e=>?_)))
 .refine(z.2 x u).trans ?_
  rw[<-q]
  refine i2 _ B ?_
  have L:=(Heap.get?_some_iff.mp j).2
  cases f <;> first | rfl | exact L
 .refine(z.2 b (r0 (j4 e))).trans ?_
  rw[<-q]
  exact(Heap.get?_update_ne _ _ _ _ O).trans (u8 _ e)
end
end L2
namespace L2
open PySem PySem.Spec PyProof.Rows
section
variable {P:zO}{w:World}{H H':Hp}{h h':Heap}{a:Addr}{o:HO}
def yK.ex (x:yK P w H h a o):∃ u,h.get? a=some u:=by
 cases o with
 | lst d=>obtain⟨_,_,_,_,e⟩:=x;exact⟨_,e⟩
 | tup d=>obtain⟨_,_,_,g,e,_⟩:=x;exact⟨_,e⟩
 | dK b=>obtain⟨_,_,_,_,o,_,_,e,_⟩:=x;exact⟨_,e⟩
 | dT b=>obtain⟨_,_,_,_,o,_,_,e,_⟩:=x;exact⟨_,e⟩
 | set S n=>obtain⟨o,_,_,_,e,_⟩:=x;exact⟨_,e⟩
 | ins C k c=>obtain⟨_,_,_,e,_⟩:=x;exact⟨_,e⟩
 | own y=>exact x
 | xd c=>obtain⟨_,⟨_,_,_,e,_⟩,_⟩:=x;exact⟨_,e⟩
 | rng l j=>obtain⟨_,_,_,e⟩:=x;exact⟨_,e⟩
 | frz g u=>obtain⟨e,_⟩:=x;exact⟨_,e⟩
 | tbl i=>exact⟨_,(show h.get? a=some _ from x)⟩
 | met f y=>exact⟨_,(show h.get? a=some _ from x)⟩
 | ext φ=>obtain⟨_,⟨_,e⟩,_⟩:=x;exact⟨_,e⟩
theorem HOk.stays (x:HOk P w H h)(k:∀ b u,H b≠none->h.get? b=some u->h'.get? b=some u):HOk P w H h':=λa o e =>
 (x a o e).stay (λb u c q=>k b u (by
  rcases c with rfl | c
  .rw[e];intro z;cases z
  .rw[c];intro z;cases z) q) (λ_ q=>q) λ_ _ q=>q
end
structure Cov (outer:List Env) (H:Hp) (h:Heap) (H':Hp) (h' B:Heap):Prop where
 old:∀ b o,h.get? b=some o->H b=none->b∉frs outer->B.get? b=some o
 there:∀ b o,h.get? b=some o->b∉frs outer->∃ o',B.get? b=some o'
 new:∀ b o,H' b≠none->h'.get? b=some o->B.get? b=some o
def Zw (h:Heap)(a:Addr)(c:yM):Prop:=∃ b,h.get? a=some b/\b.dict=c
def Zw.stay {c:Heap}{f:yM}(d:Zw h a f)(k:DK h c)(e:∃ g,c.get? a=some g):Zw c a f:=by
 obtain⟨g,l,j⟩:=d
 obtain⟨b,i⟩:=e
 exact⟨b,i,(k.of l i).trans j⟩
def Air (P:zO)(w:World):CXT:=λouter H s E e a =>
 ∃ (b C t:Addr) (c:yM) (H':Hp) (B:Heap),e=.ref b/\a.os=s.os/\AllBare a.gens/\Un (frs outer) [] H H' s.heap a.heap/\HOk P w H' a.heap /\
  Heap.FlyingW B outer b (.ref C) (.ref t) a.heap/\Cov outer H s.heap H' a.heap B/\Zw a.heap b c/\E (.ref C) c H'
section
variable {X:Cx}{pins:xp}{σ:St}{H H':Hp}{s s':zm}{E:XK}{e:Value}{M:Model}{E2:yT}
def Inv.airUn (p:X.ex=[])(I:Inv X pins σ H s){g B:Heap}(J:Inv X pins σ H' s')(f:Cov X.stack H s.heap H' s'.heap B)(j:B.StaysIn g)(k:g.FunFrames B X.outer)(C:s'.heap.UpToSlots g) :
 Un X.fs [] X.H₀ H' X.s₀.heap g/\HOk X.prog X.w H' g/\Cov X.outer X.H₀ X.s₀.heap H' g B:=by
 have r:∀ b o,X.s₀.heap.get? b=some o->b≠X.env.locals:=λb o e=>r0 (q7 (j4 e) I.ok.above)
 have h:∀ b o,X.s₀.heap.get? b=some o->b∉X.fs->b∉frs X.stack:=λb o e n z=>(j9.mp (I.stkSub b z)).elim (r b o e) n
 have nx:∀ b:Addr,b∉X.ex:=by rw[p];simp
 have c:Cov X.outer X.H₀ X.s₀.heap H' g B:=by
  refine⟨λb o e n a=>f.old b o (I.base.keep b o e n a (nx b)) (I.base.free b o e n (nx b)) (h b o e a),λb o e a=>?_,λb o a e=>?_⟩
  .obtain⟨i,m⟩:=I.base.there b o e (nx b)
   exact f.there b i m (h b o e a)
  .cases q:H' b with
   | none=>exact absurd q a
   | some u =>
    obtain⟨w,D⟩:=(J.hok b u q).ex
    have z:=f.new b w a D
    have v:=j b w z
    rw[e]at v
    cases v
    exact z
 refine⟨⟨λb o e n a _=>j b o (c.old b o e n a),λb o e n a _=>?_,λb o e n _=>J.base.free b o e n (nx b),λb o e _=>?_,J.base.tups,J.base.frzs,J.base.tbls⟩,J.hok.stays λb u a x=>j b u (f.new b u a x),c⟩
 .obtain⟨F,A⟩:=J.base.slot b o e n a (nx b)
  obtain⟨_,t,d,y⟩:=I.ok.funs.mem a
  rw[e]at d
  cases d
  obtain⟨l,E⟩:=C b _ A y
  exact⟨l,E⟩
 .by_cases a:b∈X.fs
  .obtain⟨_,t,d,_⟩:=k.mem a
   exact⟨t,d⟩
  .obtain⟨i,m⟩:=c.there b o e a
   exact⟨i,j b i m⟩
def zno (h:X.stack=X.env::X.outer)(v:X.env.frame=some X.env.locals)(l:X.ex=[])(I:Inv X pins σ H s)(a:Air X.prog X.w X.stack H s E e s') :
 wpAny M X.A (leaving X.env e) (λ_ d=>Air X.prog X.w X.outer X.H₀ X.s₀ E e d) E2 s':=by
 obtain⟨o,C,t,p,H',B,rfl,os,c,D,j,n,k,r,x⟩:=a
 have J:Inv X pins σ H' s':=I.call' (ch:=[]) os D j c (λb z=>nomatch z)
 rw[h]at n
 refine ZY (ZR _ _) (wpAny_leaves_onW (Q:=λ_ d=>∃ f,d={ s' with heap:=f }/\Heap.FlyingW B X.outer o (.ref C) (.ref t) f/\s'.heap.UpToSlots f) (by rw[I.ok.frames,h]) v n λf g m=>⟨f,rfl,g,m⟩) ?_
 rintro _ _ ⟨f,rfl,g,m⟩ A
 obtain⟨q,w,u⟩:=I.airUn l J k g.1 g.2.2.1 m
 obtain⟨y,i,_⟩:=g.there
 exact⟨o,C,t,p,H',B,rfl,os.trans I.os,c,q,w,g,u,r.stay A ⟨y,i⟩,x⟩
end
def ym {P:zO}{w:World}{K:zu}{g:wc}{c:Heap}{N:zD}{d:Str}{b:Scope}{f:Addr}{i:Value}{A:zM}{outer:List Env}{s:zm}{H:Hp}{E:XK} :
 wn (Air P w) (vi (Air P w) P w K g c N d b f i A outer s H E) E:=λh σ H1 j e k I a =>
 zno (X:=vi (Air P w) P w K g c N d b f i A outer s H E) rfl rfl rfl I a
def zgJ {P:zO}{w:World}{K:zu}{O:wc}{g:Heap}{N:zD}{j:Str}{d:Scope}{f:Addr}{M:Value}{A:zM}{outer:List Env}{s:zm}{H:Hp}{E:XK}
 {k:xp} {σ:St} {H1:Hp} {i:zm} {l:Heap} {n C:Addr} {args:zx}
 (I:Inv (vi (Air P w) P w K O g N j d f M A outer s H E) k σ H1 i) (F:Heap.MadeExcOf i.heap l n (.ref C) args) (V:E (.ref C) none H1) :
 (vi (Air P w) P w K O g N j d f M A outer s H E).xe (.ref n) { i with heap:=l }:=by
 let X:=vi (Air P w) P w K O g N j d f M A outer s H E
 have I:Inv X k σ H1 i:=I
 have c:∀ b o,i.heap.get? b=some o->l.get? b=some o:=F.keeps
 have D:∀ env∈X.stack,∀ a,env.frame=some a->a∈frs X.stack:=λenv Y a ha=>u1i.mpr ⟨env,Y,ha⟩
 have J:Inv X k σ H1 { i with heap:=l }:=by
  have:=I.un (t':=i.toks) (H':=H1) (h':=l) (Un.kept c) (I.hok.kept c)
  exact this
 show wpAny (model P w) X.A (leaving X.env (.ref n)) (λ_ p=>Air P w outer H s E (.ref n) p) _ { i with heap:=l }
 refine ZY (ZR _ _) (wpAny_leaves_madeW (Q:=λ_ p=>∃ m t,p={ i with heap:=m }/\Heap.FlyingW (PySem.W.hideAll i.heap (frs X.stack)) outer n (.ref C) (.ref t) m/\l.UpToSlots m) (base:=PySem.W.hideAll i.heap (frs X.stack)) (h:=i.heap) (L:=X.env.locals) (outer:=outer) (I.ok.frames) rfl (λb o q=>u2j _ q) (PySem.W.funFrames_hide I.stack D) F λm t v x2 x3 G=>⟨m,t,rfl,v,G⟩) ?_
 rintro _ _ ⟨m,t,rfl,v,G⟩ dk
 obtain⟨R,B,_⟩:=v.there
 have di:Zw m n none:=by
  obtain⟨Z,x,_⟩:=F.there
  exact Zw.stay (h:=l) ⟨_,x,rfl⟩ dk ⟨R,B⟩
 have y:Cov X.stack H1 i.heap H1 l (PySem.W.hideAll i.heap (frs X.stack)):=by
  refine⟨λb o e _ r=>u0l _ e r,λb o e r=>⟨o,u0l _ e r⟩,λb o r e=>?_⟩
  cases q:H1 b with
  | none=>exact absurd q r
  | some u =>
   obtain⟨R,S⟩:=(I.hok b u q).ex
   have z:=c b R S
   rw[e]at z
   cases z
   exact u0l _ S λz=>r (I.stkFree b z)
 obtain⟨W,U,T⟩:=I.airUn (X:=X) rfl J y v.1 v.2.2.1 G
 exact⟨n,C,t,none,H1,_,rfl,I.os,I.bare,W,U,v,T,di,V⟩
abbrev bmV:zx:=[.type "ValueError",.type "Exception",.type "BaseException",.type "object"]
structure XCls (K:zu) (mg:wc) (C:Addr) (x:Str):Prop where
 bound:mg x=some (.ref C)
 exc:W.excIn K C bmV "ValueError.__new__"=true
def zlI {K:zu}{i:Heap}{g:zx}(X:K.In i)(q:W.excIn K C g a=true) :
 ∃ j N w q x h v e t c u k r p o m A,i.get? C=some (excClassObj w q C N x j h v e t c u k r p o m a)/\i.Ns N A/\A "__init__"=none/\OwnTail i g j:=by
 unfold W.excIn at q
 split at q
 .rename_i u H y F
  split at q
  .rename_i C' j k r p o n m B z
   simp only[j6,u0g,u0W]at q
   obtain⟨⟨⟨⟨⟨rfl,rfl⟩,b⟩,E⟩,d⟩,f⟩:=q
   obtain⟨w,x,J,ns,G,D,v,e,t,c,I⟩:=H
   dsimp only at B b d f
   subst B b
   have s:y=#[k,r,p,o,some (.builtin n),m]:=by
    obtain⟨l⟩:=y
    simp only at z
    rw[z]
   subst s
   exact⟨j,ns,w,G,x,D,v,e,t,c,u,k,r,p,o,m,_,X _ _ F,.of_isNs (u2i X d),W.nsMap_none_of_in X d f,W.tail_of_in X E⟩
  .cases q
 .cases q
def zih {P:zO}{w:World}{K:zu}{l:wc}{b:Heap}{N:zD}{c:Str}{a:Scope}{f:Addr}{G:Value}{A:zM}{outer:List Env}{s:zm}{H:Hp}{E:XK}{C:Addr}{x:Str}{U i m:Pos}
 (L:XCls K l C x) (M:Gl (vi (Air P w) P w K l b N c a f G A outer s H E) x) (O:(x == ("__debug__":Str))=false:=by decide) :
 PS (vi (Air P w) P w K l b N c a f G A outer s H E) (.Raise (some (.Call (.Name x U) [] [] i)) none m) (λ_ _ H1=>E (.ref C) none H1):=by
 intro F W σ H1 D I h
 obtain⟨Q,N',y,q,J,d,u,j,n,g,t,o,B,v,r,p,z,S,R,k,T⟩:=zlI I.ok.mod.kin L.exc
 refine wpAny_Raise_call_subU (C:=C) (nm:=y) (q:=q) (N:=N') (bs:=J) (bm:=Q) (hdct:=d) (sn:=u) (sub:=j) (ab:=n) (col:=g) (dd:=t) (k0:=o) (k1:=B) (k2:=v) (k3:=r) (k5:=p)
  u0i (by decide) u0i (mN:=z) (T.hasType u0i.hasBase) (I.ok.hd rfl) rfl k (vF I M L.bound ⟨rfl,?_⟩ O)
 exact evalArgs_empty ⟨rfl,p9 _,I.bk _ _ S,R.keeps I.bk,T.keeps I.bk,λX e V=>zgJ I V h⟩
def zjR:PA X a (λ_ _ _=>False):=λ_ _ _ _ _ _ _ h=>h.elim
end L2
namespace Dl
open PySem L2
def pay (j:Nat):Option (List (Str × V)):=match j/16%4 with
 | 0=>none
 | 1=>some [("at",.int ((j/64:Nat)-1))]
 | 2=>some [("row",.int ((j/64:Nat)-1))]
 | _=>some [("many",.int ((j/64/1024:Nat):Int)),("most",.int ((j/64%1024:Nat):Int))]
variable [KK]
section
variable (E:XK)(cl:Nat->Addr)
def EJ (j:Nat)(H:Hp):Prop:=match pay j with
 | none=>E (.ref (cl j)) none H
 | some b=>∀ a,H a=none->E (.ref (cl j)) (some a) (upd H a (.xd b))
def Wi (F H:Hp)(j:Nat):Prop:=∀ F' H',Gr F H F' H'->EJ E cl j H'
def RXE (t:TE)(a:zaJ):Prop:=∀ (σ:St) (ρ:Ev) (F H:Hp) (j:Nat) (Q:VK),zN F H->VAt F ρ σ->a ρ=some j->Wi E cl F H j->t σ H Q
def RXA (t:TA)(a:zaJ):Prop:=∀ (σ:St) (ρ:Ev) (F H:Hp) (j:Nat) (Q:zw->Hp->Prop),zN F H->VAt F ρ σ->a ρ=some j->Wi E cl F H j->t σ H Q
def RXS (t:TS)(a:yS):Prop:=∀ (Fb Hb F H:Hp) (ρ:SE) (σ:St) (D':Z7) (j:Nat),Rl Fb Hb F H ρ σ->a ρ=some j->Wi E cl Fb Hb j->t D' σ H
def XE (X:Cx)(e:Expr)(a:zaJ):Prop:=∃ t,PE X e t/\RXE E cl t a
def XA (X:Cx)(b:yX)(a:zaJ):Prop:=∃ t,PA X b t/\RXA E cl t a
def XS (X:Cx)(b:Stmt)(a:yS):Prop:=∃ t,PS X b t/\RXS E cl t a
def XSs (X:Cx)(a:wN)(b:yS):Prop:=∃ t,PSs X a t/\RXS E cl t b
end
section
variable {E:XK}{cl:Nat->Addr}{X:Cx}{a b c e:Expr}{es:yX}{st:Stmt}{sts:wN}{pos pos':Pos}
def Wi.grow (w:Wi E cl F H j)(g:Gr F H F1 H1):Wi E cl F1 H1 j:=λF' H' a=>w F' H' (g.trans a)
def Wi.out (w:Wi E cl Fb Hb j)(a:Rl Fb Hb F H ρ σ):Wi E cl (gOf ρ σ F H) H j:=λF' H' g=>w F' H' (a.out g)
def spX (cl:Nat->Addr)(m:Nat)(r:zh4):Sp:=λb H _ E=>∃ a j F,a.length=m/\zN F H/\AtL F a b/\r a=some j/\Wi E cl F H j
def xP (m:Nat)(r:zh4)(f:yB):zaJ:=fun ρ=>(f ρ).bind λds=>if ds.length=m then r ds else none
def wy {k:Nat} {f:Addr} {g:yB} (F:xu X.prog X.w X.K X.mg X.base (Air X.prog X.w) k f l i (spX cl m r)) (v:wn (Air X.prog X.w) X E) (I:yY k X.A) (n:Gl X x) (K:X.mg x=some (.ref f)) (u:W.keepIn X.K (.ref f)=true) (A:xh X.K l i []) (q:AD X (e::es) g) (b:(x == ("__debug__":Str))=false:=by decide) (J:starEach (e::es) X.env=(false,eval e X.env)::starEach es X.env:=by rfl) (c:(backTo pos (starEach es X.env)).any (·.1)=false:=by rfl) :
 XE E cl X (.Call (.Name x y) (e::es) [] pos) (xP m r g):=by
 obtain⟨t,B,z⟩:=q
 refine⟨_,ZS F I n K u A .nil v B b J c,fun σ ρ F0 H j Q s C e w=>?_⟩
 obtain⟨h,G,a⟩:=u4.mp e
 split at a <;> try cases a
 rename_i o
 refine z σ ρ F0 H h _ s C G λF1 H1 L d p=>?_
 exact⟨h,j,F1,o,d.fh,by rw[o5];exact p,a,w.grow d⟩
def zdb {k:Nat} {f:Addr} {d:ww} {c:zD} {p:xW} {g:zaJ} (F:xu X.prog X.w X.K X.mg X.base CX0 k f d c (spD m p)) (u:yY k X.A) (h:Gl X x) (z:X.mg x=some (.ref f)) (v:W.keepIn X.K (.ref f)=true) (n:xh X.K d c []) (q:XA E cl X (e::es) g) (a:(x == ("__debug__":Str))=false:=by decide) (y:starEach (e::es) X.env=(false,eval e X.env)::starEach es X.env:=by rfl) (b:(backTo pos (starEach es X.env)).any (·.1)=false:=by rfl) :
 XE E cl X (.Call (.Name x i) (e::es) [] pos) g:=by
 obtain⟨t,o,l⟩:=q
 exact⟨_,ZS F u h z v n .nil Zq o a y b,fun σ ρ F0 H j Q s r e w=>l σ ρ F0 H j _ s r e w⟩
def Zc {b:zaJ}(h:XE E cl X a b)(c:starEach (a::es) X.env=(false,eval a X.env)::starEach es X.env:=by rfl):XA E cl X (a::es) b:=by
 obtain⟨t,p,r⟩:=h
 exact⟨_,zl p zjR c,fun σ ρ F H j Q s d e w=>r σ ρ F H j _ s d e w⟩
def zfJ {f:zJ}{c:zaJ}(h:ED X a f)(l:XA E cl X es c)(i:starEach (a::es) X.env=(false,eval a X.env)::starEach es X.env:=by rfl):XA E cl X (a::es) (fun ρ=>(f ρ).bind λ_=>c ρ):=by
 obtain⟨t,p,r⟩:=h
 obtain⟨u,o,n⟩:=l
 refine⟨_,zl p o i,fun σ ρ F H j Q s b e w=>?_⟩
 obtain⟨d,k,m⟩:=u4.mp e
 exact r σ ρ F H d _ s b k λF' H' v g q=>n σ ρ F' H' j _ g.fh (b.mono g.ff) m (w.grow g)
def WJ {b:zaJ}(h:XE E cl X e b)(c:swapsWith e none pos.line X.env=pure false:=by rfl):XS E cl X (.Expr e pos) (fun ρ=>b (visG ρ)):=by
 obtain⟨t,p,r⟩:=h
 exact⟨_,vZ p c,λFb Hb F H ρ σ D' j a e w=>r σ _ _ H j _ a.gh a.visG e (w.out a)⟩
def Xc {b:zaJ}(h:XE E cl X e b):XS E cl X (.Return (some e) pos) (fun ρ=>b (visG ρ)):=by
 obtain⟨t,p,r⟩:=h
 exact⟨_,Yz p,λFb Hb F H ρ σ D' j a e w=>r σ _ _ H j _ a.gh a.visG e (w.out a)⟩
def zkw {i:Nat}{b:zaJ}(d:X.N.Nodup)(k:X.N[i]?=some x)(g:Loc X.env.scope x)(h:XE E cl X e b)(f:swapsWith e (some (.Name x pos')) pos.line X.env=pure false:=by rfl)(c:X.fn x=true\/X.env.scope.names.lookup x=some .local:=by first | exact .inl rfl | exact .inr rfl | assumption):XS E cl X (.Assign [.Name x pos'] e pos) (fun ρ=>b (visG ρ)):=by
 obtain⟨t,p,r⟩:=h
 exact⟨_,wJ d k g p f c,λFb Hb F H ρ σ D' j a e w=>r σ _ _ H j _ a.gh a.visG e (w.out a)⟩
noncomputable def xIf (t:vx)(g h:yS):yS:=fun ρ=>match t (visG ρ) with
 | some true=>g ρ
 | some false=>h ρ
 | none=>none
def Ym {f e:wN}{t:vx}{g:yS}(s:TD X c t)(m:XSs E cl X f g)(q:XSs E cl X e h):XS E cl X (.If c f e pos) (xIf t g h):=by
 obtain⟨v,l,i⟩:=s
 obtain⟨u,r,p⟩:=m
 obtain⟨x,o,n⟩:=q
 refine⟨_,ziG l r o,λFb Hb F H ρ σ D' j b k w=>?_⟩
 unfold xIf at k
 cases h:t (visG ρ) with
 | none=>rw[h]at k;cases k
 | some d =>
  rw[h]at k
  refine i σ _ _ H d _ b.gh b.visG h λF' H' g=>?_
  have a:=b.grow (b.back g).1
  cases d with
  | true=>rw[t9 rfl];exact p Fb Hb _ H' ρ σ D' j a k w
  | false=>rw[j5 u7];exact n Fb Hb _ H' ρ σ D' j a k w
def xNo:yS:=λ_=>none
def vp:XS E cl X st xNo:=⟨_,zc1,λ_ _ _ _ _ _ _ _ _ h _=>by cases h⟩
def z4 {g:yS}(h:XS E cl X st g):XSs E cl X [st] g:=let ⟨_,p,r⟩:=h;⟨_,xL p,r⟩
noncomputable def wQ (a:yS)(g:zz)(b:yS):yS:=fun ρ=>match a ρ with
 | some j=>some j
 | none=>match g ρ with
  | .nx c=>b c
  | _=>none
def yf {e:yS}{g:zz}(o:XS E cl X st e)(B:SD X st g)(n:XSs E cl X sts l):XSs E cl X (st::sts) (wQ e g l):=by
 obtain⟨y,m,t⟩:=o
 obtain⟨q,x,r⟩:=B
 obtain⟨u,A,z⟩:=n
 have d:PS X st (λD σ H=>y D σ H\/q D σ H):=λa s σ H D I h=>h.elim (m a s σ H D I) (x a s σ H D I)
 refine⟨_,zZ d A,λFb Hb F H ρ σ D' j i k w=>?_⟩
 unfold wQ at k
 cases f:e ρ with
 | some C =>
  rw[f]at k
  cases k
  exact .inl (t Fb Hb F H ρ σ _ j i f w)
 | none =>
  rw[f]at k
  dsimp only at k
  cases b:g ρ with
  | nx p =>
   rw[b]at k
   refine .inr (r Fb Hb F H ρ σ _ i ?_)
   rw[b]
   exact λF' H' v c=>z Fb Hb F' H' p v D' j c k w
  | rt _=>rw[b]at k;cases k
  | bk _=>rw[b]at k;cases k
  | ct _=>rw[b]at k;cases k
  | no=>rw[b]at k;cases k
def xt {g:yS}(h:XS E cl X st g):XSs E cl X (st::sts) g:=by
 obtain⟨t,p,r⟩:=h
 exact⟨_,zZ p (λ_ _ _ _ _ _ h=>(h:False).elim),λFb Hb F H ρ σ D' j a k w=>r Fb Hb F H ρ σ _ j a k w⟩
end
def Xo (j:Nat):yS:=λ_=>some j
def Yb {w:World} {g:wc} {N:zD} {f:Addr} {cl:Nat->Addr} {p d:Pos} (o:XCls K g (cl j) x) (k:Gl (vi (Air P w) P w K g b N c a f i A outer s H E) x) (l:(x == ("__debug__":Str))=false:=by decide) (m:pay j=none:=by rfl) :
 XS E cl (vi (Air P w) P w K g b N c a f i A outer s H E) (.Raise (some (.Call (.Name x p) [] [] d)) none h) (Xo j) :=
 ⟨_,zih o k l,λFb Hb F H ρ σ D' q n e w=>by
  cases e
  have z:=w F H n.gr
  unfold EJ at z
  rw[m]at z
  exact z⟩
noncomputable def fnX (n:Nat)(b:yS)(a:zg):Option Nat:=b (a.map .v++List.replicate (n-a.length) .no)
def vI {w:World}{g:Heap}{f:Addr}{N ps:zD}{k:Nat}{gx:yS}(Fu:Fun K x b i f u)(S:yz N ps (zk i))(z:∀ (c:Value) (A:zM) (outer:List Env) (s:zm) (H:Hp) (E:XK),yY k (A.deeper (PyProof.Rows.envOfC b (zk i) s.heap.objs.size f c))->XSs E cl (vi (Air P w) P w K o g N b (zk i) f c A outer s H E) (z7 i) gx) :
 xu P w K o g (Air P w) (k+1) f u ps (spX cl ps.length (fnX N.length gx)):=by
 obtain⟨L,J,kV,D,M,O,c,ct,I,rfl,G,l⟩:=Fu.ex
 refine zok G l S (λB H Q E h=>?_) λA outer s H B Q E C m=>?_
 .obtain⟨y,d,F,n,_,a,_⟩:=h
  rw[a.length];exact n
 .obtain⟨y,j,F,n,v,a,e,q⟩:=m
  obtain⟨t,p,r⟩:=z c A outer s H E C
  exact⟨t,p,r F H F H _ _ _ j (XU v a) e q⟩
end Dl
namespace L2
open PySem PySem.Spec PyProof.Rows
section
variable {X:Cx}{pins:xp}{σ:St}{H H':Hp}{s s':zm}{E:XK}{e:Value}{E2:yT}{B h3:Heap}
def Inv.caught (I:Inv X pins σ H s)(os:s'.os=s.os)(g:AllBare s'.gens)(f:Un (frs X.stack) [] H H' s.heap s'.heap)(p:HOk X.prog X.w H' s'.heap)(d:Cov X.stack H s.heap H' s'.heap B)
 (v:B.StaysIn h3) (i:h3.FunFrames B X.stack) (y:s'.heap.UpToSlots h3):Inv X pins σ H' { s' with heap:=h3 }:=by
 obtain⟨N,q,k,w,h⟩:=s'
 have J:h=s.os:=os
 subst J
 have nil:∀ b:Addr,b∉([]:xX):=λb z=>nomatch z
 show Inv X pins σ H' { s with heap:=h3,gens:=q,drawn:=k,toks:=w }
 refine I.step (s:=s) (g':=q) (d':=k) (t':=w) (ch:=[]) (λb z=>nomatch z) (λb o A c _ e n=>v b o (d.old b o e n λz=>(j9.mp (I.stkSub b z)).elim A c)) (λb o A c _ e n=>?_) (λb o _ e n=>f.free b o e n (nil b)) (λb o _ e=>?_) f.tups f.frzs f.tbls (λm M=>?_) (p.stays λb u c K=>v b u (d.new b u c K)) g
 .obtain⟨F,t⟩:=f.any e n (nil b)
  obtain⟨_,x,a,j⟩:=I.funs.mem c
  rw[e]at a
  cases a
  obtain⟨l,E⟩:=y b _ t j
  exact⟨l,E⟩
 .by_cases c:b∈frs X.stack
  .obtain⟨_,x,a,_⟩:=i.mem c
   exact⟨x,a⟩
  .obtain⟨h,L⟩:=d.there b o e c
   exact⟨h,v b h L⟩
 .obtain⟨o,G,C,D,j,r⟩:=M
  obtain⟨F,t⟩:=f.any D I.free (nil _)
  exact y.ns ⟨_,G,C,t,j,r⟩
def zeF (l:X.stack=X.env::X.outer)(Z:X.env.frame=some X.env.locals)(S:X.ex=[])(I:Inv X pins σ H s)(a:Air X.prog X.w X.stack H s E e s') (k:∀ (b C t:Addr) (o:yM) (H':Hp) (B h3:Heap),E (.ref C) o H'->Zw h3 b o->H' b=none->(∀ h,X.s₀.heap.get? b=some h->False)->(∀ p∈X.pn++pins,p.1≠b)->Heap.FlyingW B X.stack b (.ref C) (.ref t) h3->(∀ x:Heap,B.StaysIn x->x.FunFrames B X.stack->h3.UpToSlots x->Inv X pins σ H' { s' with heap:=x }) ->
 e=.ref b->wpAny M X.A (handleBy (.ref b) X.env U) Q E2 { s' with heap:=h3 }) :
 wpAny M X.A (noteFrame e X.env) (λ_ s₂=>wpAny M X.A (setFlight e none) (λ_ V=>wpAny M X.A (handleBy e X.env U) Q E2 V) E2 s₂) E2 s':=by
 obtain⟨b,C,t,o,H',B,rfl,os,A,un,v,D,i,di,hE⟩:=a
 have G:X.A.frames=some (X.env::X.outer):=by rw[I.ok.frames,l]
 have y:=D
 rw[l]at y
 refine ZY (Xj _ _) (wpAny_looks_onW (Q:=λ_ m=>∃ f,m={ s' with heap:=f }/\Heap.HeldW B (X.env::X.outer) b (.ref C) (.ref t) X.env.locals f/\s'.heap.UpToSlots f) G Z y λf c j=>⟨f,rfl,c,j⟩) ?_
 rintro _ _ ⟨f,rfl,c,j⟩ R
 refine ZY (Yn _ _) (wpAny_landsW (Q:=λ_ m=>∃ h3,m={ s' with heap:=h3 }/\Heap.FlyingW B (X.env::X.outer) b (.ref C) (.ref t) h3/\f.UpToSlots h3) (s:={ s' with heap:=f }) c λh3 d n=>⟨h3,rfl,d,n⟩) ?_
 rintro _ _ ⟨h3,rfl,d,n⟩ J
 have N:Zw h3 b o:=by
  obtain⟨T,P,_⟩:=d.there
  exact di.stay (DK.trans R J) ⟨T,P⟩
 rw[<-l]at d
 have w:B.get? b=none:=D.2.1
 have O:b∉frs X.stack:=λz=>by
  obtain⟨_,L,r,K⟩:=D.2.2.1.mem z
  obtain⟨oe,vs,_,_,_,he,_,W,_⟩:=D.2.2.2
  rw[he]at r
  cases r
  exact K vs W
 have g:∀ h,s.heap.get? b=some h->False:=λh z=>by
  obtain⟨L,F⟩:=i.there b h z O
  rw[w]at F
  cases F
 refine k b C t o H' B h3 hE N ?_ (λh z=>?_) (λp Y z=>?_) d (λx b1 b2 b3=>I.caught os A un v i b1 b2 ((j.trans n).trans b3)) rfl
 .cases q:H' b with
  | none=>rfl
  | some u =>
   obtain⟨T,ho⟩:=(v b u q).ex
   have z:=i.new b T (by rw[q];intro z;cases z) ho
   rw[w]at z
   cases z
 .obtain⟨L,F⟩:=I.base.there b h z (by rw[S];intro z;cases z)
  exact g L F
 .exact g p.2 (z ▸ (I.pin p Y).1)
end
abbrev Cx.held (X:Cx)(e:Value):Cx:={ X with A:=X.A.mark (some e),calm:=false }
section
variable {X:Cx}{pins:xp}{σ:St}{H H':Hp}{s s':zm}{E:yT}{e:Value}{M:Model}{A:zM}
def Cx.Ok.held (ok:X.Ok)(e:Value):(X.held e).Ok :=
 ⟨ok.mod,ok.kind,ok.glob,ok.blt,ok.above,ok.inj,ok.has,ok.cab,(λz=>by cases z),ok.frames,ok.stk,ok.exf,ok.bs,ok.bsz,ok.noex,ok.exfs,ok.funs,ok.frf⟩
def Inv.held (I:Inv X pins σ H s)(e:Value):Inv (X.held e) pins σ H s:=⟨I.ok.held e,I.os,I.bare,I.base,I.loc,I.cell,I.free,I.freeC,I.pin,I.hok,I.len⟩
def Inv.unheld (ok:X.Ok)(I:Inv (X.held e) pins σ H s):Inv X pins σ H s:=⟨ok,I.os,I.bare,I.base,I.loc,I.cell,I.free,I.freeC,I.pin,I.hok,I.len⟩
def Zg {i:Nat}{Q:Unit->Shared->Prop}(I:Inv X pins σ H s)(W:X.N.Nodup)(O:X.N[i]?=some x)(U:X.env.scope.names.lookup x=some .local)(h:∀ s',Inv X pins (σ.set i none) H s'->Q () s'):wpAny M A (do bindName X.env x .none;unbindBehindTheSuite X.env x G) Q E s:=by
 obtain⟨m,K,P⟩:=id I.loc
 have u:(X.env.scope.kind == .class||(X.env.scope.kind == .module&&X.env.locals != X.env.globals))=false:=by rw[I.ok.kind];rfl
 have J:i<σ.length:=by rw[I.len];exact(j3.mp O).1
 have r:=I.cne
 refine wpAny_nameGoes_keeps U K u λZ v D g=>?_
 obtain⟨oL,_,_,V,_⟩:=id K
 have a:HOk X.prog X.w H Z:=λb ob e=>by
  refine(I.hok b ob e).stay (λc N B q=>(g.2 c ?_).trans q) (λ_ q=>q) λ_ _ q=>q
  rintro rfl
  rcases B with rfl | B
  .rw[I.free]at e;cases e
  .rw[I.free]at B;cases B
 have f:∀ b o,X.s₀.heap.get? b=some o->b≠X.env.locals:=λb o e=>r0 (q7 (j4 e) I.ok.above)
 refine h _ ⟨I.ok,I.os,I.bare,⟨λb o e n F t=>?_,λb o e n F t=>?_,I.base.free,λb o e t=>?_,I.base.tups,I.base.frzs,I.base.tbls⟩,⟨_,D,λj y v' l w e3=>?_⟩,λy c e=>?_,I.free,I.freeC,λp R=>?_,a,by simpa using I.len⟩
 .exact(g.2 b (f b o e)).trans (I.base.keep b o e n F t)
 .obtain⟨Y,l⟩:=I.base.slot b o e n F t
  exact⟨Y,(g.2 b (f b o e)).trans l⟩
 .obtain⟨T,l⟩:=I.base.there b o e t
  exact⟨T,(g.2 b (f b o e)).trans l⟩
 .by_cases C:j=i
  .subst C
   rw[j8 J]at w
   cases w
  .rw[u6 (u0k C)]at w
   obtain⟨u',S,q⟩:=P j y v' l w e3
   refine⟨u',S,?_⟩
   rcases q with ⟨k,e⟩ | ⟨k,c,e,z⟩
   .refine .inl ⟨k,?_⟩
    have:y≠x:=λe=>C (VX W l (e ▸ O))
    simp[this,e]
   .exact .inr ⟨k,c,e,z.sameBut g (r y c e)⟩
 .obtain⟨N,z⟩:=I.cell y c e
  exact⟨N,z.sameBut g (r y c e)⟩
 .obtain⟨e,n,L,nf,d⟩:=I.pin p R
  exact⟨(g.2 p.1 L).trans e,n,L,nf,d⟩
def zhZ (a C:Addr)(c:yM):HO:=.ext λh=>∃ b,h.get? a=some b/\b.cls=.ref C/\b.dict=c/\W.notCls b=true
def Inv.track {D:Obj}{M:wY}(I:Inv X pins σ H s)(h:H a=none)(E:s.heap.get? a=some D)(A:D.data=.fields M)(h0:∀ G,X.s₀.heap.get? a=some G->False)(F:∀ p∈X.pn++pins,p.1≠a)(y:yK X.prog X.w (upd H a o) s.heap a o):Inv X pins σ (upd H a o) s:=by
 have t:X.env.locals≠a:=by
  rintro rfl
  obtain⟨m,⟨R,Q,O,j,l,_⟩,_⟩:=I.loc
  rw[E]at j
  cases j
  rw[A]at l
  cases l
 have w:∀ x c,X.env.cells.lookup x=some c->c≠a:=λx c e=>by
  rintro rfl
  obtain⟨v,P,i,k⟩:=I.cell x c e
  rw[E]at i
  cases i
  rw[A]at k
  cases k
 refine⟨I.ok,I.os,I.bare,⟨I.base.keep,I.base.slot,λb u e n K=>?_,I.base.there,λb B e=>?_,λb u v e=>?_,λb L e=>?_⟩,I.loc,I.cell,?_,λx c e=>?_,λp C=>?_,λb u e=>?_,I.len⟩
 .rw[zf (λz:b=a=>h0 u (z ▸ e))]
  exact I.base.free b u e n K
 .have f:=I.base.tups b B e
  rw[zf (ze f h)]
  exact f
 .have f:=I.base.frzs b u v e
  rw[zf (ze f h)]
  exact f
 .obtain⟨g,f⟩:=I.base.tbls b L e
  exact⟨g,by rw[zf (ze f h)];exact f⟩
 .rw[zf t]
  exact I.free
 .rw[zf (w x c e)]
  exact I.freeC x c e
 .obtain⟨e,n,J,N,d⟩:=I.pin p C
  exact⟨e,by rw[zf (F p C)];exact n,J,N,d⟩
 .by_cases c:b=a
  .subst c
   rw[zd]at e
   cases e
   exact y
  .rw[zf c]at e
   refine(I.hok b u e).stay (λ_ _ _ q=>q) (λc r=>?_) λc B r=>?_
   .rw[zf (ze r h)];exact r
   .rw[zf (ze r h)];exact r
end
abbrev Cx.pinned (X:Cx)(a:xp):Cx:={ X with pn:=X.pn++a }
section
variable {X:Cx}{pins ps:xp}{σ:St}{H H':Hp}{s s':zm}
def Cx.Ok.pinned (ok:X.Ok)(ps:xp):(X.pinned ps).Ok :=
 ⟨ok.mod,ok.kind,ok.glob,ok.blt,ok.above,ok.inj,ok.has,ok.cab,ok.hd,ok.frames,ok.stk,ok.exf,ok.bs,ok.bsz,ok.noex,ok.exfs,ok.funs,ok.frf⟩
def Inv.pinAll (I:Inv X pins σ H s):Inv (X.pinned pins) [] σ H s:=⟨I.ok.pinned pins,I.os,I.bare,I.base,I.loc,I.cell,I.free,I.freeC,λp a=>I.pin p (by rw[o5]at a;exact a),I.hok,I.len⟩
def Inv.unpin (ok:X.Ok)(I:Inv (X.pinned pins) ps σ H s):Inv X pins σ H s:=⟨ok,I.os,I.bare,I.base,I.loc,I.cell,I.free,I.freeC,λp a=>I.pin p (u00 _ a),I.hok,I.len⟩
end
abbrev zqz (i:Nat)(D:Z7):Z7:={ nx:=fun σ H=>D.nx (σ.set i none) H,rt:=D.rt,bk:=fun σ H=>D.bk (σ.set i none) H,ct:=fun σ H=>D.ct (σ.set i none) H }
def exW (K:zu)(CS:Addr)(i n:Nat)(u:TS)(D:Z7):XK:=λcls b H'=>∃ C,cls=.ref C/\W.exmOne K (.ref C) (.ref CS)=some true/\∀ (a:Addr) (σ:St),σ.length=n->H' a=none->u (zqz i D) (σ.set i (some (.ref a))) (upd H' a (zhZ a C b))
def znP {Y:Cx} {i:Nat} {p g:wN} {tb:XK->TS} (Z:Y.stack=Y.env::Y.outer) (hf:Y.env.frame=some Y.env.locals) (a5:Y.ex=[]) (N:Y.N.Nodup) (P:Y.N[i]?=some n) (y:Y.env.scope.names.lookup n=some .local) (hg:Gl Y x) (hm:Y.mg x=some (.ref CS)) (r:∀ (ps:xp) (W:yT) (E0:XK),wn (Air Y.prog Y.w) ((Y.pinned ps).wish W) E0->PSs ((Y.pinned ps).wish W) p (tb E0)) (l:∀ d,PSs (Y.held (.ref d)).nox (b₀::g) u) (hd:(x == ("__debug__":Str))=false:=by decide) :
 PS Y.nox (.Try p [.ExceptHandler (some (.Name x np)) (some n) (b₀::g) F] [] [] a7) (λD σ H=>tb (exW Y.K CS i Y.N.length u D) D σ H):=by
 intro c s σ H D I h
 have ok:Y.Ok:=I.ok.unwish
 have IY:Inv Y c σ H s:=I.unwish
 refine wpAny_Try_except ?_
 refine p0 (r c _ (exW Y.K CS i Y.N.length u D) ?_ [] s σ H D (IY.pinAll.wish _) h) ?_ λe s₁ h=>h
 .intro U J H1 s1 e O I1 a
  have I1':Inv Y c J H1 s1:=I1.unwish.unpin ok
  refine zeF (X:=Y) Z hf a5 I1' a λd C t od H' B G hE a3 z h0 T w m ee=>?_
  obtain⟨C',ec,L,hu⟩:=hE
  cases ec
  have I3:Inv Y c J H' { O with heap:=G }:=m G w.1 w.2.2.1 (.refl _)
  obtain⟨ob,V,A⟩:=w.there
  have ty:PySem.W.Looks (model Y.prog Y.w) G (typeOf (.ref d)) (.ref C):=A ▸ (PySem.W.Looks.ld V).andThen .now
  refine wpAny_handleBy_cons (codeAny_handlers_test (vF (X:=Y.held (.ref d)) (I3.held (.ref d)) hg hm ?_ hd)) (by intro q;cases q)
  refine(PySem.W.exm_one (M:=model Y.prog Y.w) I3.kIn ty L).here ?_
  refine codeAny_handlers_suite_as ?_
  refine ZY (Yn _ _) (wpAny_setFlight_noneW (Q:=λ_ a4=>∃ j,a4={ O with heap:=j }/\B.StaysIn j/\j.FunFrames B Y.stack/\j.TracedW B d (.ref C) (.ref t)/\∀ b o,G.get? b=some o->(∀ vs,o.data≠.fields vs)->j.get? b=some o) (s:={ O with heap:=G }) w.1 w.2.2.1 w.2.2.2.at λj k1 k2 k3 k4=>⟨j,rfl,k1,k2,k3,k4⟩) ?_
  rintro _ _ ⟨j,rfl,k1,k2,k3,k4⟩ a6
  have I4:Inv Y c J H' { O with heap:=j }:=m j k1 k2 λb o hb hn=>⟨o.slots,k4 b o hb hn⟩
  obtain⟨S,vs,_,_,_,K,a2,E,_⟩:=k3
  obtain⟨a8,R,a0⟩:=a3.stay a6 ⟨S,K⟩
  rw[K]at R
  cases R
  have a1:PySem.W.notCls S=true:=by unfold PySem.W.notCls;rw[E]
  have I5:Inv Y c J (upd H' d (zhZ d C od)) { O with heap:=j }:=I4.track z K E h0 T ⟨⟨S,K,a2.1,a0,a1⟩,⟨S,K⟩,λh1 h2 ⟨o1,e1,e2⟩ kk=>⟨o1,kk o1 e1,e2⟩⟩
  refine zai (X:=Y.held (.ref d)) (v:=.ref d) (I5.held (.ref d)) N P (.inl y) rfl (λs6 I6=>?_) (.inr y)
  refine p0 (l d c s6 _ _ (zqz i D) (I6.wish _) (hu d J I4.len z)) (λf s7 q=>?_) λx s7 q=>q.elim
  cases f with
  | ret uv =>
   obtain⟨v,k,H7,I7,rv,q⟩:=q
   exact Zg ((Inv.unheld (X:=Y) ok I7.unwish)) N P y λs8 I8=>⟨v,_,H7,I8.wish _,rv,q⟩
  | next =>
   obtain⟨k,H7,I7,q⟩:=q
   exact Zg ((Inv.unheld (X:=Y) ok I7.unwish)) N P y λs8 I8=>⟨_,H7,I8.wish _,q⟩
  | brk =>
   obtain⟨k,H7,I7,q⟩:=q
   exact Zg ((Inv.unheld (X:=Y) ok I7.unwish)) N P y λs8 I8=>⟨_,H7,I8.wish _,q⟩
  | cont =>
   obtain⟨k,H7,I7,q⟩:=q
   exact Zg ((Inv.unheld (X:=Y) ok I7.unwish)) N P y λs8 I8=>⟨_,H7,I8.wish _,q⟩
 .intro f s₁ q
  cases f with
  | ret uv =>
   obtain⟨v,k,H7,I7,rv,q⟩:=q
   exact⟨v,k,H7,(Inv.unpin (X:=Y) ok I7.unwish).wish _,rv,q⟩
  | next =>
   obtain⟨k,H7,I7,q⟩:=q
   exact u14 ⟨k,H7,(Inv.unpin (X:=Y) ok I7.unwish).wish _,q⟩
  | brk =>
   obtain⟨k,H7,I7,q⟩:=q
   exact⟨k,H7,(Inv.unpin (X:=Y) ok I7.unwish).wish _,q⟩
  | cont =>
   obtain⟨k,H7,I7,q⟩:=q
   exact⟨k,H7,(Inv.unpin (X:=Y) ok I7.unwish).wish _,q⟩
end L2
namespace L2
open PySem PySem.Spec PyProof.Rows PySem.W PySem.Calls PySem.Builtin PySem.Builtin.Getset_descriptor
section
variable {prog:zO}{w:World}{A:zM}{E:yT}{K:zu}{h:Heap}{g:Array GenState}{d:Drawn}{t:Nat}{os:OsState}{a C:Addr}{o:Obj}
def Of (h:Heap)(a:Addr)(o:Obj)(C:Addr):Prop:=h.get? a=some o/\o.cls=.ref C
def Of.type (I:Of h a o C):Looks M h (typeOf (.ref a)) (.ref C):=I.2 ▸ (Looks.ld I.1).andThen .now
def zge (X:K.In h) (e:findIn K (.ref C) b=some (some x)) (d:specialIn K x "__get__"=some (some c)) (f:takesIn K x=some true):Looks M h (Builtin.ObjectAttr.find (.ref a) (.ref C) b) (.bind c x):=by
 have L1:=looks_findIn (M:=M) X e
 have L2:Looks M h (Builtin.ObjectAttr.getOf (some x)) (some c):=looks_specialIn X d
 have L3:=looks_takesIn (M:=M) X f
 exact L1.andThen (L2.andThen ((show Looks M h (Builtin.ObjectAttr.dataDescriptor? (some x) (some c)) (some (c,x))from L3.andThen .now).andThen (Looks.tag .now)))
def zmk {R:Result->Shared->Prop} (X:K.In h) (I:Of h a o C) (c:mroIn K C (.type "object")=some true) (b:R (.ok (.ret (.ref C))) ⟨h,g,d,t,os⟩) :
 codeAny (model prog w) A (.call (.builtin "getset_descriptor.__get__") ⟨[.builtin "object.__class__",.ref a,e],[]⟩) R ⟨h,g,d,t,os⟩:=by
 have L0:=I.type (M:=model prog w)
 have L1:=looks_mroIn (M:=model prog w) X c
 refine u1P KF.slot_gs.plain KF.entry_gs (KF.slot_gs.check _ _ _ _ _ _ _ _ KF.type_class (KF.args_gs _ _ _) ?_)
 unfold Builtin.«getset_descriptor.__get__» descrGet
 rw[dga_obj]
 refine u5 (t5 ?_)
 unfold descrGetter descrCheckInstance descrNameAndClass isInstance
 simp only[KF.owner_class]
 repeat lk
 refine⟨u2b _ (by decide +kernel),codeAny_builtin KF.entry_class ?_⟩
 unfold Builtin.«object.__class__» shownTypeOf
 repeat lk
 exact b
def zgw {Q:Fin->Shared->Prop} (X:K.In h) (I:Of h a o C) (c:findIn K (.ref C) "__class__"=some (some (.builtin "object.__class__"))) (e:specialIn K (.builtin "object.__class__") "__get__"=some (some (.builtin "getset_descriptor.__get__"))) (f:takesIn K (.builtin "object.__class__")=some true) (j:mroIn K C (.type "object")=some true) (b:Q (.done (.ret (.ref C))) ⟨h,g,d,t,os⟩):wpAny (model prog w) A (Builtin.«object.__getattribute__» ⟨[.ref a,.str "__class__" i],[]⟩) Q E ⟨h,g,d,t,os⟩:=by
 have L0:=I.type (M:=model prog w)
 have L1:=zge (M:=model prog w) (a:=a) X c e f
 refine u5 (t5 (u5 ?_))
 refine t5 (u5 (L0.at (u5 (L1.at ?_))))
 show wpAny _ _ (holding [.builtin "object.__class__"] (call (.builtin "getset_descriptor.__get__") [.builtin "object.__class__",.ref a,.ref C])>>=ret) _ _ _
 exact u5 (i0 (u1A (zmk X I j (t5 b))))
def zfB {Q:Unit->Shared->Prop} (X:K.In h) (I:Of h a o C) (f:subIn K (.ref C) (.type "BaseException")=some true) (i:Q () ⟨h,g,d,t,os⟩):wpAny M A (checkBuiltinCall "BaseException.__getattribute__" ⟨[.ref a,b],[]⟩) Q E ⟨h,g,d,t,os⟩:=by
 have e:builtinKind "BaseException.__getattribute__"=some .slot:=by decide +kernel
 have c:splitId "BaseException.__getattribute__"=some ("BaseException","__getattribute__"):=by decide +kernel
 have j:=F.args_bexc_ga (.ref a) b
 have L0:=I.type (M:=M)
 have L1:Looks M h (isSubtype (.ref C) (.type "BaseException")) true:=looks_subIn X f
 simp only[checkBuiltinCall,e,c]
 refine u5 ?_
 unfold isInstance
 refine u5 (L0.at (L1.at ?_))
 repeat (first | assumption | wp_step)
def zpD {f:Tok} {Q:yT} (X:K.In h) (I:Of h a o C) (b:findIn K (.ref C) "__getattribute__"=some (some (.builtin "BaseException.__getattribute__"))) (e:findIn K (.ref C) "__getattr__"=some none)
 (n:findIn K (.ref C) "__class__"=some (some (.builtin "object.__class__"))) (m:specialIn K (.builtin "object.__class__") "__get__"=some (some (.builtin "getset_descriptor.__get__"))) (k:takesIn K (.builtin "object.__class__")=some true) (p:mroIn K C (.type "object")=some true) (l:subIn K (.ref C) (.type "BaseException")=some true) (i:Q (.ref C) ⟨h,g,d,t,os⟩) :
 wpAny (model prog w) A (getAttrBy (.ref a) (.str "__class__" f) false) Q E ⟨h,g,d,t,os⟩:=by
 have L0:=I.type (M:=model prog w)
 have L1:=looks_findIn (M:=model prog w) X b
 have L2:=looks_findIn (M:=model prog w) X e
 have j:=F.attrBase_ValueError.ga.bind (.ref a)
 have c:(Value.builtin "BaseException.__getattribute__" == Value.builtin "object.__getattribute__")=false:=by decide +kernel
 unfold getAttrBy
 refine i0 (u5 (L0.at (u5 (L1.at ?_))))
 dsimp only
 rw[c,u0Q,j5 u7]
 unfold getAttrByItsOwn
 refine u5 ?_
 show wpAny _ _ (typeLookup (.ref C) "__getattr__") _ _ _
 refine L2.at (u5 (u1o (i0 ?_)))
 show wpAny _ _ (boundAndCalled (.builtin "BaseException.__getattribute__") (.ref a) (.str "__class__" f)) _ _ _
 unfold boundAndCalled
 rw[j]
 refine u5 (t5 ?_)
 refine u1A (u1P F.attrBase_ValueError.ga.plain F.entry_bexc_ga (zfB X I l (zgw X I n m k p ?_)))
 exact handed_on rfl i
def zh1 {Q:Option Value->Shared->Prop} {s:zm} (X:K.In s.heap) (I:Of s.heap a o C) (b:findIn K (.ref C) "__getattribute__"=some (some (.builtin "BaseException.__getattribute__"))) (c:findIn K (.ref C) "__getattr__"=some none)
 (j:findIn K (.ref C) "__class__"=some (some (.builtin "object.__class__"))) (i:specialIn K (.builtin "object.__class__") "__get__"=some (some (.builtin "getset_descriptor.__get__"))) (f:takesIn K (.builtin "object.__class__")=some true) (k:mroIn K C (.type "object")=some true) (h:subIn K (.ref C) (.type "BaseException")=some true)
 (e:Q (some (.ref C)) { s with toks:=s.toks+1 }):wpAny (model prog w) A (getAttr? (.ref a) "__class__") Q E s:=by
 obtain⟨l,g,d,t,os⟩:=s
 unfold getAttr? getAttrBy?
 exact u5 (wpAny_mkText (u5 (u1o (zpD X I b c j i f k h (t5 e)))))
def vf (K:zu) (C:Addr):Bool:=(clsIn K C).isSome&&findIn K (.ref C) "__getattribute__" == some (some (.builtin "BaseException.__getattribute__"))&&findIn K (.ref C) "__getattr__" == some none&&findIn K (.ref C) "__class__" == some (some (.builtin "object.__class__"))
 && specialIn K (.builtin "object.__class__") "__get__" == some (some (.builtin "getset_descriptor.__get__"))&&takesIn K (.builtin "object.__class__") == some true&&mroIn K C (.type "object") == some true&&subIn K (.ref C) (.type "BaseException") == some true
def zj8 (q:vf K C=true):KitX K (.ref a) (.ref C) (λh=>∃ o,Of h a o C):=by
 unfold vf at q
 simp only[j6,u0g]at q
 obtain⟨⟨⟨⟨⟨⟨⟨c,i⟩,l⟩,v⟩,u⟩,t⟩,x⟩,r⟩:=q
 obtain⟨A,b⟩:=u2v.mp c
 unfold clsIn at b
 refine⟨λ_ _ _ ⟨_,I⟩=>I.type,λ_ _ X _=>?_,λh m y w n D X d=>?_,λX ⟨_,I⟩ k=>zh1 X I i l v u t x r k⟩
 .split at b
  .rename_i p s g f j
   intro A' Q' E' B k q
   unfold isType loadHead
   exact u5 (wpAny_loadPart (k _ _ (X _ _ j)) (t5 q))
  .cases b
 .refine Bool.eq_false_iff.mpr λq=>?_
  have e:C=m:=Value.ref.inj (u0g.mp q)
  subst e
  split at b
  .rename_i p s g f j
   have z:=(X _ _ j).symm.trans d
   cases z
  .cases b
def W9 {s:zm}{Q:yT}(q:vf K C=true)(X:K.In s.heap)(I:∃ o,Of s.heap a o C)(e:kitOne K (.ref C) c=some b)(d:∀ f,Q (.bool b) { s with toks:=f }) :
 wpAny (model prog w) A (call (.builtin "isinstance") [.ref a,c]) Q E s:=kia_one (zj8 q) X I e (by intro z;cases z) d
end
end L2
namespace L2
open PySem PySem.Spec PyProof.Rows
section
variable {P:zO}{w:World}{K:zu}{mg:wc}{base:Heap}
def ze0 (P:zO)(w:World)(K:zu)(mg:wc)(base:Heap)(k:Nat)(f:Addr)(e:ww)(b:zD)(d:Sp):Prop :=
 (∀ a H Q E,d a H Q E->a.length=b.length)/\∀ (A:zM) (outer:List Env) (s:zm) (H:Hp) (args:Args) (c:zx) (a:zw) (Q:VK) (E:XK) (g:Value),yY k A->zj7 P w K mg base A outer s H->BindsTo s e args (b.zip c)->yp a c->d a H Q E ->
  codeAny (model P w) (A.mark (some g)) (.call (.ref f) args) (CR CX0 outer P w H s Q E) s
def znd {f:Addr}{N ps:zD}{k:Nat}{z:Sp}(F:Fun K x c i f G)(S:yz N ps (zk i))(l:∀ g H Q E,z g H Q E->g.length=ps.length) (h:∀ (d:Value) (A:zM) (outer:List Env) (s:zm) (H:Hp) (g:zw) (Q:VK) (E:XK) (n:Value),yY k (A.deeper (envOfC c (zk i) s.heap.objs.size f d))->z g H Q E ->
 ∃ t,PSs ((vi CX0 P w K mg base N c (zk i) f d A outer s H E).held n).nox (z7 i) t/\t { nx:=λ_ H'=>Q .non H',rt:=Q } (start N g) H):ze0 P w K mg base (k+1) f G ps z:=by
 obtain⟨oc,od,kV,Y,pm,an,d,ct,a0,rfl,Z,B⟩:=F.ex
 refine⟨l,λA outer s H args us g Q E n C p O r m=>?_⟩
 have KX:K.In s.heap:=p.mod.kin.keeps λb o e=>(p.bs b o e).1
 have lim:s.heap.NoLimit:=p.mod.nolimit.keeps λb o e=>(p.bs b o e).1
 refine u1H (A:=A.mark (some n)) C.depth (KX _ _ Z) rfl S.co S.gen rfl (u2h KX B) (O _ _ _ _ ?_)
 refine wpAny_newFunctionEnv_cells S.kind (λy L=>?_) λenv R D x=>?_
 .rcases S.par y.1 (u1j (a:=y.1) (b:=y.2) L).1 with q | q
  .exact .inl q
  .exact .inr ⟨q,u0S _ _ _ (.inl q)⟩
 subst R
 refine⟨lim.keeps x.toInCall.keep,codeAny_func ?_⟩
 obtain⟨t,U,X⟩:=h d A outer s H g Q E n (C.deeper _) m
 have I:Inv (vi CX0 P w K mg base N c (zk i) f d A outer s H E) [] (start N g) H D:=Wo S C.hd p (l _ _ _ _ m) r x
 refine p0 (U [] D (start N g) H _ ((I.held n).wish _) X) (λT s' j=>?_) λe s' j=>j.elim
 cases T with
 | ret u =>
  obtain⟨v,M,H',J,W,q⟩:=j
  exact⟨v,H',J.os,J.bare,J.base,J.hok,W,q⟩
 | next =>
  obtain⟨M,H',J,q⟩:=j
  exact⟨V.non,H',J.os,J.bare,J.base,J.hok,rfl,q⟩
 | brk =>
  obtain⟨_,_,_,q⟩:=j
  exact False.elim q
 | cont =>
  obtain⟨_,_,_,q⟩:=j
  exact False.elim q
end
def zdh {Y:Cx} {k:Nat} {f:Addr} {p:Pos} {t:TA} (F:ze0 Y.prog Y.w Y.K Y.mg Y.base k f y v o) (G:yY k Y.A) (z:Gl Y x) (K:Y.mg x=some (.ref f)) (C:W.keepIn Y.K (.ref f)=true) (D:xh Y.K y v []) (g:Y.Ok) (B:PA (Y.held j).nox (e::c) t) (l:(x == ("__debug__":Str))=false:=by decide) (J:starEach (e::c) Y.env=(false,eval e Y.env)::starEach c Y.env:=by rfl) (n:(backTo b (starEach c Y.env)).any (·.1)=false:=by rfl) :
 PE (Y.held j).nox (.Call (.Name x p) (e::c) [] b) (zfl o [] E t):=by
 intro a s σ H Q I h
 refine u0E (vF I z K ?_ l)
 refine u1n (h₀:=Y.base) I.ok.mod.kin C (thn (B b a s σ H _ I h) λi m ⟨w,H1,I1,r,q⟩=>⟨I1.kIn,?_⟩) J n
 have q:o (w++[]) H1 Q E:=q
 rw[o5]at q
 have I2:Inv Y a σ H1 m:=Inv.unheld (X:=Y) g I1.unwish
 refine u1A (u1d (F.2 Y.A Y.stack m H1 ⟨i,[]⟩ i w Q E j G I2.env0 ?_ r q) λr L d=>?_)
 .have:=D m i I2.kIn (by rw[o5,<- r.length];exact F.1 _ _ _ _ q)
  rwa[o5]at this
 .cases r with
  | error e=>exact False.elim d
  | ok A =>
   cases A with
   | ret u=>exact I1.after d
   | next=>exact False.elim d
   | brk=>exact False.elim d
   | cont=>exact False.elim d
end L2
namespace L2
open PySem PySem.Spec PyProof.Rows PySem.SeqAt
def zaH:∀ {c:List Bool} {a:zx},yp (c.map V.bl) a->a=c.map Value.bool
 | [],a,r=>by
  have:=r.length
  exact List.eq_nil_of_length_eq_zero (by rw[<-this];rfl)
 | b::c,a,r=>by
  cases r with
  | cons e d =>
   rw[zaH d]
   cases e
   rfl
def zdq {a:List Bool}(h:y∈(a.map Value.bool).toArray):EqAt A s y (.bool true) (isBoolOf true y):=by
 obtain⟨b,_,rfl⟩:=u0D.mp (List.mem_toArray.mp h)
 exact EqAt.bool_bool b true
def zhk:V->zw->Hp->VK->Prop:=λx b H Q=>∃ (l:Addr) (a:List Bool),x=.ref l/\b=[.bl true]/\H l=some (.lst (a.map V.bl))/\Q (.int ((a.countP (· == true):Nat):Int)) H
def zgh:MtR X "list.count" zhk:=by
 intro b s σ H x w v z Q I g j h
 obtain⟨l,a,rfl,rfl,o,q⟩:=h
 cases g
 obtain⟨u,rfl,p⟩:=j.one
 cases p
 obtain⟨t,r,pl,A⟩:=I.list (SqL.of (K:=X.K) o)
 have e:=zaH r
 subst e
 obtain⟨⟨cls,k,data,m⟩,d,f,n,c⟩:=pl.isList
 simp only at f c
 subst f c
 refine u0u PySem.F.slot_list_count ⟨_,d,rfl⟩ PySem.F.entry_list_count (PySem.F.args_list_count_2 _ _) (list_countAt l (a.map Value.bool).toArray n k m (.bool true) (isBoolOf true)) ⟨d,λy i=>zdq i,?_⟩
 refine⟨.int (((a.map Value.bool).toArray.toList.countP (isBoolOf true):Nat):Int),H,I.tok _,⟨_,rfl⟩,?_⟩
 rw[show(a.map Value.bool).toArray.toList=a.map Value.bool from rfl,List.countP_map]
 exact q
def zfH:V->zw->Hp->VK->Prop:=λx b H Q=>∃ (l:Addr) (a:List Bool),x=.ref l/\b=[.bl true]/\H l=some (.lst (a.map V.bl))/\true∈a/\Q (.int ((a.idxOf true:Nat):Int)) H
def zhq:MtR X "list.index" zfH:=by
 intro i s σ H x L v G Q I z o h
 obtain⟨l,a,rfl,rfl,A,F,q⟩:=h
 cases z
 obtain⟨u,rfl,B⟩:=o.one
 cases B
 obtain⟨D,r,pl,E⟩:=I.list (SqL.of (K:=X.K) A)
 have e:=zaH r
 subst e
 obtain⟨⟨cls,t,data,w⟩,d,j,n,c⟩:=pl.isList
 simp only at j c
 subst j c
 have f:a.idxOf true<a.length:=List.idxOf_lt_length_iff.mpr F
 have g:=Xd
 have J:a.length<=sizeLine:=by simpa using E
 refine u0u PySem.F.slot_list_index ⟨_,d,rfl⟩ PySem.F.entry_list_index (PySem.F.args_list_index_2 _ _) (list_indexAt l (a.map Value.bool).toArray n t w (.bool true) (isBoolOf true) (a.idxOf true) (by simpa using f) (by omega) ?_ ?_) ⟨d,λy k=>zdq k,⟨.int ((a.idxOf true:Nat):Int),H,I.tok _,⟨_,rfl⟩,q⟩⟩
 .simp only[List.getElem_toArray,u1L]
  rw[List.getElem_idxOf f]
  rfl
 .intro m C b
  simp only[List.getElem_toArray,u1L]
  exact List.not_of_lt_findIdx (p:=(· == true)) (xs:=a) b
end L2
namespace L2
open PySem PySem.Spec PyProof.Rows
def clsV:V->Option Value
 | .ref C=>some (.ref C)
 | .ty T=>some (.type T)
 | _=>none
def zpQ (K:zu):zd8:=λe H Q=>∃ (a C:Addr) (d:yM) (v:V) (c:Value) (b:Bool),e=[.ref a,v]/\H a=some (zhZ a C d)/\vf K C=true/\clsV v=some c/\W.kitOne K (.ref C) c=some b/\Q (.bl b) H
def yV {X:Cx}:Yh X (.builtin "isinstance") (zpQ X.K):=by
 intro i s σ H z n Q I l h
 obtain⟨a,C,y,v,c,b,rfl,u,k,w,o,q⟩:=h
 obtain⟨f,d,rfl,g,e⟩:∃ f d,n=[f,d]/\yZ (.ref a) f/\yZ v d:=by
  cases l with
  | cons g r=>cases r with
   | cons e r=>cases r;exact⟨_,_,rfl,g,e⟩
 cases g
 have p:d=c:=by
  cases v <;> try cases w
  .cases e;rfl
  .cases e;rfl
 subst p
 obtain⟨⟨j,t,m,_⟩,_⟩:=I.hok a _ u
 exact W9 k I.kIn ⟨j,t,m⟩ o λx=>⟨.bl b,H,I.tok x,rfl,q⟩
def zdA {K:zu}{σ:St}{H:Hp}{a C:Addr}{d:yM}{v:V}{c:Value}{b:Bool}{Q:VK}(h0:σ[0]?=some (some (.ref a)))(g:H a=some (zhZ a C d))(e:vf K C=true)(h:clsV v=some c)(f:W.kitOne K (.ref C) c=some b)(q:Q (.bl b) H) :
 tCB (zpQ K) (yc (xz 0) (yc (tC v) we)) σ H Q:=⟨.ref a,h0,⟨a,C,d,v,c,b,rfl,g,e,h,f,q⟩⟩
def zev (n j:Nat):List Bool:=(List.range n).map λi=>i == j
def vu (K:zu) (a:xX) (CS C:Addr) (j:Nat):Bool:=vf K C&&(W.kitOne K (.ref C) (.type "ValueError") == some true)&&(W.exmOne K (.ref C) (.ref CS) == some true)&&(a.map (λc=>W.kitOne K (.ref C) (.ref c)) == (zev a.length j).map some)
structure zaX (K:zu) (cs:xX) (CS C:Addr) (j:Nat):Prop where
 look:vf K C=true
 val:W.kitOne K (.ref C) (.type "ValueError")=some true
 exm:W.exmOne K (.ref C) (.ref CS)=some true
 hot:cs.map (λc=>W.kitOne K (.ref C) (.ref c))=(zev cs.length j).map some
def zaX.of {K:zu}{a:xX}{CS C:Addr}{j:Nat}(h:vu K a CS C j=true):zaX K a CS C j:=by
 unfold vu at h
 simp only[j6,u0g]at h
 exact⟨h.1.1.1,h.1.1.2,h.1.2,h.2⟩
section
variable {K:zu}{σ:St}{H H0:Hp}{a C:Addr}{od:yM}
def tIs (K:zu):xX->TA
 | []=>we
 | c::r=>yc (tCB (zpQ K) (yc (xz 0) (yc (tC (.ref c)) we))) (tIs K r)
def zk0 (h0:σ[0]?=some (some (.ref a)))(i:H a=some (zhZ a C od))(h:vf K C=true):∀ (f:xX) (d:List Bool) (Q:zw->Hp->Prop),f.map (λc=>W.kitOne K (.ref C) (.ref c))=d.map some->Q (d.map V.bl) H->tIs K f σ H Q:=by
 intro f
 induction f with
 | nil =>
  intro d Q e q
  cases d with
  | nil=>exact q
  | cons b r=>cases e
 | cons c r j =>
  intro d Q e q
  cases d with
  | nil=>cases e
  | cons b d =>
   obtain⟨k,g⟩:=List.cons.inj e
   exact zdA h0 i h rfl k (j d _ g q)
structure KSt (H0:Hp) (a C:Addr) (od:yM) (bs:List Bool) (σ:St) (H:Hp):Prop where
 same:zN H0 H
 len:σ.length=2
 e0:σ[0]?=some (some (.ref a))
 he:H a=some (zhZ a C od)
 lst:∃ p,σ[1]?=some (some (.ref p))/\H p=some (.lst (bs.map V.bl))
def ze3 {d:List Bool}{p:Addr}(s:zN H0 H)(g:σ.length=2)(h:σ[0]?=some (some (.ref a)))(f:H a=some (zhZ a C od))(c:H p=none):KSt H0 a C od d (σ.set 1 (some (.ref p))) (upd H p (.lst (d.map V.bl))):=by
 refine⟨λb o e=>?_,by rw[u0e];exact g,?_,?_,p,?_,zd⟩
 .have:=s b o e
  rw[zf (ze this c)];exact this
 .rw[u6 (by decide)];exact h
 .rw[zf (ze f c)];exact f
 .rw[j8 (by omega)]
def zf7 {cs:xX}{bs:List Bool}{D:Z7}(g:vf K C=true)(e:cs.map (λc=>W.kitOne K (.ref C) (.ref c))=bs.map some)(i:bs.length<=sizeLine)(h:σ.length=2)(f:σ[0]?=some (some (.ref a)))(b:H a=some (zhZ a C od))(k:∀ d H',KSt H a C od bs d H'->D.nx d H') :
 XF (ZI (tIs K cs)) (xG 1) D σ H :=
 zk0 f b g cs bs _ e ⟨by rw[t4];exact i,λp j=>k _ _ (ze3 (.refl _) h f b j)⟩
def zal {cs:xX}{d bs:List Bool}{D:Z7}(l:vf K C=true)(e:cs.map (λc=>W.kitOne K (.ref C) (.ref c))=bs.map some)(i:d.length+bs.length<=sizeLine)(S:KSt H0 a C od d σ H)(k:∀ h H',KSt H0 a C od (d++bs) h H'->D.nx h H') :
 XF (tOp zqs (xz 1) (ZI (tIs K cs))) (xG 1) D σ H:=by
 obtain⟨p,j,g⟩:=S.lst
 refine⟨.ref p,j,zk0 S.e0 S.he l cs bs _ e ⟨by rw[t4];omega,λq f=>?_⟩⟩
 refine⟨p,q,d.map V.bl,bs.map V.bl,rfl,rfl,by rw[zf (ze g f)];exact g,zd,by rw[t4,t4];exact i,λr m=>?_⟩
 rw[<-p4]
 refine k _ _ (ze3 (λb o e=>?_) S.len S.e0 ?_ m)
 .have:=S.same b o e
  rw[zf (ze this f)];exact this
 .rw[zf (ze S.he f)];exact S.he
def zhy:∀ j:Nat,j<13->(zev 13 j).countP (· == true)=1/\(zev 13 j).idxOf true=j/\true∈zev 13 j:=by decide +kernel
def zlC {j:Nat} {D:Z7} {d:TS} (l:W.kitOne K (.ref C) (.type "ValueError")=some true) (e:vf K C=true) (f:j<13) (S:KSt H0 a C od (zev 13 j) σ H) (k:D.rt (.int j) H) :
 Vi (tIfS (tOr (tNot (tB (tCB (zpQ K) (yc (xz 0) (yc (tC (.ty "ValueError")) we))))) (zew (tOp rNe (tBM K "list" zhk (xz 1) (yc (tC (.bl true)) we)) (tC (.int 1))))) d zo0) (zpS (tBM K "list" zfH (xz 1) (yc (tC (.bl true)) we))) D σ H:=by
 obtain⟨i,g,h⟩:=zhy j f
 obtain⟨p,c,b⟩:=S.lst
 refine zdA S.e0 S.he e rfl l ⟨true,rfl,?_⟩
 show(if (!true)=true then _ else _)
 rw[j5 (by decide)]
 refine⟨.ref p,c,.inl ⟨rfl,_,SqL.of b⟩,p,_,rfl,rfl,b,?_⟩
 rw[i]
 refine⟨rfl,false,by rw[zbZ];rfl,?_⟩
 show(if false=true then _ else _)
 rw[j5 (by decide)]
 refine⟨.ref p,c,.inl ⟨rfl,_,SqL.of b⟩,p,_,rfl,rfl,b,h,?_⟩
 rw[g]
 exact k
end
def zgU (d:Nat->Addr)(ok:Nat->Prop):Sp:=λc H Q _=>∃ a j b,c=[.ref a]/\H a=some (zhZ a (d j) b)/\ok j/\∀ H',zN H H'->Q (.int (j:Nat)) H'
def PS.nox {X:Cx}{t:TS}(h:PS X.nox b t):PS X b t:=λa s σ H D I hw =>
 p0 (h a s σ H D (I.wish _) hw) (λ_ _ q=>q.unwish) λ_ _ z=>False.elim z
end L2
namespace Dl
open PySem L2
variable [KK]
def SD.nox {X:Cx}{g:zz}(h:SD X.nox a g):SD X a g:=let ⟨t,p,r⟩:=h;⟨t,p.nox,r⟩
def SDs.nox {X:Cx}{g:zz}(h:SDs X.nox a g):SDs X a g:=let ⟨t,p,r⟩:=h;⟨t,p.nox,r⟩
noncomputable def xEx (a:zaJ):yS:=fun ρ=>a (visG ρ)
def zi0 (f:zJ)(a:zaJ):zaJ:=fun ρ=>(f ρ).bind λ_=>a ρ
def z6:XSs E cl X a xNo:=⟨λ_ _ _=>False,λ_ _ _ _ _ _ h=>h.elim,λ_ _ _ _ _ _ _ _ _ h _=>by cases h⟩
def Gr.more (s:zN F H)(k:zN H H'):Gr F H F H':=⟨zN.refl _,s.trans k,λp o a b=>⟨.inl a,k p o b⟩⟩
def zl7 (a:yS)(g:zz)(h:Nat->Option D):zz:=fun ρ=>match a ρ with
 | some j=>match h j with
  | some d=>.rt d
  | none=>.no
 | none=>g ρ
def zbh (H:Hp)(j:Nat)(a:yM):Prop:=match pay j with
 | none=>a=none
 | some c=>∃ b,a=some b/\H b=some (.xd c)
def zbh.mono (h:zbh H j a)(s:zN H H'):zbh H' j a:=by
 unfold zbh at h ⊢
 cases e:pay j with
 | none=>rw[e]at h;exact h
 | some f=>rw[e]at h;obtain⟨b,c,d⟩:=h;exact⟨b,c,s _ _ d⟩
structure Est (cl:Nat->Addr) (i j:Nat) (σ:St) (H:Hp) (a:Addr) (od:yM):Prop where
 sl:σ[i]?=some (some (.ref a))
 he:H a=some (zhZ a (cl j) od)
 pa:zbh H j od
def RU (c:Nat->Addr)(i:Nat)(u:TS)(h:Nat->Option D):Prop:=∀ (j:Nat) (d:D) (σ:St) (H:Hp) (a:Addr) (b:yM) (D':Z7),h j=some d->Est c i j σ H a b->(∀ H' v,(∀ F,zN F H->∃ F',Gr F H F' H'/\At F' d v)->D'.rt v H')->u D' σ H
def zku {Y:Cx} {i:Nat} {A:Nat->Addr} {g:zz} {h:Nat->Option D} (K:Y.stack=Y.env::Y.outer) (hf:Y.env.frame=some Y.env.locals) (R:Y.ex=[]) (hN:Y.N.Nodup) (hi:Y.N[i]?=some n) (hk:Y.env.scope.names.lookup n=some .local) (hg:Gl Y x) (hm:Y.mg x=some (.ref CS)) (N:∀ (c:xp) (W:yT) (E0:XK),wn (Air Y.prog Y.w) ((Y.pinned c).wish W) E0->XSs E0 A ((Y.pinned c).wish W) a O) (hb:∀ (c:xp) (W:yT),SDs ((Y.pinned c).wish W) a g) (B:∀ j d,h j=some d->PySem.W.exmOne Y.K (.ref (A j)) (.ref CS)=some true) (m:Y.Ok->∀ C,PSs (Y.held (.ref C)).nox (b₀::l) u) (hu:RU A i u h) (hd:(x == ("__debug__":Str))=false:=by decide) :
 SD Y.nox (.Try a [.ExceptHandler (some (.Name x np)) (some n) (b₀::l) z] [] [] S) (zl7 O g h):=by
 let M:XK->TS:=λE0 D σ H=>∀ (c:xp) (W:yT),wn (Air Y.prog Y.w) ((Y.pinned c).wish W) E0->∃ t,PSs ((Y.pinned c).wish W) a t/\t D σ H
 refine⟨λD σ H=>M (exW Y.K CS i Y.N.length u D) D σ H,λf s σ H D I Q=>?_,λFb Hb F H ρ σ D T k=>?_⟩
 .refine znP (tb:=M) K hf R hN hi hk hg hm (λc W E0 P f s σ H D I Q=>?_) (m I.ok.unwish) hd f s σ H D I Q
  obtain⟨t,p,ht⟩:=Q c W P
  exact p f s σ H D I ht
 .intro c W P
  unfold zl7 at k
  cases e:O ρ with
  | none =>
   rw[e]at k
   obtain⟨t,p,r⟩:=hb c W
   exact⟨t,p,r Fb Hb F H ρ σ D T k⟩
  | some j =>
   rw[e]at k
   dsimp only at k
   cases E:h j with
   | none=>rw[E]at k;exact k.elim
   | some d =>
    rw[E]at k
    obtain⟨t,p,r⟩:=N c W _ P
    refine⟨t,p,r Fb Hb F H ρ σ D j T e λF' H' G=>?_⟩
    have Z:∀ (y:yM) (H0:Hp),zN H' H0->zbh H0 j y->exW Y.K CS i Y.N.length u D (.ref (A j)) y H0:=λy H0 V pa=>⟨_,rfl,B j d E,λC σ' hl hn=>by
     have J:i<σ'.length:=by
      rw[hl]
      exact(j3.mp hi).1
     have w:zN H0 (upd H0 C (zhZ C (A j) y)):=λb o q=>by rw[zf (ze q hn)];exact q
     refine hu j d _ _ C y _ E ⟨by rw[j8 J],zd,pa.mono w⟩ λH'' v av=>?_
     obtain⟨F2,g2,a2⟩:=av F' (G.fh.trans (V.trans w))
     exact k F2 H'' v ((G.trans (Gr.more G.fh (V.trans w))).trans g2) a2⟩
    unfold EJ
    cases X:pay j with
    | none=>exact Z none H' (zN.refl _) (by unfold zbh;rw[X])
    | some fs=>exact λU L=>Z (some U) _ (λb o q=>by rw[zf (ze q L)];exact q) (by unfold zbh;rw[X];exact⟨U,rfl,zd⟩)
def SX (c:Nat->Addr)(i:Nat)(t:TE)(f:Nat->Option D):Prop:=∀ (j:Nat) (d:D) (σ:St) (H:Hp) (a:Addr) (b:yM) (Q:VK),f j=some d->Est c i j σ H a b->(∀ H' v,zN H H'->(∀ F,At F d v)->Q v H')->t σ H Q
section
variable {cl:Nat->Addr}{i:Nat}
def fK (a:List Nat):Nat->Option D:=λj=>if j%16∈a then some (.int (j%16:Nat))else none
def zcW {f:List Nat}{ok:Nat->Prop}(b:∀ j,cl j=cl (j%16))(c:∀ j,j∈f->ok j):SX cl i (zfl (zgU cl ok) [] E (yc (xz i) we)) (fK f):=by
 intro j d σ H a h Q e g k
 unfold fK at e
 split at e <;> try cases e
 rename_i m
 refine⟨.ref a,g.sl,a,j%16,h,rfl,?_,c _ m,λH' l=>k H' _ l λF=>.int⟩
 rw[<-b j]
 exact g.he
def zkO {t:TE}{f:Nat->Option D}(h:SX cl i t f):RU cl i (zpS t) f:=λj d σ H a b D' e g k =>
 h j d σ H a b _ e g λH' v c l=>k H' v λF s=>⟨F,Gr.more s c,l F⟩
end
end Dl
namespace L2
open PySem PySem.Spec PyProof.Rows
def zeM (a C t:Addr)(b:yM):HO:=.ext λh=>∃ c,h.get? a=some { cls:=.ref C,dict:=b,data:=.fields #[.ref t,.none,.none,.none,.bool false,.none],slots:=c }
section
variable {X:Cx}{pins:xp}{σ:St}{H:Hp}{s:zm}{h':Heap}{a C t dx:Addr}{f:Str}
def zhP {w:World}{H:Hp}{h:Heap}(e:h.get? a=some { cls:=.ref C,dict:=b,data:=.fields #[.ref t,.none,.none,.none,.bool false,.none],slots:=sl }):yK P w H h a (zeM a C t b) :=
 ⟨⟨sl,e⟩,⟨_,e⟩,λd c ⟨sl,z⟩ k=>⟨sl,k _ z⟩⟩
def Inv.two {p:HO}{A:Nat}(I:Inv X pins σ H s)(w:H a=some (.ext φ))(h:∀ o,H dx=some o->∃ l,o=.xd l)(x:∀ o,s.heap.get? dx=some o->H dx≠none)(B:a≠dx)(k:∀ b o,b≠a->b≠dx->s.heap.get? b=some o->h'.get? b=some o)(t:yK X.prog X.w (upd (upd H dx m) a p) h' a p)(r:yK X.prog X.w (upd (upd H dx m) a p) h' dx m):Inv X pins σ (upd (upd H dx m) a p) { s with heap:=h',toks:=A }:=by
 have d:∀ b u,H b=some u->(∀ ψ,u≠.ext ψ)->(∀ l,u≠.xd l)->upd (upd H dx m) a p b=some u:=λb u e t r=>by
  have i:b≠a:=λz=>by subst z;rw[w]at e;cases e;exact t _ rfl
  have j:b≠dx:=λz=>by subst z;obtain⟨l,rfl⟩:=h u e;exact r _ rfl
  rw[zf i,zf j];exact e
 have f:∀ b o,s.heap.get? b=some o->H b=none->b≠a/\b≠dx:=λb o e n=>⟨λz=>by(subst z;rw[w]at n;cases n),λz=>by(subst z;exact x o e n)⟩
 refine I.un ⟨λb o e n _ _=>k b o (f b o e n).1 (f b o e n).2 e,λb o e n _ _=>⟨o.slots,k b o (f b o e n).1 (f b o e n).2 e⟩,λb o e n _=>by rw[zf (f b o e n).1,zf (f b o e n).2];exact n,λb o e _=>?_,
  λb y e=>d b _ e (λ_ z=>by cases z) (λ_ z=>by cases z),λb o u e=>d b _ e (λ_ z=>by cases z) (λ_ z=>by cases z),λb C e=>⟨#[],by rw[Array.append_empty];exact d b _ e (λ_ z=>by cases z) (λ_ z=>by cases z)⟩⟩ λb u e=>?_
 .by_cases i:b=a
  .subst i;exact t.ex
  .by_cases j:b=dx
   .subst j;exact r.ex
   .exact⟨o,k b o i j e⟩
 .by_cases i:b=a
  .subst i;rw[zd]at e;cases e;exact t
  .rw[zf i]at e
   by_cases j:b=dx
   .subst j;rw[zd]at e;cases e;exact r
   .rw[zf j]at e
    refine(I.hok b u e).stay (λc v g q=>?_) (λc g=>d c _ g (λ_ z=>by cases z) λ_ z=>by cases z) λc y g=>d c _ g (λ_ z=>by cases z) λ_ z=>by cases z
    rcases g with rfl | g
    .exact k _ v i j q
    .refine k c v (λz=>?_) (λz=>?_) q
     .subst z;rw[w]at g;cases g
     .subst z;obtain⟨l,z⟩:=h _ g;cases z
def zp0 {Q:Unit->Shared->Prop}(I:Inv X pins σ H s)(e:H a=some (zeM a C t none))(m:Xl X.K C)(n:Yc X.K C f)(l:yZ y u)(h:∀ dx i,H dx=none->Inv X pins σ (upd (upd H dx (.xd [(f,y)])) a (zeM a C t (some dx))) i->Q () i):wpAny (model X.prog X.w) A (setAttr (.ref a) f u) Q E s:=by
 obtain⟨⟨d,c⟩,_⟩:=I.hok a _ e
 refine ziw I.kIn c rfl rfl rfl m n λh' r j v=>h s.heap.objs.size _ (I.hok.fresh (t6 _)) ?_
 have k:a≠s.heap.objs.size:=r0 (j4 c)
 refine I.two e (λo z=>by rw[I.hok.fresh (t6 _)]at z;cases z) (λo z=>absurd (j4 z) (u0t _)) k (λb o p _ z=>v b o p z) (zhP (sl:=d) r) ⟨_,j,λg=>?_⟩
 show zca (List.lookup g [(f,y)]) _
 by_cases q:g=f
 .subst q
  rw[t9 rfl]
  simp only[List.lookup,u0P]
  exact l
 .rw[j5 q]
  simp only[List.lookup,g6.mpr q]
  trivial
end
def sX1 (K:zu)(d c:TE)(f:Str):TS:=λD σ H=>c σ H λy H1=>d σ H1 λx H2=>∃ a C t,x=.ref a/\H2 a=some (zeM a C t none)/\Xl K C/\Yc K C f/\∀ b,H2 b=none->D.nx σ (upd (upd H2 b (.xd [(f,y)])) a (zeM a C t (some b)))
section
variable {X:Cx}{o e value:Expr}{f:Str}{pos pos':Pos}{ta tv:TE}
def zom (i:PE X o ta)(m:PE X value tv)(c:swapsWith value (some (.Attribute o f pos')) pos.line X.env=pure false):PS X (.Assign [.Attribute o f pos'] value pos) (sX1 X.K ta tv f):=by
 intro b s σ H D I h
 refine u1z (thn (m b s σ H _ I h) λu p ⟨y,H1,I1,r,q⟩=>thn (i b p σ H1 _ I1 q) λl z hh9=>?_) c
 obtain⟨x,H2,I2,d,a,C,t,ex,v,e,n,j⟩:=hh9
 subst ex
 obtain rfl:l=Value.ref a:=d
 exact zp0 I2 v e n r λk w g I3=>⟨σ,_,I3,j k g⟩
end
def spI (K:zu)(m:Nat)(ns:zD)(g:zw->List (Str × V)):Sp:=λd H Q _=>∃ a C t b,d=.ref a::b/\b.length=m/\H a=some (zeM a C t none)/\Xl K C/\(∀ f,f∈ns->Yc K C f)/\∀ c,H c=none->Q .non (upd (upd H c (.xd (g b))) a (zeM a C t (some c)))
def gI1 (f:Str):zw->List (Str × V):=λa=>[(f,a.getD 0 .non)]
def zhg {K:zu}{m:Nat}{ns:zD}{g:zw->List (Str × V)}(b:zw)(H:Hp)(Q:VK)(E:XK)(h:spI K m ns g b H Q E):b.length=m+1:=by
 obtain⟨a,C,t,d,rfl,c,_⟩:=h
 rw[o4,c]
def zhz {K:zu} {f:Str} {d:zw} {H:Hp} {Q:VK} {E:XK} {rt:VK} (h:spI K 1 [f] (gI1 f) d H Q E):sX1 K (xz 0) (xz 1) f { nx:=λ_ H'=>Q .non H',rt:=rt } (start ["self",f] d) H:=by
 obtain⟨a,C,t,b,rfl,c,j,e,i,q⟩:=h
 obtain⟨y,rfl⟩:∃ y,b=[y]:=by
  cases b with
  | nil=>cases c
  | cons y r=>cases r with
   | nil=>exact⟨y,rfl⟩
   | cons _ _=>cases c
 exact⟨y,rfl,.ref a,rfl,a,C,t,rfl,j,e,i f (t8.mpr rfl),λk g=>q k g⟩
section
variable {X:Cx}{pins:xp}{σ:St}{H:Hp}{s:zm}{ea dx:Addr}{φ:Heap->Prop}
def Inv.untrack {H':Hp}(I:Inv X pins σ H s)(h:H ea=some (.ext φ))(m:H' ea=none)(d:∀ b,b≠ea->H' b=H b):Inv X pins σ H' s:=by
 have no:∀ b,H b=none->H' b=none:=λb e=>by
  have:b≠ea:=λz=>by(subst z;rw[h]at e;cases e)
  rw[d b this];exact e
 have keep:∀ b u,H b=some u->(∀ ψ,u≠.ext ψ)->H' b=some u:=λb u e n=>by
  have:b≠ea:=λz=>by(subst z;rw[h]at e;cases e;exact n _ rfl)
  rw[d b this];exact e
 refine⟨I.ok,I.os,I.bare,⟨I.base.keep,I.base.slot,λb o e n i=>no b (I.base.free b o e n i),I.base.there,λb g e=>keep b _ (I.base.tups b g e) (λ_ z=>by cases z),λb o u e=>keep b _ (I.base.frzs b o u e) (λ_ z=>by cases z),λb j e=>?_⟩,I.loc,I.cell,no _ I.free,λx c e=>no _ (I.freeC x c e),λp k=>?_,λb u e=>?_,I.len⟩
 .obtain⟨a,z⟩:=I.base.tbls b j e
  exact⟨a,keep b _ z λ_ y=>by cases y⟩
 .obtain⟨e,n,r⟩:=I.pin p k
  exact⟨e,no _ n,r⟩
 .have l:b≠ea:=λz=>by(subst z;rw[m]at e;cases e)
  rw[d b l]at e
  exact(I.hok b u e).stay (λ_ _ _ q=>q) (λc f=>keep c _ f λ_ z=>by cases z) λc g f=>keep c _ f λ_ z=>by cases z
end
structure znZ (K:zu) (mg:wc) (C:Addr) (x:Str) (f:Addr) (ns:zD):Prop where
 bound:mg x=some (.ref C)
 exc:zmZ K C f=true
 attr:WW K C=true
 no:∀ n,n∈ns->W.findIn K (.ref C) n=some none
def zfP {P:zO}{w:World}{K:zu}{S:wc}{i:Heap}{N:zD}{j:Str}{d:Scope}{f:Addr}{W:Value}{A:zM}{outer:List Env}{s:zm}{H:Hp}{E:XK}{C fI:Addr}{fd:ww}{x:Str}{np G c4:Pos}{ns ps:zD}{m k:Nat}{g:zw->List (Str × V)}{e:Expr}{es:yX}{t:TA}
 (hc:znZ K S C x fI ns) (F:xu P w K S i CX0 k fI fd ps (spI K m ns g)) (O:xh K fd ps []) (hr:yY (k+1) (vi (Air P w) P w K S i N j d f W A outer s H E).A) (hg:Gl (vi (Air P w) P w K S i N j d f W A outer s H E) x) (ha:PA (vi (Air P w) P w K S i N j d f W A outer s H E) (e::es) t) (hd:(x == ("__debug__":Str))=false:=by decide)
 (b0:starEach (e::es) (vi (Air P w) P w K S i N j d f W A outer s H E).env=(false,eval e (vi (Air P w) P w K S i N j d f W A outer s H E).env)::starEach es (vi (Air P w) P w K S i N j d f W A outer s H E).env:=by rfl) (b8:(backTo G (starEach es (vi (Air P w) P w K S i N j d f W A outer s H E).env)).any (·.1)=false:=by rfl) :
 PS (vi (Air P w) P w K S i N j d f W A outer s H E) (.Raise (some (.Call (.Name x np) (e::es) [] G)) none c4) (λ_ σ H0=>t σ H0 λU H1=>U.length=m/\m<=1000/\∀ p,H1 p=none->E (.ref C) (some p) (upd H1 p (.xd (g U)))):=by
 let X:=vi (Air P w) P w K S i N j d f W A outer s H E
 intro l s1 σ H0 D I h
 have I:Inv X l σ H0 s1:=I
 obtain⟨bm,NN,nm,q,bs,sn,b4,ab,a6,dd,k0,k1,k2,k3,k5,mN,oI,hC,hN,hi,T,hf,c3⟩:=zjt I.ok.mod.kin hc.exc
 refine zet (C:=C) (nm:=nm) (q:=q) (N:=NN) (bs:=bs) (bm:=bm) (hdct:=true) (sn:=sn) (sub:=b4) (ab:=ab) (col:=a6) (dd:=dd) (k0:=k0) (k1:=k1) (k2:=k2) (k3:=k3) (k5:=k5) (mN:=mN) (fI:=fI) (oI:=oI) (T.hasType u0i.hasBase) (I.ok.hd rfl) (by rw[b0];show((false||(backTo G (starEach es _)).any (·.1)))=false;rw[b8];rfl) hi c3 (vF I hg hc.bound ⟨rfl,?_⟩ hd)
 have hs:=ha G l s1 σ H0 _ I h
 rw[b0]at hs ⊢
 refine PySem.Calls.evalArgs_plain (p0 hs (λY c z=>?_) λ_ _ z=>z)
 obtain⟨U,H1,I2,r,hl,hm,hE⟩:=z
 have I2:Inv X l σ H1 c:=I2
 have b6:Y.length<=sizeLine:=by rw[<-r.length,hl];exact m4 (yR hm)
 refine⟨rfl,b6,I2.bk _ _ hC,hN.keeps I2.bk,T.keeps I2.bk,I2.bk _ _ hf,?_⟩
 have I3:Inv X l σ (upd H1 (c.heap.objs.size+1) (zeM (c.heap.objs.size+1) C c.heap.objs.size none)) { c with heap:=exH c.heap C Y }:=I2.laid (t':=c.toks) (λb o z=>vd z) (u1w _) (zhP (zkr _ _ _))
 have a7:H1 (c.heap.objs.size+1)=none:=I2.hok.fresh (u1w _)
 let R:VK:=λv H'=>v=.non/\∃ p,upd H1 (c.heap.objs.size+1) (zeM (c.heap.objs.size+1) C c.heap.objs.size none) p=none/\H'=upd (upd (upd H1 (c.heap.objs.size+1) (zeM (c.heap.objs.size+1) C c.heap.objs.size none)) p (.xd (g U))) (c.heap.objs.size+1) (zeM (c.heap.objs.size+1) C c.heap.objs.size (some p))
 have a8:spI K m ns g (.ref (c.heap.objs.size+1)::U) (upd H1 (c.heap.objs.size+1) (zeM (c.heap.objs.size+1) C c.heap.objs.size none)) R E0:=⟨_,C,_,U,rfl,hl,zd,.of hc.attr,hc.no,λp J=>⟨rfl,p,J,rfl⟩⟩
 have r3:yp (V.ref (c.heap.objs.size+1)::U) (Value.ref (c.heap.objs.size+1)::Y):=.cons rfl r
 have c2:(Value.ref (c.heap.objs.size+1)::Y++[]).length=ps.length:=by rw[o5,<- r3.length];exact F.len _ _ _ _ a8
 have bd:=O { c with heap:=exH c.heap C Y } (Value.ref (c.heap.objs.size+1)::Y) I3.kIn c2
 rw[o5]at bd
 refine u1A (u1d (F.run _ X.stack _ _ ⟨Value.ref (c.heap.objs.size+1)::Y,[]⟩ _ _ R E0 (hr.make C Y []) (I3.env0.make C Y []) bd r3 a8) λres Z z=>?_)
 cases res with
 | error e=>exact z.elim
 | ok fl =>
  cases fl with
  | next=>exact False.elim z
  | brk=>exact False.elim z
  | cont=>exact False.elim z
  | ret u =>
   obtain⟨v,H4,c1,a0,a4,a9,rv,rfl,p,J,rfl⟩:=id z
   have J4:Inv X l σ _ Z:=I3.call' (ch:=[]) c1 a4 a9 a0 (λb z=>nomatch z)
   obtain rfl:u=Value.none:=rv
   have a2:c.heap.objs.size+1≠p:=λz=>by(subst z;rw[zd]at J;cases J)
   have b5:H1 p=none:=by rw[zf a2.symm]at J;exact J
   have J5:Inv X l σ (upd H1 p (.xd (g U))) Z:=J4.untrack (ea:=c.heap.objs.size+1) zd (by rw[zf a2];exact a7) λb O=>by
    rw[zf O]
    unfold upd
    by_cases M:b=p
    .rw[t9 M,t9 M]
    .rw[j5 M,j5 M,j5 O]
   obtain⟨⟨sl,a1⟩,_⟩:=J4.hok _ _ zd
   refine⟨rfl,_,some p,sl,J4.bk _ _ hC,a1,?_⟩
   show wpAny (model P w) X.A (leaving X.env (.ref (c.heap.objs.size+1))) (λ_ a5=>Air P w outer H s E (.ref (c.heap.objs.size+1)) a5) _ Z
   let B:=PySem.W.hideAll Z.heap ((c.heap.objs.size+1)::frs X.stack)
   have c0:∀ env∈X.stack,∀ a,env.frame=some a->a∈(c.heap.objs.size+1)::frs X.stack:=λenv he a ha=>.tail _ (u1i.mpr ⟨env,he,ha⟩)
   refine ZY (ZR _ _) (wpAny_leaving_firstW (Q:=λ_ a5=>∃ M,a5={ Z with heap:=M }/\Heap.LeftW B (X.env::outer) (c.heap.objs.size+1) (.ref C) (.ref c.heap.objs.size) Z.heap M) (base:=B) (L:=X.env.locals) (outer:=outer) (J4.ok.frames) (PySem.W.funFrames_hide J4.stack c0) rfl a1 (λb o q=>u2j _ q) (u1O _ (.head _)) rfl rfl rfl λM y=>⟨M,rfl,y⟩) ?_
   rintro _ _ ⟨M,rfl,y1,⟨_,_,y2⟩,y3,y4⟩ dk
   have x1:Heap.FlyingW B outer (c.heap.objs.size+1) (.ref C) (.ref c.heap.objs.size) M:=⟨y1,u1O _ (.head _),y2,y3⟩
   have a3:∀ b,b∉frs X.stack->b≠c.heap.objs.size+1->b∉(c.heap.objs.size+1)::frs X.stack:=λb h1 M z=>(j9.mp z).elim M h1
   have b7:Cov X.stack H1 c.heap (upd H1 p (.xd (g U))) Z.heap B:=by
    refine⟨λb o e n O=>?_,λb o e O=>?_,λb o O e=>?_⟩
    .have ne:b≠c.heap.objs.size+1:=r0 (u0K (j4 e))
     exact u0l _ (a4.keep b o (vd e) (by rw[zf ne];exact n) O (by simp)) (a3 b O ne)
    .have ne:b≠c.heap.objs.size+1:=r0 (u0K (j4 e))
     obtain⟨o',e'⟩:=a4.there b o (vd e) (by simp)
     exact⟨o',u0l _ e' (a3 b O ne)⟩
    .refine u0l _ e (a3 b (λz=>O (J5.stkFree b z)) λz=>?_)
     subst z
     exact O (by rw[zf a2];exact a7)
   obtain⟨u1,u2,u3⟩:=I2.airUn (X:=X) rfl J5 b7 x1.1 x1.2.2.1 y4
   obtain⟨ob,b9,_⟩:=x1.there
   exact⟨_,C,_,some p,_,B,rfl,J5.os,J5.bare,u1,u2,x1,u3,Zw.stay (h:=Z.heap) ⟨_,a1,rfl⟩ dk ⟨ob,b9⟩,hE p b5⟩
end L2
namespace Dl
open PySem L2
variable [KK]
def xRI (a:zh4)(b:yB):yS:=fun ρ=>(b (visG ρ)).bind a
def zib (c a:Nat):zh4
 | [.int i]=>if -1<=i then some (c+16*a+64*(i+1).toNat)else none
 | _=>none
def znF (d:Nat->Addr)(C:Addr)(m:Nat)(g:zw->List (Str × V))(a:zh4):Prop:=∀ b j,a b=some j->d j=C/\b.length=m/\∀ F c,AtL F b c->pay j=some (g c)
def Z0 {cl:Nat->Addr} {c:Nat} (b:∀ j,cl j=cl (j%16)) (m:c<16):znF cl (cl c) 1 (gI1 "at") (zib c 1):=by
 intro n j e
 unfold zib at e
 split at e <;> try cases e
 rename_i i
 split at e <;> cases e
 rename_i l
 refine⟨by rw[b (c+16*1+64*(i+1).toNat)];congr 1;omega,rfl,λF k a=>?_⟩
 obtain⟨v,r,rfl,d,h⟩:=a.cons_inv
 cases d.int_inv
 cases h.nil_inv
 have f:(c+16*1+64*(i+1).toNat)/16%4=1:=by omega
 have g:(((c+16*1+64*(i+1).toNat)/64:Nat):Int)-1=i:=by omega
 unfold pay
 rw[f]
 show some [(_,V.int _)]=_
 rw[g]
 rfl
def vP {w:World} {N:zD} {d:Str} {f:Addr} {k:Nat} {g:zw->List (Str × V)} (hc:znZ K h C x G ns) (F:xu P w K h c CX0 k G L J (spI K m ns g)) (X:xh K L J []) (v:znF cl C m g n) (hr:yY (k+1) (vi (Air P w) P w K h c N d b f l A outer s H E).A) (M:Gl (vi (Air P w) P w K h c N d b f l A outer s H E) x) (Q:AD (vi (Air P w) P w K h c N d b f l A outer s H E) (e::o) B) (hm:m<=1000:=by decide) (O:(x == ("__debug__":Str))=false:=by decide) (p:starEach (e::o) (vi (Air P w) P w K h c N d b f l A outer s H E).env=(false,eval e (vi (Air P w) P w K h c N d b f l A outer s H E).env)::starEach o (vi (Air P w) P w K h c N d b f l A outer s H E).env:=by rfl) (r:(backTo i (starEach o (vi (Air P w) P w K h c N d b f l A outer s H E).env)).any (·.1)=false:=by rfl) :
 XS E cl (vi (Air P w) P w K h c N d b f l A outer s H E) (.Raise (some (.Call (.Name x np) (e::o) [] i)) none y) (xRI n B):=by
 obtain⟨t,Y,W⟩:=Q
 refine⟨_,zfP hc F X hr M Y O p r,λFb Hb F H ρ σ D' j q e w=>?_⟩
 obtain⟨I,e1,S⟩:=u4.mp e
 obtain⟨U,el,R⟩:=v I j S
 refine W σ _ _ H I _ q.gh q.visG e1 λF' H' Z T a=>⟨by rw[a.length];exact el,hm,λdx u=>?_⟩
 have z:=w F' H' (q.out T)
 unfold EJ at z
 rw[R F' Z a,U]at z
 exact z dx u
def Wa (b:vW)(a:yS)(g:zz):zg->SE->Option Nat
 | [],_=>none
 | d::ds,ρ=>match b d ρ with
  | none=>none
  | some e=>match a e with
   | some j=>some j
   | none=>match g e with
    | .nx c=>Wa b a g ds c
    | .ct c=>Wa b a g ds c
    | _=>none
def zoO (f:yB)(b:vW)(a:yS)(g:zz):yS:=fun ρ=>match f (visF ρ) with
 | some c=>Wa b a g c ρ
 | none=>none
def znD {X:Cx}{f:yB}{g:zz}(hp:PassesOwn (model X.prog X.w) X.A X.env X.xe)(hc:X.calm=true)(Q:ID X C l f)(hg:BD X C b)(hx:XSs E cl X c z)(hb:SDs X c g)(hs:∀ x,foldedSetIterable l X.env x=pure x:=by intro _;rfl):XS E cl X (.For C l c [] L) (zoO f b z g):=by
 obtain⟨wi,pi,ri⟩:=Q
 obtain⟨a0,pg,W⟩:=hg
 obtain⟨t1,p1,Y⟩:=hx
 obtain⟨t2,p2,r2⟩:=hb
 have K:PSs X c (λD σ H=>t1 D σ H\/t2 D σ H):=λp s σ H D I h=>h.elim (p1 p s σ H D I) (p2 p s σ H D I)
 refine⟨_,zaY hp hc pi pg K hs,λFb Hb F H ρ σ D' j u k w=>?_⟩
 unfold zoO at k
 cases h:f (visF ρ) with
 | none=>rw[h]at k;cases k
 | some a =>
  rw[h]at k
  refine ri σ _ _ H a _ u.gr.fh u.visF h λF1 H1 J T G=>?_
  have o:=u.grow T
  refine⟨λi m σ H=>m=a.length-i/\i<=a.length/\∃ F ρ,zN F1 F/\Rl Fb Hb F H ρ σ/\Wa b z g (a.drop i) ρ=some j,⟨a.length,by simp,p9 _,F1,ρ,zN.refl _,o,k⟩,?_⟩
  rintro i m σ H ⟨rfl,Q,F,ρ,P,u,k⟩
  obtain⟨O,go⟩:=G i F H P u.gr.fh
  by_cases t:i<a.length
  .have S:a.drop i=a[i]::a.drop (i+1):=i7 t
   rw[S]at k
   unfold Wa at k
   obtain⟨q1,U⟩:=go a[i] (by simp[t])
   refine .inr ⟨q1,fun σ H=>∃ F ρ,zN F1 F/\Rl Fb Hb F H ρ σ/\Wa b z g (a.drop (i+1)) ρ=some j,fun σ' H' w=>⟨a.length-(i+1),by omega,rfl,t,w⟩,λx H' R=>?_⟩
   obtain⟨F3,N,Z⟩:=U x H' R
   cases r:b a[i] ρ with
   | none=>rw[r]at k;cases k
   | some A =>
    rw[r]at k
    dsimp only at k
    refine W Fb Hb F3 H' ρ A σ _ x _ (u.grow N) Z r λM y=>?_
    have s3:=P.trans N.ff
    cases q:z A with
    | some j' =>
     rw[q]at k
     cases k
     exact .inl (Y Fb Hb F3 H' A M _ j y q w)
    | none =>
     rw[q]at k
     dsimp only at k
     refine .inr (r2 F1 (hb2 F1 Hb) F3 H' A M _ (y.dn o.gr.ff s3) ?_)
     cases n:g A with
     | nx B=>rw[n]at k;exact λF4 H4 V v=>⟨F4,B,v.gr.ff,v.up o.gr,k⟩
     | ct B=>rw[n]at k;exact λF4 H4 V v=>⟨F4,B,v.gr.ff,v.up o.gr,k⟩
     | bk B=>rw[n]at k;cases k
     | rt d=>rw[n]at k;cases k
     | no=>rw[n]at k;cases k
  .have e:i=a.length:=by omega
   subst e
   rw[u0N]at k
   cases k
end Dl
namespace L2
open PySem PySem.Spec PyProof.Rows
def Vq (s:Stmt)(k:Nat):Stmt:=match s with
 | .ClassDef _ _ _ a _ _ _ _ _ _ _=>a.getD k s
 | _=>s
def znh (K:zu)(C:Addr)(ns:zD):Bool:=ns.all λn=>W.findIn K (.ref C) n == some none
def vX {K:zu}{C:Addr}{ns:zD}(h:znh K C ns=true):∀ n,n∈ns->W.findIn K (.ref C) n=some none:=λn a=>u0g.mp (m7.mp h n a)
end L2
namespace Dl
open PySem L2
def zjy (a:List Nat)(h:Nat->Option D):Nat->Option D:=λj=>if j%16∈a then h j else none
def zff {d:D}(e:zjy a h j=some d):j%16∈a:=by
 unfold zjy at e
 split at e
 .assumption
 .cases e
def zkF {f:List Nat}[KK](r:RU b i u h):RU b i u (zjy f h):=λj d σ H a c D' e g k=>by
 unfold zjy at e
 split at e
 .exact r j d σ H a c D' e g k
 .cases e
end Dl
namespace Dl
open PySem L2
variable [KK]
section
variable {E:XK}{cl:Nat->Addr}{X:Cx}{a b:Expr}{pos:Pos}
def zqU {f:zJ}(h:XE E cl X a c)(g:ED X b f)(d:Y9 b):XE E cl X (.Subscript a b pos) c:=by
 obtain⟨t,p,r⟩:=h
 obtain⟨u,k,_⟩:=g
 exact⟨_,zbR zkj p k d,fun σ ρ F H j Q s i e w=>r σ ρ F H j _ s i e w⟩
end
end Dl
namespace Dl
open PySem L2
variable [KK]
section
variable {X:Cx}
def rNeT:R2:=λx y H Q=>∃ F b a,zN F H/\At F (.tup b) x/\At F (.tup a) y/\okE 20 (.tup b)=true/\okE 20 (.tup a)=true/\Q (.bl (!eqN 20 (.tup b) (.tup a))) H
def zpk {k:Nat}(R:yY k X.A):OpR X (compareOp .NotEq) rNeT:=by
 intro z s σ H x y v u Q I l i h
 obtain⟨F,t,w,f,B,K,N,L,q⟩:=h
 have P:X.A.units+30<cLine:=by have:=R.un;omega
 obtain⟨p,T,rfl,O,A⟩:=B.tup_inv
 obtain⟨M,U,rfl,C,bl⟩:=K.tup_inv
 cases l
 cases i
 obtain⟨d,r,D,W⟩:=I.tuple (SqT.of (f _ _ O))
 obtain⟨a,o,g,G⟩:=I.tuple (SqT.of (f _ _ C))
 have b:d.toArray.size=t.length:=by rw[t7,<- r.length,A.length]
 have c:a.toArray.size=w.length:=by rw[t7,<- o.length,bl.length]
 refine SeqAt.RcNeAt.tuples (e:=λj=>eqN 19 (t.getD j .non) (w.getD j .non)) (show s.heap.IsTuple p d.toArray from D) (show s.heap.IsTuple M a.toArray from g) (by omega) (λj m n=>?_) _ _ _ _ ⟨.bl _,H,I,rfl,?_⟩
 .obtain⟨S,J,l⟩:=A.nth r (j:=j) (by simpa using m)
  obtain⟨V,E,i⟩:=bl.nth o (j:=j) (by simpa using n)
  exact zaU I f 19 (wB N (by rw[<-b];exact m)) (wB L (by rw[<-c];exact n)) J E (by simpa using l) (by simpa using i) (l9 (show X.A.units+20<=X.A.units+30 from u0M (by decide) _) P)
 .rw[b,c,<- zav]
  exact q
end
def zoM:xE
 | .tup ds,.tup es=>if (okE 20 (.tup ds)&&okE 20 (.tup es))=true then some (.bl (!eqN 20 (.tup ds) (.tup es)))else none
 | _,_=>none
def zmt:OpD rNeT zoM:=by
 intro F H x y d e z Q s c f a q
 unfold zoM at a
 split at a
 .split at a <;> cases a
  rename_i b
  rw[j6]at b
  exact⟨F,_,_,s,c,f,b.1,b.2,q F H _ (.refl s) .bl⟩
 .cases a
end Dl
namespace OwnDk
open PySem
section
variable {prog:zO}{w:World}{A:zM}{E:yT}{s:zm}
def zbb (hh:A.handled=none)(I a:Addr)(hne:a≠I){ob:Obj}{es:Array DictEntry}{ep:Nat}(hd:ob.data=.dict es ep) :
 Walks prog w A I [I,a] [I] es.size (λi v=>∃ e,es[i]?=some e/\v=e.key) (λi h=>h.IsKeyIter I a i es.size ep/\h.get? a=some ob) where
 sub:=λb hb=>by simp at hb;simp[hb]
 frame:=λ_ _ _ x hk=>⟨x.1.at λo e=>hk I (by simp) o e,hk a (by simp) _ x.2⟩
 item:=λi s Q E hi x hQ=>by
  have hx:es[i]?=some (es[i]'hi):=u0F _
  refine L2.raw_next x.1 x.2 hd hx λh' he' hs'=>?_
  exact hQ _ h' s.toks ⟨_,hx,rfl⟩ ⟨he',(hs'.2 a hne).trans x.2⟩ λb o hb eo=>hs'.extBut b o (λh=>hb (by simp[h])) eo
 done:=λs Q E x hQ=>L2.raw_end hh x.1 x.2 hd (t6 _) λh' he'=>hQ h' s.toks λb o hb eo=>he' b o (λh=>hb (by simp[h])) eo
 self:=λ_ _ _ _ x hQ=>wpAny_pyIter_keyiter x.1 hQ
def Xy {B:Obj}{f:Array DictEntry}{Q:zx->Shared->Prop}(hh:A.handled=none)(hs:(a == sysModules)=false)(M:s.heap.get? a=some B)(L:B.ExactDict)(N:B.data=.dict f u)(Y:f.size<=sizeLine)(hQ:∀ k,(∀ b o,s.heap.get? b=some o->k.heap.get? b=some o)->k.gens=s.gens->k.drawn=s.drawn->k.os=s.os->Q (f.toList.map (·.key)) k):wpAny (model prog w) A (collect (.ref a)) Q E s:=by
 have C:a<s.heap.objs.size:=j4 M
 have r:s.heap.objs.size≠a:=u1F C
 unfold collect
 refine u5 (wpAny_runValue (codeAny_builtin F.entry_proto_collect ?_))
 rw[Around.under_plainId F.plain_proto_collect _]
 show wpAny _ A.in1 (newList []>>=λl=>again (.builtin "list.__iadd__" ⟨[l,.ref a],[]⟩)) _ _ s
 refine u5 (l8 ?_)
 refine t5 ⟨plainId_quiet F.plain_list_iadd _,codeAny_builtin F.entry_list_iadd ?_⟩
 rw[Around.under_plainId F.plain_list_iadd _]
 have h:(s.heap.push { cls:=.type "list",data:=.seq ([]:zx).toArray }).get? a=some B:=u8 _ M
 have x:(s.heap.push { cls:=.type "list",data:=.seq ([]:zx).toArray }).get? s.heap.objs.size=some { cls:=.type "list",data:=.seq ([]:zx).toArray }:=k9 _ rfl
 generalize D:s.heap.push { cls:=.type "list",data:=.seq ([]:zx).toArray }=h1 at h x ⊢
 have k1:∀ b o,s.heap.get? b=some o->h1.get? b=some o:=λb o e=>by rw[<-D];exact u8 _ e
 have q:h1.objs.size=s.heap.objs.size+1:=by rw[<-D];exact u0c ..
 show wpAny _ A.in1 (Builtin.List.listExtendWith (.ref s.heap.objs.size) (.ref a) (.ref s.heap.objs.size)) _ _ _
 unfold Builtin.List.listExtendWith
 refine u5 (u1I (T:="dict") ⟨_,h,L.1⟩ ?_)
 have S:Builtin.List.listSameRef (.ref s.heap.objs.size) (.ref a)=false:=by simp[Builtin.List.listSameRef,r]
 have V:(Value.type "dict" == Value.type "list")=false:=by decide
 have U:(Value.type "dict" == Value.type "tuple")=false:=by decide
 simp only[S,V,U,Bool.or_false,u1f,u2m]
 refine u5 (L2.raw_iter hs h L N ?_)
 have v:(h1.push { cls:=.type "dict_keyiterator",data:=.fields #[.ref a,.int 0 0,.int f.size 0,.int u 0] }).IsKeyIter h1.objs.size a 0 f.size u:=⟨_,k9 _ rfl,rfl,rfl⟩
 have n:(h1.push { cls:=.type "dict_keyiterator",data:=.fields #[.ref a,.int 0 0,.int f.size 0,.int u 0] }).get? a=some B:=u8 _ h
 have p:=u8 { cls:=.type "dict_keyiterator",data:=.fields #[.ref a,.int 0 0,.int f.size 0,.int u 0] } x
 generalize J:h1.push { cls:=.type "dict_keyiterator",data:=.fields #[.ref a,.int 0 0,.int f.size 0,.int u 0] }=h2 at v n p ⊢
 have Z:∀ b o,h1.get? b=some o->h2.get? b=some o:=λb o e=>by rw[<-J];exact u8 _ e
 refine u5 (i0 (PySem.W.kdl_hint_dict ⟨_,n,L.1⟩ ?_))
 show wpAny _ A.in1 (if true=true then _ else _) _ _ _
 rw[t9 rfl]
 refine u5 (u2y (u5 ?_))
 show wpAny _ A.in1 (updateSeq s.heap.objs.size (·.push .none)>>=λ_=>updateSeq s.heap.objs.size (·.pop)) _ _ _
 refine u5 (wpAny_updateSeq p rfl ?_)
 have y:=i2 (Obj.mapSeq (·.push Value.none)) p rfl
 refine wpAny_updateSeq (hz:=by seq_fits) y rfl ?_
 have G:=i2 (Obj.mapSeq (·.pop)) y rfl
 have t:∀ b o,b≠s.heap.objs.size->h2.get? b=some o->((h2.update s.heap.objs.size (Obj.mapSeq (·.push Value.none))).update s.heap.objs.size (Obj.mapSeq (·.pop))).get? b=some o :=
  λb o P e=>(i6 _ _ (u0k P)).trans ((i6 _ _ (u0k P)).trans e)
 have m:h1.objs.size≠s.heap.objs.size:=by rw[q];exact Nat.succ_ne_self _
 have H:a≠h1.objs.size:=by rw[q];exact r0 (u0K C)
 have W:=zbb (prog:=prog) (w:=w) (A:=A.in1) hh h1.objs.size a H N
 refine t5 ⟨plainId_quiet F.plain_extend_loop _,codeAny_extend_loopS W.toS Y _ (λc=>?_) _ f.size 0 _ #[] _ rfl (p9 _) ⟨v.at λo e=>t _ _ m e,t _ _ (u0k r) n⟩ G (ItemsOf.nil _) λk g c' j I d=>?_⟩
 .rcases j9.mp c with e | e
  .exact m e.symm
  .exact r (t8.mp e)
 .show wpAny _ A (load s.heap.objs.size>>=_) _ _ k
  refine u5 (wpAny_load I ?_)
  refine t5 ?_
  have e1:g.toList=f.toList.map (·.key):=by
   apply List.ext_getElem?
   intro i
   by_cases K:i<f.size
   .have O:g[i]?=some (g[i]'(by rw[d.1];exact K)):=u0F _
    obtain⟨e,R,X⟩:=d.2 i _ O
    rw[r8,u1C,u1C,O,R,X]
    rfl
   .rw[List.getElem?_eq_none (by rw[i1,d.1];exact u0B K),List.getElem?_eq_none (by rw[t4,i1];exact u0B K)]
  rw[e1]
  refine hQ k (λb o e=>j.heap b o (λc=>?_) (t b o (r0 (j4 e)) (Z b o (k1 b o e)))) j.gens j.drawn j.os
  rcases j9.mp c with z | z
  .exact r0 (j4 e) z
  .have:=j4 e
   rw[t8.mp z,q]at this
   exact absurd (Nat.lt_of_succ_lt this) (u0t _)
def own_sorted_dict {z:Obj}{l:Array DictEntry}{N:Nat}{Q:yT}(hh:A.handled=none)(X:(a == sysModules)=false)(H:s.heap.get? a=some z)(hc:z.ExactDict)(I:z.data=.dict l N)(g:l.size<64)(G:∀ v∈l.toList.map (·.key),∃ t,OwnSortT.TT s.heap v t) (h:∀ (f y:Heap) (r:Nat) (d:wY) (c:Nat),d.toList.Perm (l.toList.map (·.key))->OwnSortT.Rise s.heap d.toList->(∀ b o,s.heap.get? b=some o->f.get? b=some o)->(∀ b o,f.get? b=some o->y.get? b=some o) ->
 y.get? f.objs.size=some { cls:=.type "list",dict:=none,data:=.seq d c,slots:=#[] }->Q (.ref f.objs.size) { s with heap:=y,toks:=r }) :
 wpAny (model prog w) A (call (.builtin "sorted") [.ref a]) Q E s:=by
 refine Calls.call_function_entry PyProof.Rows.kind_sorted PyProof.Rows.plain_sorted PyProof.Rows.entry_sorted (PyProof.Rows.args_sorted1 _) ?_
 unfold Builtin.«sorted»
 refine u5 (m:=checkCount "sorted" 1 1 _) (t5 (u5 (Xy hh X H hc I (n0 (m4 g) (by rw[u0G];decide)) λs' k K T P=>?_)))
 obtain⟨f,Y,J,R,x⟩:=s'
 have e1:Y=s.gens:=K
 have S:J=s.drawn:=T
 have e3:x=s.os:=P
 subst e1 S e3
 have g:(l.toList.map (·.key)).length<64:=by rw[t4,i1];exact g
 generalize l.toList.map (·.key)=vs at *
 refine u5 (wpAny_newList ?_)
 have j:(f.push (PyProof.Rows.seqObj "list" vs.toArray 0)).get? f.objs.size=some (PyProof.Rows.seqObj "list" vs.toArray 0):=k9 _ rfl
 have F:∀ b o,s.heap.get? b=some o->(f.push (PyProof.Rows.seqObj "list" vs.toArray 0)).get? b=some o:=λb o e=>u8 _ (k b o e)
 refine u5 (i0 (u0h PyProof.Rows.slot_list_sort ⟨_,j,rfl⟩ PyProof.Rows.entry_list_sort (OwnSortT.ownT_list_sort j (λv q=>let ⟨t,u⟩:=G v q;⟨t,u.keep F⟩) g λd C W=>⟨_,rfl,?_⟩) (PyProof.Rows.args_list_sort _)))
 have p:OwnSortT.Rise s.heap d.toList:=by
  obtain⟨Z,U,L,V⟩:=W
  refine⟨Z,U,λi v t q u=>?_,V⟩
  obtain⟨t0,n⟩:=G v (C.mem_iff.mp (f8 q))
  rw[(L i v t q u).uniq (n.keep F)]
  exact n
 have M:∀ b o,b≠f.objs.size->(f.push (PyProof.Rows.seqObj "list" vs.toArray 0)).get? b=some o->(PyProof.Rows.sortedHeap (f.push (PyProof.Rows.seqObj "list" vs.toArray 0)) f.objs.size vs d).get? b=some o:=λb o D e=>by
  unfold PyProof.Rows.sortedHeap
  exact(i6 _ _ (u0k D)).trans (u8 _ (u8 _ ((i6 _ _ (u0k D)).trans e)))
 have B:∃ c,(PyProof.Rows.sortedHeap (f.push (PyProof.Rows.seqObj "list" vs.toArray 0)) f.objs.size vs d).get? f.objs.size=some { cls:=.type "list",dict:=none,data:=.seq d c,slots:=#[] }:=by
  unfold PyProof.Rows.sortedHeap
  have u1:=i2 (Obj.mapSeq λ_=>(#[]:wY)) j rfl
  have O:=u8 (PyProof.Rows.seqObj "list" #[] 0) (u8 (PyProof.Rows.seqObj "tuple" vs.toArray 0) u1)
  exact⟨_,i2 (Obj.mapSeq λ_=>d) O rfl⟩
 obtain⟨c,B⟩:=B
 exact t5 ⟨_,rfl,h f _ _ d c C p k (λb o e=>M b o (r0 (j4 e)) (u8 _ e)) B⟩
end
end OwnDk
namespace Dl
open PySem L2
def zl4:List Key->Option zy
 | []=>some []
 | .inl i::r=>(zl4 r).map (i::·)
 | _=>none
def zcu:List (List Key)->Option Zu
 | []=>some []
 | k::ks=>match zl4 k with
  | some (i::t)=>(zcu ks).map ((i::t)::·)
  | _=>none
def ziz:∀ {k:List Key} {t:zy},zl4 k=some t->k=t.map Sum.inl:=by
 intro k
 induction k with
 | nil=>intro t h;cases h;rfl
 | cons a k b =>
  intro t h
  cases a with
  | inl i =>
   obtain⟨r,e,rfl⟩:=u9.mp h
   rw[b e]
   rfl
  | inr x=>cases h
def ziP:∀ {a:List (List Key)} {b:Zu},zcu a=some b->a=b.map (λt=>t.map Sum.inl)/\∀ t∈b,t≠[]:=by
 intro a
 induction a with
 | nil=>intro b h;cases h;exact⟨rfl,λt h=>by cases h⟩
 | cons k a j =>
  intro b h
  unfold zcu at h
  split at h
  .rename_i i t e
   obtain⟨r,d,rfl⟩:=u9.mp h
   obtain⟨g,f⟩:=j d
   refine⟨by rw[g,ziz e];rfl,λu c=>?_⟩
   rcases j9.mp c with rfl | c
   .exact List.cons_ne_nil _ _
   .exact f u c
  .cases h
def zng (t:zy):Zu->Zu
 | []=>[t]
 | u::us=>if HT.lexLt u t=true then u::zng t us else t::u::us
def Xb:Zu->Zu
 | []=>[]
 | t::ts=>zng t (Xb ts)
def za4 (t:zy):∀ a:Zu,(zng t a).Perm (t::a):=by
 intro a
 induction a with
 | nil=>exact u2W _
 | cons u a b =>
  unfold zng
  split
  .exact(b.cons u).trans (List.Perm.swap _ _ _)
  .exact u2W _
def Wj:∀ a:Zu,(Xb a).Perm a:=by
 intro a
 induction a with
 | nil=>exact u2W _
 | cons t a b=>exact(za4 t _).trans (b.cons t)
def zgo (t:zy):∀ f:Zu,f.Pairwise (λa b=>HT.lexLt b a=false)->(zng t f).Pairwise λa b=>HT.lexLt b a=false:=by
 intro f
 induction f with
 | nil=>intro _;exact u0f _ _
 | cons u f g =>
  intro h
  rw[u0n]at h
  unfold zng
  by_cases c:HT.lexLt u t=true
  .rw[t9 c]
   refine u0n.mpr ⟨λv d=>?_,g h.2⟩
   rcases j9.mp ((za4 t f).mem_iff.mp d)with rfl | d
   .cases e:HT.lexLt v u with
    | false=>rfl
    | true =>
     have:=OwnSortT.lex_trans _ _ _ c e
     rw[OwnSortT.lex_irr]at this
     cases this
   .exact h.1 v d
  .rw[j5 c]
   have c:HT.lexLt u t=false:=by cases e:HT.lexLt u t with
    | false=>rfl
    | true=>exact absurd e c
   refine u0n.mpr ⟨λv d=>?_,u0n.mpr h⟩
   rcases j9.mp d with rfl | d
   .exact c
   .cases e:HT.lexLt v t with
    | false=>rfl
    | true =>
     rcases OwnSortT.lex_neg v u t e with z | z
     .rw[h.1 v d]at z;cases z
     .rw[c]at z;cases z
def zcG:∀ c:Zu,(Xb c).Pairwise λa b=>HT.lexLt b a=false:=by
 intro c
 induction c with
 | nil=>exact List.Pairwise.nil
 | cons t c d=>exact zgo t _ d
def Wb {d:Zu}(p:d.Perm c)(h:d.Pairwise λa b=>HT.lexLt b a=false):d=Xb c :=
 List.Perm.eq_of_pairwise (le:=λa b=>HT.lexLt b a=false) (λa b _ _ f e=>OwnSortT.lex_total _ _ e f) h (zcG c) (p.trans (Wj c).symm)
def zp9 (t:zy):D:=.tup (t.map .int)
def zcY:zi9
 | [.dct _ true ks _]=>if ks.length<64 then (zcu ks).map λa=>(Xb a).map zp9 else none
 | _=>none
variable [KK]
section
variable {X:Cx}{e:Expr}{pos:Pos}
def Gr.seeL {H:Hp}:∀ {F:Hp} (a:List (Addr × zw)),zN F H->(∀ b∈a,H b.1=some (.tup b.2))->∃ F',Gr F H F' H/\∀ b∈a,F' b.1=some (.tup b.2):=by
 intro F a
 induction a generalizing F with
 | nil=>intro s _;exact⟨F,.refl s,λb h=>by cases h⟩
 | cons b a g =>
  intro s h
  obtain⟨F1,e,i⟩:=Gr.see s (h b g3)
  obtain⟨F2,f,j⟩:=g e.fh λc d=>h c (r9 _ d)
  refine⟨F2,e.trans f,λc d=>?_⟩
  rcases j9.mp d with rfl | d
  .exact f.ff _ _ i
  .exact j c d
def zbj (S:X.calm=true):Yh X (.builtin "sorted") (λC H Q=>∃ F a z ks ys x,C=[.ref a]/\zN F H/\V8 F a z true ks ys/\ks.length<64/\zcu ks=some x/\∀ l zs F',H l=none->Gr F H F' H->AtL F' ((Xb x).map zp9) zs->Q (.ref l) (upd H l (.lst zs))):=by
 intro a3 s σ H C us Q I r h
 obtain⟨F,a,z,ks,ys,x,rfl,sm,M,b4,hk,q⟩:=h
 obtain⟨u,rfl,ru⟩:=Ve r
 cases ru
 obtain⟨rfl,a2⟩:=ziP hk
 rw[t4]at b4
 obtain⟨u,hu,hz⟩:=M.mono sm
 unfold zcz at hu
 rw[t9 rfl]at hu
 obtain⟨J,rfl,a0,-⟩:=hu
 have ok:yK X.prog X.w H s.heap a (.dT J):=by
  cases z with
  | true=>rw[t9 rfl]at hz;obtain⟨ob,e⟩:=hz;exact(show yK X.prog X.w H s.heap a (.frz ob (.dT J))from I.hok a _ e).2
  | false=>rw[j5 u7]at hz;exact I.hok a _ hz
 obtain⟨_,b5,C,pr,o,es,ep,e1,ex,dt,he,nd⟩:=ok
 have hp:=u2A pr
 have b6:J.length=x.length:=by have:=u0z List.length a0;rw[t4,t4]at this;exact this
 have D:es.toList.map (·.key)=C.map λq=>Value.ref q.2.1:=by rw[he,u0V];rfl
 have a7:es.size<64:=by rw[<-i1,he,t4];omega
 have b0:∀ {l:zad} {m:List (List Key × Addr × Value)},Paired (λp q=>p.1=q.1/\H q.2.1=some (.tup (p.1.map kV))/\yZ p.2 q.2.2) l m->∀ (j:Nat) (k:j<l.length) (G:j<m.length),l[j].1=m[j].1/\H m[j].2.1=some (.tup (l[j].1.map kV)):=λ{l m} r=>by
  induction r with
  | nil=>intro j k;simp at k
  | cons h t O =>
   intro j k G
   cases j with
   | zero=>exact⟨h.1,h.2.1⟩
   | succ j=>exact O j (by simpa using k) (by simpa using G)
 have a1:∀ (j:Nat) (k:j<x.length) (G:j<C.length),H C[j].2.1=some (.tup (x[j].map V.int)):=λj k G=>by
  have h3:j<J.length:=by omega
  obtain⟨-,r2⟩:=b0 pr j h3 G
  have T:J[j].1=x[j].map Sum.inl:=by
   have:=u0z (λl=>l[j]?) a0
   simp only[r8]at this
   rw[o6 h3,o6 k]at this
   exact g4 this
  rw[r2,T,u0V]
  rfl
 have L:∀ {v:Value},v∈(C.map λq=>Value.ref q.2.1)->∃ b t,v=.ref b/\t∈x/\H b=some (.tup (t.map V.int))/\OwnSortT.TT s.heap v t:=λ{v} hv=>by
  obtain⟨j,hj,rfl⟩:=u09 hv
  rw[t4]at hj
  have N:j<x.length:=by omega
  have E:=a1 j N hj
  rw[u1L]
  obtain⟨us,ru,⟨o,ho,P,n,M⟩,_⟩:=I.tuple (SqT.of E)
  exact⟨C[j].2.1,x[j],rfl,u0O N,E,C[j].2.1,o,n,us,rfl,ho,P,M,YF ru,a2 _ (u0O N)⟩
 refine OwnDk.own_sorted_dict (I.ok.hd S) b5 e1 ex dt a7 (λv hv=>by rw[D]at hv;obtain⟨b,t,-,-,-,R⟩:=L hv;exact⟨t,R⟩) λk h' tk W c pm ri k1 k2 hL=>?_
 rw[D]at pm
 obtain⟨us,l1,l2,l3⟩:=ri
 have Y:∀ (y:zx) (f:Zu),y.length=f.length->(∀ w∈y,w∈C.map λq=>Value.ref q.2.1)->(∀ (i:Nat) v t,y[i]?=some v->f[i]?=some t->OwnSortT.TT s.heap v t)->∃ B:List (Addr × zy),B.map (·.2)=f/\yp (B.map λb=>V.ref b.1) y/\∀ b∈B,H b.1=some (.tup (b.2.map V.int)):=by
  intro y
  induction y with
  | nil =>
   intro f K _ _
   cases f with
   | nil=>exact⟨[],rfl,.nil,λb h=>by cases h⟩
   | cons _ _=>simp at K
  | cons w y O =>
   intro f K hm R
   cases f with
   | nil=>simp at K
   | cons t f =>
    obtain⟨B,U,z1,z2⟩:=O f (by simpa using K) (λw' a5=>hm w' (r9 _ a5)) (λi v t k G=>R (i+1) v t (by simpa using k) (by simpa using G))
    obtain⟨a,t',rfl,_,ha,a9⟩:=L (hm w g3)
    have et:t'=t:=a9.uniq (R 0 _ t rfl rfl)
    subst et
    exact⟨(a,t')::B,by rw[o7,U],.cons rfl z1,λb E=>by
     rcases j9.mp E with rfl | E
     .exact ha
     .exact z2 b E⟩
 obtain⟨B,U,z1,z2⟩:=Y W.toList us l1 (λw hw=>pm.mem_iff.mp hw) l2
 have A:us.Perm x:=by
  have kv:∀ (y:zx) (f:Zu),y.length=f.length->(∀ (i:Nat) v t,y[i]?=some v->f[i]?=some t->OwnSortT.TT s.heap v t)->f=y.map λv=>(OwnSortT.keyTT s.heap v).getD []:=by
   intro y
   induction y with
   | nil=>intro f K _;cases f with
    | nil=>rfl
    | cons _ _=>simp at K
   | cons w y O =>
    intro f K R
    cases f with
    | nil=>simp at K
    | cons t f =>
     rw[o7,OwnSortT.keyTT_of (R 0 w t rfl rfl),<- O f (by simpa using K) λi v t k G=>R (i+1) v t (by simpa using k) (by simpa using G)]
     rfl
  rw[kv _ _ l1 l2,kv (C.map λq=>Value.ref q.2.1) x (by rw[t4];omega) λi v t k G=>?_]
  .exact pm.map _
  .obtain⟨hi,e2⟩:=j3.mp k
   obtain⟨Z,T⟩:=j3.mp G
   rw[t4]at hi
   have E:=a1 i Z hi
   rw[T]at E
   obtain⟨a8,a4,⟨o,ho,P,n,M⟩,_⟩:=I.tuple (SqT.of E)
   exact⟨C[i].2.1,o,n,a8,by rw[<-e2,u1L],ho,P,M,YF a4,a2 t (by rw[<-T];exact u0O Z)⟩
 have T:=Wb A l3
 subst T
 obtain⟨F',g,hF⟩:=Gr.seeL (B.map λb=>(b.1,b.2.map V.int)) sm λb E=>by
  obtain⟨c,S,rfl⟩:=u0D.mp E
  exact z2 c S
 have az:AtL F' ((Xb x).map zp9) (B.map λb=>V.ref b.1):=by
  rw[<-U]
  clear U z1 pm l1 l2
  induction B with
  | nil=>exact .nil
  | cons b B O=>exact .cons (.tup (hF (b.1,b.2.map V.int) (u0D.mpr ⟨b,g3,rfl⟩)) (.ints _)) (O (λc S=>z2 c (r9 _ S)) (λc S=>by
   obtain⟨d,M,rfl⟩:=u0D.mp S
   exact hF _ (u0D.mpr ⟨d,r9 _ M,rfl⟩)))
 have I2:Inv X a3 σ H { s with heap:=k,toks:=tk }:=I.kept λb u e=>k1 b u e
 have a6:(B.map λb=>V.ref b.1).length<=sizeLine:=by
  have hh:B.length=(Xb x).length:=by rw[<-U,t4]
  rw[t4,hh,(Wj x).length_eq,u0G]
  omega
 exact⟨.ref k.objs.size,_,I2.laid (t':=tk) (λb o e=>k2 b o e) (t6 _) (show yK X.prog X.w _ h' _ (.lst (B.map λb=>V.ref b.1)) from⟨a6,W.toList,c,z1,by simpa using hL⟩),rfl,q _ _ F' (I2.hok.fresh (t6 _)) g az⟩
def zex {p:Pos} {f:yB} (M:X.calm=true) (h:Gl X "sorted") (O:X.mg "sorted"=none) (m:AD X [e] f)
 (L:starEach [e] X.env=(false,eval e X.env)::starEach [] X.env:=by rfl) (d:(backTo pos (starEach [] X.env)).any (·.1)=false:=by rfl):FL X (.Call (.Name "sorted" p) [e] [] pos) (fFn zcY f):=by
 obtain⟨t,C,B⟩:=m
 refine⟨_,yw (zbj M) h O zhE C (by decide) (by decide) L d,fun σ ρ F H z Q s G e q=>?_⟩
 obtain⟨u,I,o⟩:=u4.mp e
 refine B σ ρ F H u _ s G I λF1 H1 R i k=>?_
 have a:=o
 unfold zcY at a
 split at a
 .rename_i N j P
  split at a <;> try cases a
  rename_i E
  obtain⟨y,J,rfl⟩:=u9.mp a
  obtain⟨x,r,rfl,n,w⟩:=k.cons_inv
  cases w.nil_inv
  obtain⟨p,v,rfl,A,bl⟩:=n.dct_inv
  refine⟨F1,p,N,j,v,y,rfl,i.fh,A,(by omega),J,λl zs F' c g K=>?_⟩
  have b:=i.trans g
  exact q _ _ _ _ (b.trans (Gr.hide b.fh c _)) (zb2 b c) (b.fh.free c) zd K
 .cases a
end
end Dl
namespace Dl
open PySem L2
variable [KK]
def shT (k:Bool):D->Option (zg × D)
 | .tup [x,y]=>match k,x,y with
  | false,.lst es,y=>some (es,y)
  | true,x,.lst es=>some (es,x)
  | _,_,_=>none
 | _=>none
def tvT (k:Bool)(p:Addr)(v:V):zw:=if k=true then [v,.ref p]else [.ref p,v]
def tupT (k:Bool)(a:zg)(y:D):D:=if k=true then .tup [y,.lst a]else .tup [.lst a,y]
omit [KK] in
def zoD {k:Bool}{d:D}(h:shT k d=some (c,y)):d=tupT k c y:=by
 unfold shT at h
 split at h
 .rename_i a b
  cases k with
  | false=>cases a <;> cases h;rfl
  | true=>cases b <;> cases h;rfl
 .cases h
def zgD (k:Bool)(F H:Hp)(Q:VK)(d:D):Prop:=match shT k d with
 | some (es,y)=>∀ F' H' a p b v,Gr F H F' H'->H p=none->H a=none->F' p=none->F' a=none->H' p=some (.lst b)->H' a=some (.tup (tvT k p v))->AtL F' es b->At F' y v->Q (.ref a) H'
 | none=>∀ F' H' v,Gr F H F' H'->At F' d v->Q v H'
def zgD.up {k:Bool}{d:D}(c:Gr Fb Hb F1 H1)(h:zgD k Fb Hb Q d):zgD k F1 (hb2 F1 Hb) Q d:=by
 have b:∀ q,hb2 F1 Hb q=none->Hb q=none:=λq h=>by
  cases e:F1 q with
  | none=>rw[YE e]at h;exact h
  | some o=>rw[zc2 e]at h;cases h
 unfold zgD at h ⊢
 cases e:shT k d with
 | some p =>
  obtain⟨m,y⟩:=p
  rw[e]at h
  exact λF' H' a p j v g f i=>h F' H' a p j v (c.up g) (b p f) (b a i)
 | none =>
  rw[e]at h
  exact λF' H' v g l=>h F' H' v (c.up g) l
def zgD.of {k:Bool}{Q:VK}{d:D}(h:∀ F' H' v,Gr F H F' H'->At F' d v->Q v H'):zgD k F H Q d:=by
 unfold zgD
 cases e:shT k d with
 | none=>exact h
 | some q =>
  obtain⟨E,y⟩:=q
  rintro F' H' a p f v g t w l o n s C x
  have r:a≠p:=zjD s n (by intro z;cases z)
  have B:=g.show t l n
  have A:=B.show w (by rw[zf r];exact o) s
  have m:zN F' (upd F' p (.lst f)):=λb u e=>by rw[zf (ze e l)];exact e
  have j:zN (upd F' p (.lst f)) (upd (upd F' p (.lst f)) a (.tup (tvT k p v))):=λb u e=>by rw[zf (ze e (by rw[zf r];exact o))];exact e
  have i:At (upd (upd F' p (.lst f)) a (.tup (tvT k p v))) (.lst E) (.ref p):=At.lst (j _ _ zd) (C.mono (m.trans j))
  have c:At (upd (upd F' p (.lst f)) a (.tup (tvT k p v))) y v:=x.mono (m.trans j)
  refine h _ _ _ A ?_
  rw[zoD e]
  cases k with
  | false=>exact At.tup zd (.cons i (.cons c .nil))
  | true=>exact At.tup zd (.cons c (.cons i .nil))
def zqp (k:Bool)(Fb Hb:Hp)(E:Z7):Ctl->Prop
 | .rt d=>zgD k Fb Hb E.rt d
 | c=>SOk Fb Hb E c
def RST (k:Bool)(t:TS)(g:zz):Prop:=∀ (Fb Hb F H:Hp) (ρ:SE) (σ:St) (E:Z7),Rl Fb Hb F H ρ σ->zqp k Fb Hb E (g ρ)->t E σ H
def SDT (k:Bool)(X:Cx)(a:Stmt)(g:zz):Prop:=∃ t,PS X a t/\RST k t g
def zkV (k:Bool)(X:Cx)(a:wN)(g:zz):Prop:=∃ t,PSs X a t/\RST k t g
section
variable {k:Bool}{X:Cx}{st:Stmt}{sts:wN}{a b c e tg:Expr}{pos pos':Pos}
def zay:zkV k X [] zE:=⟨_,zbV,λ_ _ F H ρ σ E r h=>h F H σ r⟩
def wS {g:zz}(i:SDT k X st g)(c:zkV k X sts h):zkV k X (st::sts) (zS g h):=by
 obtain⟨t,p,r⟩:=i
 obtain⟨u,b,l⟩:=c
 refine⟨_,zZ p b,λFb Hb F H ρ σ E f q=>?_⟩
 refine r Fb Hb F H ρ σ { E with nx:=u E } f ?_
 unfold zS at q
 cases e:g ρ with
 | nx j =>
  rw[e]at q
  exact λF' H' m a=>l Fb Hb F' H' j m E a q
 | rt d=>rw[e]at q;exact q
 | bk d=>rw[e]at q;exact q
 | ct d=>rw[e]at q;exact q
 | no=>rw[e]at q;exact q
def Zi {g:zz}(a:SDT k X st g):zkV k X [st] g:=let ⟨_,p,r⟩:=a;⟨_,xL p,r⟩
def zcT {g:zz}(h:SD X st g)(b:∀ ρ d,g ρ≠.rt d):SDT k X st g:=by
 obtain⟨t,p,r⟩:=h
 refine⟨t,p,λFb Hb F H ρ σ E a q=>r Fb Hb F H ρ σ E a ?_⟩
 cases e:g ρ with
 | rt d=>exact absurd e (b ρ d)
 | nx _=>rw[e]at q;exact q
 | bk _=>rw[e]at q;exact q
 | ct _=>rw[e]at q;exact q
 | no=>rw[e]at q;exact q
def zhJ {f e:wN}{t:vx}{g:zz}(s:TD X c t)(l:zkV k X f g)(p:zkV k X e h):SDT k X (.If c f e pos) (sIf t g h):=by
 obtain⟨v,j,i⟩:=s
 obtain⟨u,r,o⟩:=l
 obtain⟨w,n,m⟩:=p
 refine⟨_,ziG j r n,λFb Hb F H ρ σ E b q=>?_⟩
 unfold sIf at q
 cases h:t (visG ρ) with
 | none=>rw[h]at q;exact q.elim
 | some d =>
  rw[h]at q
  refine i σ _ _ H d _ b.gh b.visG h λF' H' g=>?_
  have a:=b.grow (b.back g).1
  cases d with
  | true=>rw[t9 rfl];exact o Fb Hb _ H' ρ σ E a q
  | false=>rw[j5 u7];exact m Fb Hb _ H' ρ σ E a q
def zk9 {f:yB}{b:vW}{g:zz}(N:PassesOwn (model X.prog X.w) X.A X.env X.xe)(hc:X.calm=true)(G:ID X tg j f)(I:BD X tg b)(Z:zkV k X n g)(U:∀ x,foldedSetIterable j X.env x=pure x:=by intro _;rfl):SDT k X (.For tg j n [] pos) (W8 f b g):=by
 obtain⟨wi,pi,Y⟩:=G
 obtain⟨a0,pg,R⟩:=I
 obtain⟨tb,W,Q⟩:=Z
 refine⟨_,zaY N hc pi pg W U,λFb Hb F H ρ σ E r q=>?_⟩
 unfold W8 at q
 cases h:f (visF ρ) with
 | none=>rw[h]at q;exact q.elim
 | some a =>
  rw[h]at q
  refine Y σ _ _ H a _ r.gr.fh r.visF h λF1 H1 J O y=>?_
  have c:=r.grow O
  refine⟨λi m σ H=>m=a.length-i/\i<=a.length/\∃ F ρ,zN F1 F/\Rl Fb Hb F H ρ σ/\zqp k Fb Hb E (zdr b g (a.drop i) ρ),⟨a.length,by simp,p9 _,F1,ρ,zN.refl _,c,q⟩,?_⟩
  rintro i m σ H ⟨rfl,G,F,ρ,C,r,q⟩
  obtain⟨t,S⟩:=y i F H C r.gr.fh
  by_cases s:i<a.length
  .have M:a.drop i=a[i]::a.drop (i+1):=i7 s
   rw[M]at q
   unfold zdr at q
   obtain⟨T,P⟩:=S a[i] (by simp[s])
   refine .inr ⟨T,fun σ H=>∃ F ρ,zN F1 F/\Rl Fb Hb F H ρ σ/\zqp k Fb Hb E (zdr b g (a.drop (i+1)) ρ),fun σ' H' w=>⟨a.length-(i+1),by omega,rfl,s,w⟩,λx H' L=>?_⟩
   obtain⟨F3,B,V⟩:=P x H' L
   cases p:b a[i] ρ with
   | none=>rw[p]at q;exact q.elim
   | some z =>
    rw[p]at q
    dsimp only at q
    refine R Fb Hb F3 H' ρ z σ _ x _ (r.grow B) V p λK A=>?_
    have s3:=C.trans B.ff
    refine Q F1 (hb2 F1 Hb) F3 H' z K _ (A.dn c.gr.ff s3) ?_
    cases l:g z with
    | nx u=>rw[l]at q;exact λF4 H4 v o=>⟨F4,u,o.gr.ff,o.up c.gr,q⟩
    | ct u=>rw[l]at q;exact λF4 H4 v o=>⟨F4,u,o.gr.ff,o.up c.gr,q⟩
    | bk u=>rw[l]at q;exact λF4 H4 v o=>q F4 H4 v (o.up c.gr)
    | rt d=>rw[l]at q;exact zgD.up c.gr q
    | no=>rw[l]at q;exact q.elim
  .have e:i=a.length:=by omega
   subst e
   rw[u0N]at q
   exact .inl ⟨t rfl,q F H σ r⟩
def zcd (i:Nat)(f:zJ):zz:=fun ρ=>match ρ[i]?,f (visF ρ) with
 | some (.o ds),some y=>.rt (.tup [.lst ds,y])
 | _,_=>.no
def zf0 {a:zw}(h:a.length<=2):a.length<=sizeLine:=m4 (yR (n0 h (by decide)))
def VU {f:zJ}{x1}(ho:PE X a (xz i))(he:ED X e f)(hs:starEach [a,e] X.env=(false,eval a X.env)::starEach [e] X.env:=by rfl)(hs2:starEach [e] X.env=(false,eval e X.env)::starEach [] X.env:=by rfl):SDT false X (.Return (some (.Tuple [a,e] x1 pos')) pos) (zcd i f):=by
 obtain⟨t,p,r⟩:=he
 refine⟨_,Yz (zdL (zl ho (zl p zU hs2) hs)),λFb Hb F H ρ σ E j q=>?_⟩
 unfold zcd at q
 cases l:ρ[i]? with
 | none=>rw[l]at q;exact q.elim
 | some I =>
  rw[l]at q
  cases I with
  | no=>exact q.elim
  | v _=>exact q.elim
  | m _ _ _=>exact q.elim
  | k _ _ _=>exact q.elim
  | o z =>
   cases u:f (visF ρ) with
   | none=>rw[u]at q;exact q.elim
   | some y =>
    rw[u]at q
    obtain⟨B,L,A,C,M,N,O⟩:=j.owns i z l
    refine⟨_,A,?_⟩
    refine r σ _ _ H y _ j.gr.fh j.visF u λF' H' v g J=>⟨zf0 (t6 _),λx b=>?_⟩
    have c:=j.grow g
    obtain⟨K,n,d,_,w,h,s⟩:=c.owns i z l
    rw[A]at d
    cases d
    have G:B≠x:=ze h b
    exact q F' _ x B n v (c.gr.trans (Gr.hide g.fh b _)) C (c.notbase b) w (g.fh.free b) (by rw[zf G];exact h) zd s J
def zmc (a:yB)(f:zJ):zz:=fun ρ=>match a (visF ρ),f (visF ρ) with
 | some es,some y=>.rt (.tup [.lst es,y])
 | _,_=>.no
def ziO {f:zJ}{x1}(hl:FL X a j)(he:ED X e f)(hs:starEach [a,e] X.env=(false,eval a X.env)::starEach [e] X.env:=by rfl)(hs2:starEach [e] X.env=(false,eval e X.env)::starEach [] X.env:=by rfl):SDT false X (.Return (some (.Tuple [a,e] x1 pos')) pos) (zmc j f):=by
 obtain⟨t,p,r⟩:=he
 obtain⟨u,x,w⟩:=hl
 refine⟨_,Yz (zdL (zl x (zl p zU hs2) hs)),λFb Hb F H ρ σ E d q=>?_⟩
 unfold zmc at q
 cases i:j (visF ρ) with
 | none=>rw[i]at q;exact q.elim
 | some A =>
  rw[i]at q
  cases k:f (visF ρ) with
  | none=>rw[k]at q;exact q.elim
  | some y =>
   rw[k]at q
   refine w σ _ _ H A _ d.gr.fh d.visF i λF' H' n o g h0 G J B=>?_
   refine r σ _ F' H' y _ g.fh (d.visF.mono g.ff) k λF2 H2 v c I=>⟨zf0 (t6 _),λl b=>?_⟩
   obtain⟨C,m⟩:=c.kl (λ_ z=>by cases z) G J
   have s:n≠l:=ze m b
   have h:=(d.grow g).grow c
   exact q F2 _ l n o v (h.gr.trans (Gr.hide c.fh b _)) (d.notbase h0) (h.notbase b) C (c.fh.free b) (by rw[zf s];exact m) zd (B.mono c.ff) I
end
def zqH (k:Bool)(m:Nat)(p:xW):Sp:=λb H Q _=>∃ a d F,a.length=m/\zN F H/\AtL F a b/\p a=some d/\zgD k F H Q d
def znB {k:Bool}{w:World}{f:Addr}{N ps:zD}{g:zz}(Fu:Fun K x b l f y)(S:yz N ps (zk l))(C:∀ (c:Value) (A:zM) (outer:List Env) (s:zm) (H:Hp) (E:XK),yY n (A.deeper (PyProof.Rows.envOfC b (zk l) s.heap.objs.size f c))->zkV k (vi CX0 P w K v i N b (zk l) f c A outer s H E).nox (z7 l) g)(o:∀ ρ B,g ρ≠.nx B) :
 xu P w K v i CX0 (n+1) f y ps (zqH k ps.length (fnD N.length g)):=by
 refine Fu.ok S (λD H Q E h=>?_) λc A outer s H D Q E G h=>?_
 .obtain⟨m,d,F,u,_,a,_⟩:=h
  rw[a.length];exact u
 .obtain⟨m,d,F,u,z,a,e,q⟩:=h
  obtain⟨t,p,r⟩:=C c A outer s H E G
  refine⟨t,p,r F H F H _ _ _ (XU z a) ?_⟩
  unfold fnD at e
  cases j:g (m.map .v++List.replicate (N.length-m.length) .no) with
  | rt I=>rw[j]at e;cases e;exact q
  | nx ρ=>exact absurd j (o _ _)
  | bk ρ=>rw[j]at e;cases e
  | ct ρ=>rw[j]at e;cases e
  | no=>rw[j]at e;cases e
def zoC {k:Bool}{w:World}{f:Addr}{p:xW}(F:xu P w K e a CX0 n f c b (zqH k m p)):xu P w K e a CX0 n f c b (spD m p) :=
 F.imp λq H Q E ⟨o,d,F',j,i,h,g,l⟩=>⟨o,d,F',j,i,h,g,zgD.of l⟩
end Dl
namespace Dl
open PySem L2
variable [KK]
section
variable {X:Cx}{st1 st2 st3 st4:Stmt}{i j:Nat}
omit [KK] in
def zm2 {i:Nat}{f:yB}(ρ:SE)(d:D):Vg i f ρ≠.rt d:=by
 unfold Vg
 cases f (visF ρ) <;> (intro h;cases h)
omit [KK] in
def zlA {i:Nat}{f:zJ}(ρ:SE)(d:D):zaC m i f ρ≠.rt d:=by
 unfold zaC
 split <;> (intro h;cases h)
def NNx (g:zz):Prop:=∀ ρ a,g ρ≠.nx a
omit [KK] in
def zam {g:zz}(k:NNx h):NNx (zS g h):=fun ρ b e=>by
 unfold zS at e
 cases a:g ρ with
 | nx r=>rw[a]at e;exact k _ _ e
 | _=>rw[a]at e;cases e
omit [KK] in
def zil {i:Nat}{f:zJ}:NNx (zcd i f):=fun ρ a e=>by
 unfold zcd at e
 split at e <;> cases e
end
end Dl
namespace L2
open PySem PySem.Spec PyProof.Rows
section
variable {X:Cx}
def znG:V->zw->Hp->VK->Prop:=λx b H Q=>∃ l a y,x=.ref l/\b=[]/\H l=some (.lst (a++[y]))/\Q y (upd H l (.lst a))
def zg1 (r:yp (b++[y]) a):∃ f u,a=f++[u]/\yp b f/\yZ y u:=by
 have d:=r.take b.length
 have c:=r.drop b.length
 rw[List.take_left]at d
 rw[List.drop_left]at c
 obtain⟨u,e,g⟩:=c.one
 refine⟨a.take b.length,u,?_,d,g⟩
 have:=u1E b.length a
 rw[e]at this
 exact this.symm
def zmU:MtM X "list.pop" znG:=by
 intro b s σ H x t v w Q I g i h
 obtain⟨l,c,y,rfl,rfl,d,q⟩:=h
 cases g
 cases i
 obtain⟨z,m,n,r,p,e⟩:=I.lstM d
 obtain⟨a,u,rfl,f,k⟩:=zg1 r
 have o:c.length+1<=sizeLine:=by rw[j7]at z;exact z
 have j:a.length=c.length:=f.length.symm
 refine u0u F.slot_list_pop ⟨_,e,rfl⟩ F.entry_list_pop (F.args_list_pop_1 _) (PySem.MeetsSeq.list_pop_last l (a++[u]).toArray n u (by simp) (by rw[t7,j7,j];exact o)) ⟨e,?_⟩
 refine⟨y,_,I.lset (its':=a) d e (by simp[List.eraseIdx_append_of_length_le]) f (by omega),k,q⟩
end
end L2
namespace Dl
open PySem L2
section
variable [KK]{X:Cx}{a:Expr}{pos:Pos}
def AtL.unsnoc {a:zg}{d:D}(h:AtL F (a++[d]) b):∃ c y,b=c++[y]/\AtL F a c/\At F d y:=by
 have g:=h.take a.length
 have f:=h.drop a.length
 rw[List.take_left]at g
 rw[List.drop_left]at f
 obtain⟨y,r,e,j,i⟩:=f.cons_inv
 cases i.nil_inv
 refine⟨b.take a.length,y,?_,g,j⟩
 have:=u1E a.length b
 rw[e]at this
 exact this.symm
end
def b3:za7
 | .tup [x,y,z]=>some [some x,some y,some z]
 | _=>none
end Dl
namespace Dl
open PySem L2
variable [KK]
def edv {X:Cx} (i:Nat) (c:X.N[i]?=some x:=by rfl) (d:Vis X.env.scope x:=by first | exact Or.inl rfl | exact Or.inr (Or.inl rfl) | exact Or.inr (Or.inr rfl)) (e:(x == ("__debug__":Str))=false:=by decide) (b:(x == ("__classdict__":Str))=false:=by decide):ED X (.Name x a) (zc i):=zoZ i (pv i c d e b)
def zA {X:Cx} {k:Nat} {f:Addr} {p:xW} (F:xu X.prog X.w X.K X.mg X.base CX0 j f i h (spD m p)) (s:yY k X.A) (n:Gl X x) (d:Def X.K X.mg x r h f i) (q:AD X (e::b) l) (t:j<=k:=by decide) (c:(x == ("__debug__":Str))=false:=by decide) (u:starEach (e::b) X.env=(false,eval e X.env)::starEach b X.env:=by rfl) (g:(backTo a (starEach b X.env)).any (·.1)=false:=by rfl) :
 ED X (.Call (.Name x o) (e::b) [] a) (zq m p l):=zlW (F.mono t) s n d.at_ d.kp d.bd q c u g
end Dl
namespace L2
open PySem PySem.Spec PyProof.Rows
def zgA:∀ {b:zD} {a:zx},yp (b.map V.str) a->∃ l:List (Str × Tok),a=strValues l/\l.map (·.1)=b:=by
 intro b
 induction b with
 | nil=>intro a h;cases h;exact⟨[],rfl,rfl⟩
 | cons x b c =>
  intro a h
  cases h with
  | cons r t =>
   obtain⟨u,rfl⟩:=r
   obtain⟨l,rfl,e⟩:=c t
   exact⟨(x,u)::l,rfl,by rw[o7,e]⟩
def zfy (l:List (Str × Tok)):yp ((l.map (·.1)).map V.str) (strValues l):=by
 induction l with
 | nil=>exact .nil
 | cons p l a=>exact .cons ⟨p.2,rfl⟩ a
section
variable {X:Cx}
def znJ (K:zu):V->zw->Hp->VK->Prop:=λx c H Q=>∃ a p b,x=.str a/\c=[.ref p]/\SqL K H p (b.map V.str)/\JoinOk a b=true/\Q (.str (Txt.join a b)) H
def zgy:MtM X "str.join" (znJ X.K):=by
 intro b s σ H x n v o Q I c e h
 obtain⟨g,p,m,rfl,rfl,f,a,q⟩:=h
 obtain⟨t,rfl⟩:=c
 obtain⟨u,rfl,i⟩:=e.one
 cases i
 obtain⟨j,r,pl,y⟩:=I.list f
 obtain⟨l,rfl,d⟩:=zgA r
 exact SC.join (D:=p) pl.isList d a λw k=>⟨.str _,H,I.tok _,⟨_,rfl⟩,q⟩
def zfA {w:World} {s:zm} {a b:Str} {f:Tok} {Q:yT} (i:(b.length == 0)=false) (j:a.length+2<=sizeLine) (q:∀ (l:List (Str × Tok)) (k:Nat),l.map (·.1)=Txt.split a b->Q (.ref s.heap.objs.size) { s with heap:=s.heap.push { cls:=.type "list",data:=.seq (strValues l).toArray },toks:=k }) :
 wpAny (model e w) A (call (.builtin "str.split") [.str a c,.str b f]) Q E s:=by
 have h:(Builtin.Str.partsBetween a (Builtin.Str.occurrences a b 0 a.length (a.length+1)) b.length).length<=sizeLine:=by
  have z:=StrLaws.occ_length_le a b 0 a.length (a.length+1)
  rw[length_partsBetween]
  omega
 cases d:(decide (a.length<b.length)||decide (Builtin.Str.strKind a<Builtin.Str.strKind b)) with
 | true=>exact u0u F.slot_str_split (u2w s a c) u2s (u2c _ _) (meets_str_split_cannot_occur a b c f d) (q [(a,c)] s.toks (by unfold Txt.split;rw[t9 d];rfl))
 | false =>
  cases g:(Builtin.Str.occurrences a b 0 a.length (a.length+1)).isEmpty with
  | true=>exact u0u F.slot_str_split (u2w s a c) u2s (u2c _ _) (meets_str_split_not_found a b c f d i g) (q [(a,c)] s.toks (by unfold Txt.split;rw[j5 (by rw[d];decide),t9 g];rfl))
  | false =>
   refine u0u F.slot_str_split (u2w s a c) u2s (u2c _ _) (meets_str_split_sep a b c f d i g (by omega) h) ?_
   have z:=q (numbered s.toks (Builtin.Str.partsBetween a (Builtin.Str.occurrences a b 0 a.length (a.length+1)) b.length))
   rw[<-strsFrom_eq]at z
   exact z _ (by rw[numbered_texts];unfold Txt.split;rw[j5 (by rw[d];decide),j5 (by rw[g];decide)])
def zkD:V->zw->Hp->VK->Prop:=λx c H Q=>∃ a b,x=.str a/\c=[.str b]/\(b.length == 0)=false/\a.length+2<=sizeLine/\(Txt.split a b).length<=sizeLine/\∀ l,H l=none->Q (.ref l) (upd H l (.lst ((Txt.split a b).map V.str)))
def zc9:MtM X "str.split" zkD:=by
 intro c s σ H x m v n Q I d j h
 obtain⟨a,b,rfl,rfl,g,f,i,q⟩:=h
 obtain⟨t,rfl⟩:=d
 obtain⟨u,rfl,o,rfl⟩:=j.one
 refine zfA g f λl k e=>?_
 refine⟨.ref _,_,I.lnew (ys:=(Txt.split a b).map V.str) (its:=strValues l) (by rw[<-e];exact zfy l) (by rw[t4];exact i),rfl,q _ I.fresh⟩
def zbP:Yh X (.type "int") (λc H Q=>∃ a n,c=[.str a]/\a.length<=640/\intText? a=some n/\Q (.int n) H):=by
 intro b s σ H c f Q I r h
 obtain⟨a,n,rfl,d,e,q⟩:=h
 obtain⟨u,rfl,t,rfl⟩:=Ve r
 exact call_int_1 (PySem.W.KIN.gives_text d e).meets (show(Made.int n).post _ s from⟨rfl,.int n,H,I.tok _,⟨_,rfl⟩,q⟩)
def Its (a:Str):It:=⟨λi _=>i<a.cps.size,λi H x H'=>H'=H/\∃ c,a.cps[i]?=some c/\x=.str ⟨#[c]⟩,λi _=>a.cps.size<=i⟩
def zj6 {P:zO} {w:World} {K:zu} {tg:Expr} (a:Str) (t:Tok) (it:Addr):zm3 P w K tg (Its a) [it] it (λi h=>h.IsStrIter it "str_ascii_iterator" a t i) where
 mem:=t8.mpr rfl
 obj:=λi h st b hb=>by
  obtain rfl:=t8.mp hb
  obtain⟨o,e,_,d⟩:=st
  exact⟨o,e,λv z=>by rw[d]at z;cases z⟩
 keep:=λi h h' st k=>by
  obtain⟨o,e,r⟩:=st
  exact⟨o,k it (t8.mpr rfl) o e,r⟩
 item:=by
  intro X hP hw hK hc i pins s σ H E I hf st hg
  subst hP hw hK
  have hg:i<a.cps.size:=hg
  obtain⟨f0,f1,f2,f3,f4,f5⟩:=hf it (t8.mpr rfl)
  refine wpAny_pyNext_ascii_item st (c:=a.cps[i]) (u0F hg) λh' st' sb=>?_
  have I1:Inv X pins σ H { s with heap:=h',toks:=s.toks+1 }:=I.turned (t':=s.toks+1) (λb o hb e=>(sb.2 b hb).trans e) f0 f1 f3 f4 f5
  obtain⟨o,e,c,d⟩:=id st'
  exact⟨_,rfl,zjf (s:={ s with heap:=h',toks:=s.toks+1 }) e c d (by decide) ⟨.str ⟨#[a.cps[i]]⟩,H,I1,⟨_,rfl⟩,⟨rfl,_,u0F hg,rfl⟩,st',λb hb=>(hf b hb).1⟩⟩
 done:=by
  intro X hP hw hK hc i pins s σ H E I hf st hg
  subst hP hw hK
  have hg:a.cps.size<=i:=hg
  obtain⟨f0,f1,f2,f3,f4,f5⟩:=hf it (t8.mpr rfl)
  exact wpAny_pyNext_ascii_end (I.ok.hd hc) st (Array.getElem?_eq_none hg) λh' eb=>⟨rfl,I.turned (t':=s.toks) (λb o hb e=>eb b o hb e) f0 f1 f3 f4 f5⟩
 self:=λ_ _ _ _ _ st h=>wpAny_pyIter_striter_ascii st h
def iTxt (t:TE):TI:=fun σ H R=>t σ H λx H1=>∃ a,x=.str a/\a.cps.all (· < 128)=true/\R (Its a) H1
def znR {f:Expr}{t:TE}(h:PE X e t):PI X f e (iTxt t):=by
 intro c s σ H R I q
 refine thn (h c s σ H _ I q) λv d hh9=>?_
 obtain⟨x,H1,I1,j,k⟩:=hh9
 obtain⟨a,rfl,i,q⟩:=k
 obtain⟨u,rfl⟩:=j
 refine wpAny_pyIter_ascii i ?_
 refine⟨_,[d.heap.objs.size],_,Its a,H1,rfl,I1.kept (t':=d.toks) (λb o e=>u8 _ e),zj6 a u _,⟨_,k9 _ rfl,rfl,rfl⟩,λb g=>?_,q⟩
 rw[t8.mp g]
 exact I1.fpOk (t6 _) (I1.hok.fresh (t6 _))
end
end L2
namespace Dl
open PySem L2 PySem.Spec PyProof.Rows
variable [KK]
section
variable {X:Cx}{tg a b e:Expr}{pos:Pos}
def Wd:zg->Option zD
 | []=>some []
 | .str x::ds=>(Wd ds).map (x::·)
 | _=>none
omit [KK] in
def VA (a:zD):Wd (a.map .str)=some a:=by
 induction a with
 | nil=>rfl
 | cons x a b=>show(Wd (a.map .str)).map (x::·)=_;rw[b];rfl
def AtL.strs:∀ {a:zg} {c:zD} {b:zw},Wd a=some c->AtL F a b->b=c.map V.str:=by
 intro a
 induction a with
 | nil=>intro c b h f;cases h;exact f.nil_inv
 | cons d a i =>
  intro c b h f
  cases d with
  | str x =>
   obtain⟨l,e,rfl⟩:=u9.mp h
   obtain⟨y,r,rfl,j,g⟩:=f.cons_inv
   rw[i e g,j.str_inv]
   rfl
  | _=>cases h
def AtL.ofStrs (a:zD):AtL F (a.map D.str) (a.map V.str):=by
 induction a with
 | nil=>exact .nil
 | cons x a b=>exact .cons .str b
def zee (c d:D):Option D:=match c,d with
 | .str s,.lst ds=>(Wd ds).bind λa=>if JoinOk s a=true then some (.str (Txt.join s a))else none
 | _,_=>none
def zgI {p:Pos}{f:zJ}{g:yB}(w:ED X a f)(O:AD X [e] g)
 (u:∀ {i:TE} {t:TA},PE X a i->PA X [e] t->PE X (.Call (.Attribute a "join" p) [e] [] pos) (tBM X.K "str" (znJ X.K) i t)):ED X (.Call (.Attribute a "join" p) [e] [] pos) (zf4 zee f g):=by
 obtain⟨i,L,K⟩:=w
 obtain⟨t,x,E⟩:=O
 refine⟨_,u L x,fun σ ρ F H z Q s o h0 q=>?_⟩
 obtain⟨c,M,n⟩:=u4.mp h0
 obtain⟨V,B,h⟩:=u4.mp n
 clear h0 n
 split at h
 .rename_i d
  unfold zee at h
  split at h
  .rename_i k T
   obtain⟨I,N,h⟩:=u4.mp h
   split at h <;> cases h
   rename_i j
   refine K σ ρ F H _ _ s o M λF1 H1 v b r=>?_
   cases r.str_inv
   refine⟨rfl,?_⟩
   refine E σ ρ F1 H1 _ _ b.fh (o.mono b.ff) B λF2 H2 U m C=>?_
   obtain⟨y,R,rfl,A,G⟩:=C.cons_inv
   cases G.nil_inv
   obtain⟨l,S,rfl,J,P⟩:=A.lst_inv
   have:=P.strs N
   subst this
   exact⟨k,l,I,rfl,rfl,SqL.of (m.fh _ _ J),j,q F2 H2 _ (b.trans m) .str⟩
  .cases h
 .cases h
def zdn (c d:D):Option zg:=match c,d with
 | .str x,.str y=>if (y.length == 0)=false/\x.length<=100000/\(Txt.split x y).length<=100000 then some ((Txt.split x y).map .str)else none
 | _,_=>none
def zmL (m:D->D->Option zg)(f:zJ)(g:yB):yB:=fun ρ=>(f ρ).bind λc=>(g ρ).bind λa=>match a with
 | [d]=>m c d
 | _=>none
def zcX {p:Pos}{f:zJ}{g:yB}(A:ED X a f)(N:AD X [e] g)
 (w:∀ {k:TE} {t:TA},PE X a k->PA X [e] t->PE X (.Call (.Attribute a "split" p) [e] [] pos) (tBM X.K "str" zkD k t)):FL X (.Call (.Attribute a "split" p) [e] [] pos) (zmL zdn f g):=by
 obtain⟨k,L,K⟩:=A
 obtain⟨t,B,I⟩:=N
 refine⟨_,w L B,fun σ ρ F H z Q s o h0 q=>?_⟩
 obtain⟨c,M,n⟩:=u4.mp h0
 obtain⟨T,E,h⟩:=u4.mp n
 clear h0 n
 split at h
 .rename_i d
  unfold zdn at h
  split at h
  .rename_i x y
   split at h <;> cases h
   rename_i C
   refine K σ ρ F H _ _ s o M λF1 H1 v j r=>?_
   cases r.str_inv
   refine⟨rfl,?_⟩
   refine I σ ρ F1 H1 _ _ j.fh (o.mono j.ff) E λF2 H2 S m G=>?_
   obtain⟨u,P,rfl,O,J⟩:=G.cons_inv
   cases J.nil_inv
   cases O.str_inv
   have R:100002<=sizeLine:=by rw[u0G];decide
   have b:=j.trans m
   exact⟨x,y,rfl,rfl,C.1,by omega,by omega,λl i=>q _ _ _ _ (b.trans (Gr.hide m.fh i _)) (zb2 b i) (m.fh.free i) zd (AtL.ofStrs _)⟩
  .cases h
 .cases h
def zkJ:xW
 | [.int i]=>if 0<=i/\i<1000000 then some (.str (Str.ofString (toString i)))else none
 | _=>none
def zcr:CaD (λd H Q=>∃ i,d=[.int i]/\i.natAbs.log2<1920/\Q (.str (toString i)) H) zkJ:=by
 intro F H j l z Q s g h q
 unfold zkJ at h
 split at h
 .rename_i i
  split at h <;> cases h
  rename_i k
  obtain⟨x,r,rfl,b,a⟩:=g.cons_inv
  cases a.nil_inv
  refine⟨i,by rw[b.int_inv],?_,q F H _ (.refl s) .str⟩
  by_cases c:i.natAbs=0
  .rw[c];decide
  .have e:(2:Nat)^20=1048576:=by decide
   have f:i.natAbs<2^20:=by rw[e];omega
   exact(Nat.log2_lt c).mpr (q7 f (Nat.pow_le_pow_right (by decide) (by decide)))
 .cases h
def zmC:xW
 | [.str x]=>if x.length<=640 then (intText? x).map .int else none
 | _=>none
def zjr:CaD (λf H Q=>∃ a n,f=[.str a]/\a.length<=640/\intText? a=some n/\Q (.int n) H) zmC:=by
 intro F H i j z Q s g h q
 unfold zmC at h
 split at h
 .rename_i x
  split at h
  .rename_i c
   obtain⟨n,d,rfl⟩:=u9.mp h
   obtain⟨y,r,rfl,e,b⟩:=g.cons_inv
   cases b.nil_inv
   exact⟨x,n,by rw[e.str_inv],c,d,q F H _ (.refl s) .int⟩
  .cases h
 .cases h
def ziU:xW
 | [.str x]=>if x.length<=100000 then some (.int (x.length:Int))else none
 | _=>none
def zdO:CaD (λc H Q=>∃ z,c=[.str z]/\z.length<=sizeLine/\Q (.int z.length) H) ziU:=by
 intro F H g i z Q s d h q
 unfold ziU at h
 split at h
 .rename_i x
  split at h <;> cases h
  rename_i f
  obtain⟨y,r,rfl,b,a⟩:=d.cons_inv
  cases a.nil_inv
  have e:100002<=sizeLine:=by rw[u0G];decide
  exact⟨x,by rw[b.str_inv],by omega,q F H _ (.refl s) .int⟩
 .cases h
def zpO:xE
 | .str x,.int i=>if x.length<=100000 then (L2.atI x.cps.toList i).map λc=>.str ⟨#[c]⟩else none
 | _,_=>none
def zln:OpD zpY zpO:=by
 intro F H x y d e z Q s f b a q
 unfold zpO at a
 split at a
 .rename_i w i
  split at a
  .rename_i j
   obtain⟨c,g,rfl⟩:=u9.mp a
   have h:100002<=sizeLine:=by rw[u0G];decide
   exact⟨w,i,c,f.str_inv,b.int_inv,by omega,g,q F H _ (.refl s) .str⟩
  .cases a
 .cases a
def zpz {f:zJ}(e:ED X a f)(d:ED X b h)(c:Y9 b):ED X (.Subscript a b pos) (zn zpO f h) :=
 let ⟨_,pa,ra⟩:=e
 let ⟨_,pb,rb⟩:=d
 ⟨_,zbR zkx pa pb c,zfj zln ra rb⟩
def zqS:xE
 | .str x,.str y=>some (.bl (!(Builtin.Str.occurrences y x 0 y.length 1).isEmpty))
 | _,_=>none
def zlX:OpD (λx y H Q=>∃ i j,x=.str i/\y=.str j/\Q (.bl (!(Builtin.Str.occurrences j i 0 j.length 1).isEmpty)) H) zqS:=by
 intro F H x y d e z Q s c b a q
 unfold zqS at a
 split at a <;> cases a
 exact⟨_,_,c.str_inv,b.str_inv,q F H _ (.refl s) .bl⟩
def zoy:D->Option zg
 | .str x=>if x.cps.all (· < 128)=true then some (x.cps.toList.map λc=>.str ⟨#[c]⟩)else none
 | _=>none
def iTx (f:zJ):yB:=fun ρ=>(f ρ).bind zoy
def znX {f:zJ}(o:ED X a f):ID X tg a (iTx f):=by
 obtain⟨t,p,r⟩:=o
 refine⟨_,znR p,fun σ ρ F H G R s B e q=>?_⟩
 obtain⟨d,C,g⟩:=u4.mp e
 refine r σ ρ F H d _ s B C λF1 H1 v u m=>?_
 unfold zoy at g
 split at g
 .rename_i x
  split at g <;> cases g
  rename_i z
  refine⟨x,m.str_inv,z,q F1 H1 _ u λi F2 H2 E A=>⟨λl=>?_,λd k=>?_⟩⟩
  .show x.cps.size<=i
   rw[t4,i1]at l
   omega
  .rw[r8]at k
   obtain⟨c,h,rfl⟩:=u9.mp k
   have j:i<x.cps.size:=by have:=(j3.mp h).1;rwa[i1]at this
   refine⟨j,λy H3 n=>?_⟩
   obtain⟨rfl,w,b,rfl⟩:=n
   have:w=c:=by
    rw[u1C]at h
    rw[h]at b
    exact(g4 b).symm
   subst this
   exact⟨F2,.refl A,.str⟩
 .cases g
end
end Dl
namespace Mz
open PySem Dl
abbrev Tie:=Int × Int
abbrev yl:=List Tie
def ltP (s t:Tie):Prop:=s.1<t.1\/(s.1=t.1/\s.2<t.2)
instance (s t:Tie):Decidable (ltP s t):=by unfold ltP;infer_instance
def zhr (h:ltP a b)(k:ltP b c):ltP a c:=by
 unfold ltP at *
 omega
def zi (t:Tie):D:=.tup [.int t.1,.int t.2]
def zhl {t:Tie}(h:zi s=zi t):s=t:=by
 unfold zi at h
 injection h with h
 injection h with h1 h2
 injection h2 with h2 _
 injection h1 with h1
 injection h2 with h2
 exact u2B h1 h2
def zT (b:Int)(a:yl):D:=.tup [.int b,.tup (a.map zi)]
structure wr (many:Int) (ties:yl):Prop where
 lo:1<=many
 hi:many<=8
 rng:∀ t∈ties,0<=t.1/\t.1<t.2/\t.2<many
 srt:ties.Pairwise ltP
def leP (s t:Tie):Bool:=if s.1=t.1 then (if s.2=t.2 then true else decide (s.2<=t.2))else decide (s.1<=t.1)
def zbN {t:Tie}:leP s t=false↔ltP t s:=by
 unfold leP ltP
 by_cases h:s.1=t.1
 .rw[t9 h]
  by_cases k:s.2=t.2
  .rw[t9 k];simp;omega
  .rw[j5 k,p6];omega
 .rw[j5 h,p6];omega
def Y0:D->Option Tie
 | .tup [.int a,.int b]=>some (a,b)
 | _=>none
def Yl (t:Tie):Y0 (zi t)=some t:=rfl
def WF {d:D}{t:Tie}(h:Y0 d=some t):d=zi t:=by
 unfold Y0 at h
 split at h
 .cases h;rfl
 .cases h
def inR (m a:Int):Bool:=decide (0<=a)&&decide (a<=m-1)
def wz (m:Int)(d:D):Bool:=match Y0 d with
 | some t=>inR m t.1&&inR m t.2&&!decide (t.1=t.2)
 | none=>false
def zbE (p:Option Tie)(t:Tie):Bool:=match p with
 | some q=>!leP t q
 | none=>true
def yO (m:Int):Option Tie->zg->Bool
 | _,[]=>true
 | p,d::r=>match Y0 d with
  | some t=>wz m d&&!decide (t.2<t.1)&&zbE p t&&yO m (some t) r
  | none=>false
def YN (m:Int):D->Bool
 | .tup a=>yO m none a
 | _=>false
def Yd:D->Bool
 | .tup [.int m,t]=>decide (1<=m)&&decide (m<=8)&&YN m t
 | _=>false
def Xa (m:Int):∀ (f:zg) (p:Option Tie),yO m p f=true↔∃ l:yl,f=l.map zi/\(∀ t∈l,0<=t.1/\t.1<t.2/\t.2<m)/\(∀ q,p=some q->∀ t∈l,ltP q t)/\l.Pairwise ltP:=by
 intro f
 induction f with
 | nil =>
  intro p
  refine⟨λ_=>⟨[],rfl,by simp,by simp,.nil⟩,λ_=>rfl⟩
 | cons d r y =>
  intro p
  unfold yO
  cases e:Y0 d with
  | none =>
   refine Iff.intro (λh=>nomatch h) (λw=>?_)
   obtain⟨l,h,_⟩:=w
   cases l with
   | nil=>cases h
   | cons t o =>
    rw[o7]at h
    injection h with j _
    rw[j,Yl]at e
    cases e
  | some t =>
   have x:=WF e
   subst x
   simp only[wz,Yl,j6,u0W,p6,inR,k7]
   rw[y (some t)]
   constructor
   .rintro⟨⟨⟨⟨⟨j,s⟩,C⟩,A⟩,z⟩,l,rfl,g,i,c⟩
    refine⟨t::l,rfl,?_,?_,u0n.mpr ⟨i t rfl,c⟩⟩
    .intro u a
     rcases j9.mp a with rfl | a
     .omega
     .exact g u a
    .rintro q rfl u a
     have b:ltP q t:=zbN.mp (by simpa [zbE]using z)
     rcases j9.mp a with rfl | a
     .exact b
     .exact zhr b (i t rfl u a)
   .rintro⟨l,h,g,i,c⟩
    cases l with
    | nil=>cases h
    | cons u o =>
     rw[o7]at h
     injection h with j s
     have a:=zhl j
     subst a
     have B:=g t (by simp)
     refine⟨⟨⟨⟨⟨by omega,by omega⟩,by omega⟩,by omega⟩,?_⟩,o,s,λv n=>g v (by simp[n]),λq k v n=>?_,(u0n.mp c).2⟩
     .cases p with
      | none=>rfl
      | some q =>
       have:=zbN.mpr (i q rfl t (by simp))
       simp[zbE,this]
     .cases k
      exact(u0n.mp c).1 v n
def vM (d:D):Yd d=true↔∃ m a,d=zT m a/\wr m a:=by
 constructor
 .intro h
  unfold Yd at h
  split at h
  .rename_i m t
   simp only[j6,k7]at h
   obtain⟨⟨i,e⟩,b⟩:=h
   unfold YN at b
   split at b
   .rename_i g
    obtain⟨l,rfl,f,_,c⟩:=(Xa m g none).mp b
    exact⟨m,l,rfl,i,e,f,c⟩
   .cases b
  .cases h
 .rintro⟨m,a,rfl,w⟩
  unfold zT Yd YN
  simp only[j6,k7]
  exact⟨⟨w.lo,w.hi⟩,(Xa m _ none).mpr ⟨a,rfl,w.rng,by simp,w.srt⟩⟩
def zll {d:D}(h:∀ m a,d=zT m a->¬ wr m a):Yd d=false:=by
 cases e:Yd d with
 | false=>rfl
 | true =>
  obtain⟨m,a,rfl,w⟩:=(vM d).mp e
  exact absurd w (h m a rfl)
end Mz
namespace Mz
open Dl
def zqx (c k:Int):Int :=
 let a:=(c%2147483647+977*k+1)*48271%2147483647
 let b:=a*a%2147483629
 (b+40692*(k+3))*69621%2147483647/8
def adj (c:yl)(a b:Int):Prop:=(a,b)∈c\/(b,a)∈c
inductive zim (ts:yl) (p:Int):Nat->Int->Prop
 | zero:zim ts p 0 p
 | step {k:Nat} {a b:Int}:zim ts p k a->adj ts a b->zim ts p (k+1) b
def zqJ {P:Nat->Prop}:∀ k,P k->∃ j,P j/\∀ i,P i->j<=i:=by
 intro k
 induction k using Nat.strongRecOn with
 | _ k d =>
  intro h
  by_cases c:∃ i,i<k/\P i
  .obtain⟨i,a,b⟩:=c
   exact d i a b
  .exact⟨k,h,λi a=>u0B λz=>c ⟨i,z,a⟩⟩
def Within (a:yl)(p:Int)(k:Nat)(v:Int):Prop:=∃ j,j<=k/\zim a p j v
def zke {n:Nat}{i:Int}(h0:0<=i)(a:i<n):L2.ixN n i=some i.toNat:=by
 unfold L2.ixN
 rw[t9 h0,t9 a]
def znW {α:Type}{a:List α}{i:Int}{x:α}(h0:0<=i)(h:a[i.toNat]?=some x):L2.atI a i=some x:=by
 have:=(j3.mp h).1
 unfold L2.atI
 rw[zke h0 (by omega)]
 exact h
def zoq {i:Nat}{b:zJ}{ρ:SE}{a:zg}{d:D}{k:Int}(g:vEv m c ρ=some d)(e:b (visG ρ)=some (.int k))(f:ρ[i]?=some (.o a))(l:0<=k)(n:k<a.length) :
 Vk m i b c ρ=.nx (ρ.set i (.o (a.set k.toNat d))):=by
 unfold Vk
 rw[g,e,f]
 show(match ((L2.ixN a.length k).map λj=>ρ.set i (Sl.o (a.set j d)))with | some h=>Ctl.nx h | none=>Ctl.no)=_
 rw[zke l n]
 rfl
def zhL:∀ {ns:zy} {k:Nat} {x:Int} (h:k<ns.length),(ns.set k x).sum=ns.sum-ns[k]+x
 | [],_,_,h=>by simp at h
 | n::ns,0,x,_=>by simp;omega
 | n::ns,k+1,x,h=>by
  have:=zhL (ns:=ns) (k:=k) (x:=x) (by simpa using h)
  simp only[List.set_cons_succ,List.sum_cons,List.getElem_cons_succ,this]
  omega
def ZT (a:yl):(zfR a).Perm a:=List.mergeSort_perm _ _
def zbn {d:yl}(h:d.Nodup):(zfR d).Pairwise ltP:=by
 have g:(zfR d).Pairwise λa b=>zoK a b=true:=List.pairwise_mergeSort (λa b c g f=>by rw[XR]at *;omega) (λa b=>by rw[u1g,XR,XR];omega) _
 have f:(zfR d).Nodup:=(ZT d).nodup_iff.mpr h
 refine(g.and f).imp λ{a b} hh=>?_
 obtain⟨x,y⟩:=hh
 rw[XR]at x
 unfold ltP
 rcases x with x | x
 .exact .inl x
 .refine .inr ⟨x.1,?_⟩
  have:a.2≠b.2:=λe=>y (u2B x.1 e)
  omega
def zpg {i:Nat}{c:zJ}{ρ:SE}{n:W6}(a:zg)(d:D)(k:Int)(l:vEv m e ρ=some d)(j:c (visG ρ)=some (.int k))(g:ρ[i]?=some (.o a))(f:0<=k)(o:k<a.length)(q:n (ρ.set i (.o (a.set k.toNat d)))) :
 (Vk m i c e ρ).w n b h r:=zhV (zoq l j g f o) q
def zh9 {α:Type}(a:List α)(b c:yx):(X7 a b c).length<=a.length:=by
 unfold X7
 rw[u0q,u05]
 omega
def Zk {a b:zg}(h:a.length+b.length<=1000):wt (.lst a) (.lst b)=some (.lst (a++b)):=by
 show(if lim (a.length+b.length)=true then _ else none)=_
 rw[t9 (Z3 h)]
def zkA:∀ {ns:zy},(∀ x∈ns,0<=x)->0<=ns.sum
 | [],_=>by simp
 | n::ns,h=>by
  have:=zkA (ns:=ns) λx a=>h x (r9 _ a)
  have:=h n g3
  rw[List.sum_cons]
  omega
def W4 {f:zJ}{ρ:SE}{d:D}(h:vEv m f ρ=some d)(a:ρ.set i (.v d)=ρ':=by rfl):xN m i f ρ=.nx ρ':=by
 unfold xN
 rw[h,<- a]
def y6 {f:zJ}{d:D}(h:f (visG ρ)=some d):vR f ρ=.nx ρ:=by
 unfold vR
 rw[h]
def yJ {f:zJ}{d:D}(h:f (visG ρ)=some d):yW f ρ=.rt d:=by
 unfold yW
 rw[h]
def wF:neD (.int a) (.int b)=some (.bl (!decide (a=b))):=rfl
def zdw {a m x:Int}(h:0<m)(b:a%m=x):0<=x/\x<m:=by
 subst b
 exact⟨u1V _ (by omega),u1h _ h⟩
def xk:wP (.int a) (.int b)=some (.bl (decide (a=b))):=rfl
def wD:wP (.bl a) (.bl b)=some (.bl (decide (a=b))):=rfl
def yC:wP (.str a) (.str b)=some (.bl (decide (a=b))):=rfl
def xx:wt (.int a) (.int b)=some (.int (a+b)):=rfl
def zdo {a b:zg}(h:a.length+b.length<=1000):wt (.tup a) (.tup b)=some (.tup (a++b)):=by
 show(if lim (a.length+b.length)=true then some (D.tup (a++b))else none)=_
 rw[t9 (Z3 h)]
def zhh {α:Type}(a:List α)(k:Nat):X7 a none (some (k:Int))=a.take k:=by
 unfold X7
 rw[HT.sIx_none,List.drop_zero,Nat.sub_zero,HT.sIx_nat]
 by_cases h:k<=a.length
 .rw[u1k h]
 .rw[u2G (by omega),u1r (t6 _),u1r (by omega)]
def zfn {α:Type}(a:List α)(k:Nat):X7 a (some (k:Int)) none=a.drop k:=by
 unfold X7
 rw[HT.sIx_none,HT.sIx_nat]
 by_cases h:k<=a.length
 .rw[u1k h,u1r (by rw[u05];omega)]
 .rw[u2G (by omega),Nat.sub_self,List.take_zero,List.drop_of_length_le (by omega)]
section
variable {ρ:Ev}{f g h:zJ}{a:yB}{t u:vx}{d e x y z:D}{ds es:zg}{b c:Bool}
def zX:zo ρ=some []:=rfl
def zj (c:f ρ=some d)(b:a ρ=some ds):za f a ρ=some (d::ds):=by unfold za;rw[c,b];rfl
def zv {n:Nat}{p:xW}(c:a ρ=some ds)(b:p ds=some d)(e:ds.length=n:=by rfl):zq n p a ρ=some d:=by
 unfold zq
 rw[c,k6,t9 e,b]
def zfb {n:Nat}{p:xW}{σ b:SE}(g:a (visF σ)=some ds)(c:p ds=some d)(f:ds.length=n:=by rfl)(e:σ.set i (.v d)=b:=by rfl):xN false i (zq n p a) σ=.nx b:=W4 (show zq n p a (visF σ)=some d from zv g c f) e
def vQ {f:zJ}{σ:SE}(h:f (visF σ)=some d)(a:σ.set i (.v d)=σ':=by rfl):xN false i f σ=.nx σ':=W4 (show f (visF σ)=some d from h) a
def zH {k:xE}(b:f ρ=some x)(c:g ρ=some y)(a:k x y=some z):zn k f g ρ=some z:=by unfold zn;rw[b,c];exact a
def zas {k:D->Option D}(b:f ρ=some x)(a:k x=some z):eUn k f ρ=some z:=by unfold eUn;rw[b];exact a
def Y1 (b:a ρ=some ds):xO a ρ=some (.lst ds):=by unfold xO;rw[b];rfl
def zdZ {k:xW}(b:a ρ=some ds)(c:k ds=some d):eFn k a ρ=some d:=by unfold eFn;rw[b];exact c
def zkk {k:zi9}(b:a ρ=some ds)(c:k ds=some es):fFn k a ρ=some es:=by unfold fFn;rw[b];exact c
def Wm (c:a ρ=some ds)(b:ds.length<=1000):yy a ρ=some ds:=by unfold yy;rw[c,k6,t9 (Z3 b)]
def Yr (c:a ρ=some ds)(b:ds.length<=1000):vl a ρ=some (.tup ds):=by unfold vl;rw[c,k6,t9 (Z3 b)]
def zcZ (b:f ρ=some d)(a:vj d=some ds):iOf f ρ=some ds:=by unfold iOf;rw[b];exact a
def zpt (d:f ρ=some (.bl b))(a:g ρ=some (.bl c)):ZK f g ρ=some (.bl (b&&c)):=by unfold ZK;rw[d,a];cases b <;> rfl
def y8 (a:f ρ=some (.bl b)):tOf f ρ=some b:=by unfold tOf;rw[a];rfl
def wl (a:t ρ=some b):yq t ρ=some (!b):=by unfold yq;rw[a];rfl
end
end Mz
namespace PySem
open Sem (wp)
def Runs.toks {p:Pos}{t:Sem Fin}{d:List Frame}{s c:zm}(h:Runs M Γ p t d s e c):s.toks<=c.toks:=by
 induction h with
 | done=>exact t6 _
 | raise=>exact t6 _
 | yield=>exact t6 _
 | fresh _ f=>exact n0 (u1w _) f
 | call _ _ a b=>exact n0 a b
 | resumeFresh _ _ _ _ a b=>exact n0 a b
 | resumeSuspended _ _ _ _ a b=>exact n0 a b
 | segRet _ _ a b=>exact n0 a b
 | segGen _ _ a b=>exact n0 a b
 | segSuspGen _ _ _ _ a b=>exact n0 a b
 | _=>assumption
def Wakes.toks {p:Pos}{g:Nat}{s b:zm}(h:Wakes M Γ p g r s res b):s.toks<=b.toks:=by
 unfold Wakes at h
 split at h
 .exact h.elim
 .split at h
  .obtain⟨e,c,a,_,_,rfl⟩:=h
   exact a.toks
  .rw[h.2];exact t6 _
  .rw[h.2];exact t6 _
 .obtain⟨e,c,a,_,_,rfl⟩:=h
  exact a.toks
 .rw[h.2];exact t6 _
 .rw[h.2];exact t6 _
def zl2 {α:Type}{n:Nat}{Q:α->Pos->Shared->Prop}{E:Value->Pos->Shared->Prop}:∀ (t:Sem α) (p:Pos) (s:zm),n<=s.toks->wp M Γ t Q E p s->wp M Γ t (λa j i=>n<=i.toks/\Q a j i) (λe j i=>n<=i.toks/\E e j i) p s:=by
 intro t
 induction t with
 | pure a=>exact λp s b h=>⟨b,h⟩
 | raise e=>exact λp s b h=>⟨b,h⟩
 | rule _ k d=>exact λp s b h=>d () p s b h
 | «at» j k d=>exact λp s b h=>d () j s b h
 | load a _ k d=>exact λp s b ⟨o,u,h⟩=>⟨o,u,d o p s b h⟩
 | update a _ f k d=>exact λp s b ⟨u,h⟩=>⟨u,d () p _ b h⟩
 | loadIfAlive a k d=>exact λp s b h=>d _ p s b h
 | point _ k d=>exact λp s b h=>d () p s b h
 | alloc o k d=>exact λp s b h=>d _ p _ b h
 | fresh k d=>exact λp s b h=>d _ p _ (Nat.le_succ_of_le b) h
 | ask k d=>exact λp s b h=>d _ p s b h
 | choose w m k d=>exact λp s b ⟨h0,h⟩=>⟨h0,d _ p _ b h⟩
 | os q _ k d=>exact λp s b h=>d _ p _ b h
 | call c x _ _ k d=>exact λp s b ⟨r,i,l,h⟩=>⟨r,i,l,d r p i (n0 b (Runs.toks l)) h⟩
 | handled own k d=>exact λp s b h=>d _ p s b h
 | genState g k d=>exact λp s b ⟨v,h0,h⟩=>⟨v,h0,d _ p s b h⟩
 | newGen c k d=>exact λp s b h=>d _ p _ b h
 | resume g r _ k d=>exact λp s b ⟨res,i,l,h⟩=>⟨res,i,l,d _ p i (n0 b (Wakes.toks l)) h⟩
 | _=>first | exact λp s b h=>h.elim | exact λp s b h=>by simp only[wp]at h ⊢;simp_all
def zjW {α:Type}{t:Sem α}{Q:α->Shared->Prop}{E:yT}{s:zm}(h:wpAny M A t (λv a=>s.toks<=a.toks->Q v a) (λe a=>s.toks<=a.toks->E e a) s):wpAny M A t Q E s:=fun Γ p b =>
 Sem.wp_mono M Γ t (λ_ _ _ z=>z.2 z.1) (λ_ _ _ z=>z.2 z.1) p s (zl2 t p s (t6 _) (h Γ p b))
def VR {α:Type}{t:Sem α}{Q:α->Shared->Prop}{E:yT}{s:zm}(c:0<s.toks)(h:wpAny M A t (λv a=>0<a.toks->Q v a) (λe a=>0<a.toks->E e a) s):wpAny M A t Q E s :=
 zjW (p0 h (λ_ _ z b=>z (q7 c b)) λ_ _ z b=>z (q7 c b))
end PySem
namespace PySem
section
variable {M:Model}{A:zM}{E:yT}{r s:zm}{m cm:wc}{env:Env}
def zof {Q:Unit->Shared->Prop}(x:InCallC r env.locals m env.cells cm s)(j:env.scope.kind=.function)(h:env.kindOf n=some .local)(q:∀ t,InCallC r env.locals (λy=>if y=n then some v else m y) env.cells cm t->0<t.toks->Q () t):wpAny M A (storeName env n v) Q E s:=by
 have f:(env.scope.kind == .class||(env.scope.kind == .module&&env.locals != env.globals))=false:=by rw[j];rfl
 refine wpAny_storeName_local h x.toInCall.ns (λg i d=>?_) f
 refine q _ ?_ (Nat.succ_pos _)
 have l:∀ b o,r.heap.get? b=some o->b≠env.locals:=λb o e=>r0 (q7 (j4 e) x.toInCall.fresh)
 have p:∀ k c,env.cells.lookup k=some c->c≠env.locals:=λk c a=>u1F (x.above k c (mem_of_lookup a))
 obtain⟨w,u,rfl⟩:=x.toInCall.same
 exact { toInCall:={ same:=⟨g,_,rfl⟩,ns:=i,keep:=λb o e=>d.extBut b o (l b o e) (x.toInCall.keep b o e),fresh:=x.toInCall.fresh },cell:=λk c a=>(x.cell k c a).sameBut d (p k c a),apart:=x.apart,above:=x.above }
end
section
variable {M:Model}{A:zM}{E:yT}{s:zm}
def zhT {sc:Scope}{g:Addr}{k:List (Str × Value)}{f:Value}{Q:Env->Shared->Prop}(p:sc.kind=.function)(r:sc.names.lookup x=some .local)(B:∀ y∈k,sc.names.lookup y.1=some .local\/(sc.names.lookup y.1=some .cell/\((cellsFrom (s.heap.objs.size+1) sc.names []).lookup y.1).isSome=true))(q:∀ e,e=newEnv sc s.heap.objs.size g (cellsFrom (s.heap.objs.size+1) sc.names []) j i f none h->∀ t,InCallC s e.locals (bindL e.kindOf ((x,v)::k) λ_=>none) e.cells (bindC e.kindOf ((x,v)::k) λ_=>none) t->0<t.toks->Q e t) :
 wpAny M A (newFunctionEnv sc g [] ((x,v)::k) j i f none h) Q E s:=by
 simp only[newFunctionEnv,Option.isSome_none,u1f,u2m]
 refine u5 (wpAny_alloc (u5 (wpAny_layCells _ (λa b c=>by cases z:b == NameKind.cell <;> simp[z]) _ _ _ _ ?_)))
 have l:=cellsFrom_ok sc.names (s.heap.push { cls:=.type "frame",data:=.dict #[] }) (s.heap.objs.size+1) [] ⟨λ_ _ z=>(nomatch z),.nil⟩ (Nat.le_of_eq (u0c ..).symm)
 rw[u0c]at l
 rw[show({ s with heap:=s.heap.push { cls:=.type "frame",data:=.dict #[] } }:zm).heap.objs.size=s.heap.objs.size+1 from u0c ..]
 rw[u2P]
 have C:InCallC s s.heap.objs.size (λ_=>none) (cellsFrom (s.heap.objs.size+1) sc.names []) (λ_=>none) { s with heap:=pushCells (s.heap.push { cls:=.type "frame",data:=.dict #[] }) sc.names } :=
  { toInCall:={ same:=⟨_,_,rfl⟩,ns:=(Heap.Ns.new s.heap (.type "frame")).keeps (pushCells_keeps _ _),keep:=λb o e=>pushCells_keeps _ _ b o (u8 _ e),fresh:=t6 _ },cell:=λn c z=>(l.empty n c (mem_of_lookup z)).1,apart:=l.apart,above:=λn c z=>(l.empty n c z).2 }
 refine u5 (u5 (u5 (zof (env:=newEnv sc s.heap.objs.size g (cellsFrom (s.heap.objs.size+1) sc.names []) j i f none h) C p r λt D u=>t5 ?_)))
 refine VR u ?_
 refine wpAny_bindParams (s₀:=s) (env:=newEnv sc s.heap.objs.size g (cellsFrom (s.heap.objs.size+1) sc.names []) j i f none h) _ (λ_ _ _=>rfl) p k _ _ _ _ D B λw F m=>t5 (q _ rfl w ?_ m)
 unfold bindL bindC
 have d:=(show(newEnv sc s.heap.objs.size g (cellsFrom (s.heap.objs.size+1) sc.names []) j i f none h).kindOf x=some .local from r)
 rw[t9 d,t9 d]
 exact F
end
end PySem
namespace L2
open PySem PySem.Spec PyProof.Rows
structure ziq (P:zO) (w:World) (K:zu) (mg:wc) (base:Heap) (CX:CXT) (k:Nat) (f:Addr) (fd:ww) (ps:zD) (sp:Sp):Prop where
 len:∀ vs H Q E,sp vs H Q E->vs.length=ps.length
 run:∀ (A:zM) (outer:List Env) (s:zm) (H:Hp) (args:Args) (us:zx) (vs:zw) (Q:VK) (E:XK),yY k A->zj7 P w K mg base A outer s H->BindsTo s fd args (ps.zip us)->yp vs us->sp vs H Q E ->
  codeAny (model P w) A (.call (.ref f) args) (λr s'=>CR CX outer P w H s Q E r s'/\0<s'.toks) s
def zlK {w:World}{K:zu}{g:Heap}{k:Nat}{f:Addr}{a:Scope}{kV d:Value}{N:zD}{X:Sp}(lk:K.lookup f=some ⟨oc,od,.func (PySem.W.fnOf l c h i a dV kV L pm an d ct),a0⟩)(Y:PySem.W.codeIn K d c=true)(S:yz N (M::F) a)(h0:a.names.lookup M=some .local)(C:∀ j H Q E,X j H Q E->j.length=(M::F).length) (p:∀ (A:zM) (outer:List Env) (s:zm) (H:Hp) (j:zw) (Q:VK) (E:XK),yY k (A.deeper (envOfC c a s.heap.objs.size f d))->X j H Q E ->
 ∃ t,PSs (vi CX P w K R g N c a f d A outer s H E) i t/\t { nx:=λ_ H'=>Q .non H',rt:=Q } (start N j) H) :
 ziq P w K R g CX (k+1) f (PySem.W.fnOf l c h i a dV kV L pm an d ct) (M::F) X:=by
 refine⟨C,λA outer s H args us j Q E hr G hb r D=>?_⟩
 have hl:=C _ _ _ _ D
 have KX:K.In s.heap:=G.mod.kin.keeps λb o e=>(G.bs b o e).1
 have lim:s.heap.NoLimit:=G.mod.nolimit.keeps λb o e=>(G.bs b o e).1
 have m:∀ y∈(M::F).zip us,a.names.lookup y.1=some .local\/(a.names.lookup y.1=some .cell/\((cellsFrom (s.heap.objs.size+1) a.names []).lookup y.1).isSome=true):=λ⟨n,v⟩ U=>by
  rcases S.par n (u1j U).1 with q | q
  .exact .inl q
  .exact .inr ⟨q,u0S _ _ _ (.inl q)⟩
 have hu:us.length=F.length+1:=by rw[<-r.length];exact hl
 cases us with
 | nil=>cases hu
 | cons u0 ur =>
  refine u1H hr.depth (KX _ _ lk) rfl S.co S.gen rfl (u2h KX Y) (hb _ _ _ _ ?_)
  refine zhT S.kind h0 (λy U=>m y (.tail _ U)) λenv he s1 x ht=>?_
  subst he
  refine⟨lim.keeps x.toInCall.keep,codeAny_func ?_⟩
  obtain⟨t,W,hq⟩:=p A outer s H j Q E (hr.deeper _) D
  have I:Inv (vi CX P w K R g N c a f d A outer s H E) [] (start N j) H s1:=Wo S hr.hd G hl r x
  refine VR ht (p0 (W [] s1 (start N j) H _ I hq) (λfl s' B T=>?_) λe s' B T=>?_)
  .have fin:∀ {O:St} {H':Hp} {v:V} {u:Value},Inv (vi CX P w K R g N c a f d A outer s H E) [] O H' s'->yZ v u->Q v H'->CE outer P w H s Q u s' :=
    λ{O H' v u} J Z q=>⟨v,H',J.os,J.bare,J.base,J.hok,Z,q⟩
   cases fl with
   | ret u =>
    obtain⟨v,O,H',J,Z,q⟩:=B
    exact⟨fin J Z q,T⟩
   | next =>
    obtain⟨O,H',J,q⟩:=B
    exact⟨fin (v:=V.non) (u:=Value.none) J rfl q,T⟩
   | brk =>
    obtain⟨_,_,_,q⟩:=B
    exact False.elim q
   | cont =>
    obtain⟨_,_,_,q⟩:=B
    exact False.elim q
  .exact VR T (p0 B (λ_ _ z k=>⟨z,k⟩) λ_ _ z k=>⟨z,k⟩)
section
variable {X:Cx}{CX:CXT}{k:Nat}{f:Addr}{fd:ww}{ps:zD}{sp:Sp}{E:XK}{x y z:Str}{p pos p1 p2 q1 q2:Pos}{j1 j2:Nat}{e:Expr}{es:yX}{t:TA}
def zjB {g:zw}(F:ziq X.prog X.w X.K X.mg X.base CX k f fd ps sp)(n:yY k X.A)(m:xh X.K fd ps [])(i:wn CX X E)(I:Inv X a σ H s)(r:yp g c)(h:sp g H Q E):wpAny (model X.prog X.w) X.A (call (.ref f) c) (λu d=>EP X a σ Q u d/\0<d.toks) X.xe s:=by
 have j:c.length=ps.length:=by rw[<-r.length];exact F.len _ _ _ _ h
 have hb2:=m s c I.kIn (by rw[o5];exact j)
 rw[o5]at hb2
 refine u1A (u1d (F.run X.A X.stack s H ⟨c,[]⟩ c g Q E n I.env0 hb2 r h) λr d b=>?_)
 obtain⟨b,o⟩:=b
 cases r with
 | error e=>exact i a σ H s e d I b
 | ok l =>
  cases l with
  | ret u=>exact⟨I.after b,o⟩
  | next=>exact False.elim b
  | brk=>exact False.elim b
  | cont=>exact False.elim b
def zpe (sp:Sp)(E:XK)(t:TA)(y z:Str):TE:=fun σ H Q=>t σ H λa H1=>sp a H1 (λv H2=>∃ x,v=.str x/\x.length<=1048576/\Q (.str (Txt.replace x y z)) H2) E
theorem zmX (F:ziq X.prog X.w X.K X.mg X.base CX k f fd ps sp)(K:yY k X.A)(m:Gl X x)(N:X.mg x=some (.ref f))(A:W.keepIn X.K (.ref f)=true)(G:xh X.K fd ps [])(D:wn CX X E)(o:PA X (e::es) t)
 (l:(y == z)=false) (M:z.length<=14) (i:(x == ("__debug__":Str))=false:=by decide) (L:starEach (e::es) X.env=(false,eval e X.env)::starEach es X.env:=by rfl) (j:(backTo p1 (starEach es X.env)).any (·.1)=false:=by rfl)
 (c:attributeBase (.Call (.Name x p) (e::es) [] p1) "replace" X.env (eval (.Call (.Name x p) (e::es) [] p1) X.env)=eval (.Call (.Name x p) (e::es) [] p1) X.env:=by rfl)
 (g:((backTo pos (starEach [.Constant (.str y) j1 q1,.Constant (.str z) j2 q2] X.env)).all (λx=>!x.1)&&(backToKw pos (keywordEach [] X.env)).all (λx=>x.1.isSome)
  && decide (([.Constant (.str y) j1 q1,.Constant (.str z) j2 q2]:yX).length+([]:List Keyword).length+(if ([]:List Keyword).isEmpty then 0 else 1) < 30))=true:=by rfl)
 (b:(p2.endLine == pos.line)=true:=by rfl) :
 PE X (.Call (.Attribute (.Call (.Name x p) (e::es) [] p1) "replace" p2) [.Constant (.str y) j1 q1,.Constant (.str z) j2 q2] [] pos) (zpe sp E t y z):=by
 intro d s σ H Q I h
 refine u1u c g b rfl ?_
 refine u0E (vF I m N ?_ i)
 refine u1n (h₀:=X.base) I.ok.mod.kin A (thn (o p1 d s σ H _ I h) λO P ⟨R,H1,I1,r,q⟩=>⟨I1.kIn,?_⟩) L j
 refine thn (zjB F K G D I1 r q) λv S B=>?_
 obtain⟨⟨U,H2,I2,w,a,rfl,n,u⟩,C⟩:=B
 obtain⟨V,rfl⟩:=w
 refine⟨"str","str.replace",u0y,PySem.F.slot_str_replace,PySem.F.type_str_replace,u2w _ _ _,(λ_ z=>by cases z),?_⟩
 refine u0R rfl (u1M ?_)
 refine u2a (wpAny_Constant_str (k:=j1) (pos:=q1) (u2a (wpAny_Constant_str (k:=j2) (pos:=q2) (Calls.spliced_nil ?_))))
 refine SC.replaceW (u1F C) (Nat.succ_ne_zero _) (r0 (u07 _)) l n M λJ T=>?_
 exact⟨.str _,H2,I2.tok _,⟨_,rfl⟩,u⟩
end
end L2
namespace Dl
open PySem L2
section
variable [KK]{X:Cx}{x y z:Str}{k m:Nat}{f:Addr}{fd:ww}{ps:zD}{p:xW}{e:Expr}{es:yX}{fa:yB}
def zmj (m:Nat)(p:xW)(f:yB)(y z:Str):zJ:=fun ρ=>(zq m p f ρ).bind λd=>match d with
 | .str a=>if a.length<=100000 then some (.str (Txt.replace a y z))else none
 | _=>none
def zlD (F:ziq X.prog X.w X.K X.mg X.base CX0 k f fd ps (spD m p)) (U:yY k X.A) (S:Gl X x) (R:X.mg x=some (.ref f)) (T:W.keepIn X.K (.ref f)=true) (O:xh X.K fd ps []) (w:AD X (e::es) fa) (J:∀ {t:TA},PA X (e::es) t->PE X (.Call (.Attribute (.Call (.Name x C) (e::es) [] u) "replace" B) [.Constant (.str y) i A,.Constant (.str z) o j] [] b) (zpe (spD m p) (λ_ _ _=>False) t y z)) :
 ED X (.Call (.Attribute (.Call (.Name x C) (e::es) [] u) "replace" B) [.Constant (.str y) i A,.Constant (.str z) o j] [] b) (zmj m p fa y z):=by
 obtain⟨t,L,r⟩:=w
 refine⟨_,J L,fun σ ρ F0 H d Q s M e q=>?_⟩
 obtain⟨G,K,c⟩:=u4.mp e
 obtain⟨n,N,h⟩:=u4.mp K
 split at h <;> try cases h
 rename_i I
 cases G with
 | str a =>
  dsimp only at c
  split at c <;> cases c
  rename_i w
  refine r σ ρ F0 H n _ s M N λF1 H1 P l D=>?_
  refine⟨n,_,F1,I,l.fh,D,h,λF' H' v g E=>⟨a,E.str_inv,by omega,q F' H' _ (l.trans g) .str⟩⟩
 | _=>cases c
def zmv {w:World}{x:Str}{f:Addr}{fd:ww}{N:zD}{k:Nat}{g:zz}(Fu:Fun K x b j f fd)(S:yz N (x0::pr) (zk j))(h0:(zk j).names.lookup x0=some .local)(B:∀ (c:Value) (A:zM) (outer:List Env) (s:zm) (H:Hp) (E:XK),yY k (A.deeper (PyProof.Rows.envOfC b (zk j) s.heap.objs.size f c))->SDs (vi CX0 P w K u i N b (zk j) f c A outer s H E).nox (z7 j) g) :
 ziq P w K u i CX0 (k+1) f fd (x0::pr) (spD (x0::pr).length (fnD N.length g)):=by
 obtain⟨R,M,kV,I,T,U,c,ct,L,rfl,J,m⟩:=Fu.ex
 refine zlK J m S h0 (λC H Q E h=>?_) λA outer s H C Q E G h=>?_
 .obtain⟨n,d,F,o,_,a,_⟩:=h
  rw[a.length];exact o
 .obtain⟨n,d,F,o,y,a,e,q⟩:=h
  obtain⟨t,p,r⟩:=(B c A outer s H E G).nox
  refine⟨t,p,r F H F H _ _ _ (XU y a) ?_⟩
  unfold fnD at e
  cases l:g (n.map .v++List.replicate (N.length-n.length) .no) with
  | rt O=>rw[l]at e;cases e;exact λF' H' v g D=>q F' H' v g D
  | nx ρ=>rw[l]at e;cases e;exact λF' H' σ z=>q F' H' _ z.gr .non
  | bk ρ=>rw[l]at e;cases e
  | ct ρ=>rw[l]at e;cases e
  | no=>rw[l]at e;cases e
end
end Dl
namespace L2
open PySem PySem.Spec PyProof.Rows
def ziq.mono {P:zO}{w:World}{K:zu}{b:wc}{a:Heap}{CX:CXT}{j k:Nat}{f:Addr}{c:ww}{ps:zD}{d:Sp}(F:ziq P w K b a CX j f c ps d)(h:j<=k) :
 ziq P w K b a CX k f c ps d:=⟨F.len,λA outer s H args e g Q E i=>F.run A outer s H args e g Q E (i.mono h)⟩
def zfk {k:Str}:∀ {D:List (Str × KTD.Dat)},(∀ d,KTD.datumAt k D=some d->KTD.Opened h₀ P d)->(KTD.datumAt k D=none->a)->KTD.Each h₀ k P a D
 | [],_,g=>g rfl
 | (x,d)::D,h,g=>by
  show if decide (k=x)=true then KTD.Opened h₀ P d else KTD.Each h₀ k P a D
  by_cases e:k=x
  .rw[t9 (q5 e)]
   exact h d (by show(if decide (k=x)=true then some d else _)=_;rw[t9 (q5 e)])
  .have b:¬ (decide (k=x)=true):=by rw[q4 e];exact u7
   have c:KTD.datumAt k ((x,d)::D)=KTD.datumAt k D:=by
    show(if decide (k=x)=true then some d else KTD.datumAt k D)=_
    rw[j5 b]
   rw[j5 b]
   rw[c]at h g
   exact zfk h g
section
variable {X:Cx}{a:Addr}{D:List (Str × KTD.Dat)}{nm:Str}{e1 e2:Expr}{p p2 pos:Pos}{t:TA}
def zoP (D:List (Str × KTD.Dat))(t:TA):TE:=fun σ H Q=>t σ H λa H1=>∃ z y,a=[.str z,y]/\(∀ d,KTD.datumAt z D=some d->∃ i,d=.flat (.int i)/\Q (.int i) H1)/\(KTD.datumAt z D=none->Q y H1)
theorem VS (T:∀ h:Heap,X.K.In h->KTD.TextTab h a D) (l:Gl X nm) (E:X.mg nm=some (.ref a)) (n:PA X [e1,e2] t) (j:(nm == ("__debug__":Str))=false:=by decide)
 (e:attributeBase (.Name nm p) "get" X.env (eval (.Name nm p) X.env)=eval (.Name nm p) X.env:=by rfl)
 (g:((backTo pos (starEach [e1,e2] X.env)).all (λx=>!x.1)&&(backToKw pos (keywordEach [] X.env)).all (λx=>x.1.isSome)
  && decide (([e1,e2]:yX).length+([]:List Keyword).length+(if ([]:List Keyword).isEmpty then 0 else 1) < 30))=true:=by rfl)
 (c:(p2.endLine == pos.line)=true:=by rfl) (C:starEach [e1,e2] X.env=(false,eval e1 X.env)::starEach [e2] X.env:=by rfl) (b:(backTo pos (starEach [e2] X.env)).any (·.1)=false:=by rfl) :
 PE X (.Call (.Attribute (.Name nm p) "get" p2) [e1,e2] [] pos) (zoP D t):=by
 intro f s σ H Q I h
 refine u1u e g c rfl (vF I l E ?_ j)
 have T0:KTD.Here X.base s.heap a D:=⟨T _ I.mod.kin,I.bk⟩
 refine⟨"dict","dict.get",PySem.F.plainAttrs_dict,PySem.F.slot_dict_get,PySem.F.type_dict_get,T0.typeIs,T0.noDict,?_⟩
 have k:=n pos f s σ H _ I h
 rw[C]at k ⊢
 refine u0R (by show(false||(backTo pos (starEach [e2] X.env)).any (·.1))=false;rw[b] <;> rfl) (u1M ?_)
 refine thn k λF J hh9=>?_
 obtain⟨G,H2,I2,A,z,y,w,B,o⟩:=hh9
 subst w
 obtain⟨u,v,rfl,⟨K,rfl⟩,r⟩:=A.two
 refine KTD.get2_text (h₀:=X.base) ⟨T _ I.mod.kin,I2.bk⟩ (zfk (λd j=>?_) λm=>⟨y,H2,I2.tok _,r,o m⟩)
 obtain⟨i,rfl,q⟩:=B d j
 exact KTD.opened_int λt=>⟨.int i,H2,I2.tok _,⟨_,rfl⟩,q⟩
end
end L2
namespace Dl
open PySem L2 PySem.Spec PyProof.Rows
variable [KK]{X:Cx}{a:Addr}{nm:Str}{b e1 e2:Expr}{p p2 p3 pos:Pos}{f:zJ}
abbrev zjI:=List (Str × Int)
def Y4 (t:zjI):List (Str × KTD.Dat):=t.map λq=>(q.1,.flat (.int q.2))
def xS:zjI->Str->yx
 | [],_=>none
 | q::t,x=>if x=q.1 then some q.2 else xS t x
omit [KK] in
def YM (x:Str):∀ t:zjI,KTD.datumAt x (Y4 t)=(xS t x).map λn=>KTD.Dat.flat (.int n)
 | []=>rfl
 | q::t=>by
  show(if decide (x=q.1)=true then some (KTD.Dat.flat (.int q.2))else KTD.datumAt x (Y4 t))=(if x=q.1 then some q.2 else xS t x).map _
  by_cases h:x=q.1
  .rw[t9 (q5 h),t9 h];rfl
  .rw[j5 (by rw[q4 h];exact u7),j5 h,YM x t]
def za9 (t:zjI):D->Option D
 | .str x=>some (.bl (xS t x).isSome)
 | _=>none
def WM {t:zjI} (T:∀ h:Heap,X.K.In h->KTD.TextTab h a (Y4 t)) (c:Gl X nm) (r:X.mg nm=some (.ref a)) (j:ED X b f) (n:behindInMarks .In (.Name nm p)=false:=by with_unfolding_all rfl) (k:(nm == ("__debug__":Str))=false:=by decide) :
 TD X (.Compare b [.In] [.Name nm p] pos) (tOf (eUn (za9 t) f)):=by
 obtain⟨u,g,o⟩:=j
 refine⟨_,zb4 (zdc T) g (yU (v:=.ref a) c r rfl k) n,zjH fun σ ρ F H z Q s m e q=>?_⟩
 obtain⟨d,e1,e2⟩:=u4.mp e
 refine o σ ρ F H d _ s m e1 λF1 H1 v l i=>?_
 cases d with
 | str x =>
  cases e2
  cases i.str_inv
  refine⟨x,rfl,rfl,?_⟩
  rw[<-KTD.isSome_datumAt,YM,u1x]
  exact q F1 H1 _ l .bl
 | _=>cases e2
def ZZ (t:zjI):xW
 | [.str x,d]=>match xS t x with
  | some i=>some (.int i)
  | none=>some d
 | _=>none
def zoe (g:xW)(f:yB):zJ:=fun ρ=>(f ρ).bind g
def YL {t:zjI}{f:yB}(T:∀ h:Heap,X.K.In h->KTD.TextTab h a (Y4 t))(n:AD X [e1,e2] f)
 (m:∀ {u:TA},PA X [e1,e2] u->PE X (.Call (.Attribute (.Name nm p) "get" p2) [e1,e2] [] pos) (zoP (Y4 t) u)):ED X (.Call (.Attribute (.Name nm p) "get" p2) [e1,e2] [] pos) (zoe (ZZ t) f):=by
 obtain⟨u,y,w⟩:=n
 refine⟨_,m y,fun σ ρ F H z Q s A e q=>?_⟩
 obtain⟨v,o,b⟩:=u4.mp e
 refine w σ ρ F H v _ s A o λF1 H1 J k c=>?_
 unfold ZZ at b
 split at b
 .rename_i x d
  obtain⟨I,G,rfl,b1,c⟩:=c.cons_inv
  obtain⟨r,E,rfl,b2,c⟩:=c.cons_inv
  cases c.nil_inv
  cases b1.str_inv
  refine⟨x,r,rfl,λC j=>?_,λl=>?_⟩
  .rw[YM]at j
   obtain⟨i,B,rfl⟩:=u9.mp j
   rw[B]at b
   cases b
   exact⟨i,rfl,q F1 H1 _ k .int⟩
  .rw[YM]at l
   have g:xS t x=none:=Option.map_eq_none_iff.mp l
   rw[g]at b
   cases b
   exact q F1 H1 _ k b2
 .cases b
end Dl
namespace Dl
open PySem L2 PySem.Spec PyProof.Rows
section
variable [KK]{X:Cx}{a o e:Expr}{es:yX}{p apos pos:Pos}{f:zJ}{fa:yB}{m:Str}
structure DkC (K:zu) (C:Addr):Prop where
 cl:Cls K C
 nW:Yc K C "web"
 nH:Yc K C "heap"
 nP:Yc K C "past"
def zm0:D->Option D
 | .obj w _ _=>some w
 | _=>none
def zlo:D->Option D
 | .obj _ h _=>some h
 | _=>none
def zqt:D->Option D
 | .obj _ _ a=>some (.lst a)
 | _=>none
def zbF (c:DkC X.K KK.dk) (h:ED X a f) (m:attributeBase a "web" X.env (eval a X.env)=eval a X.env:=by rfl):ED X (.Attribute a "web" pos) (eUn zm0 f):=by
 obtain⟨t,p,r⟩:=h
 refine⟨_,zbp p m,fun σ ρ F H z Q s n e q=>?_⟩
 obtain⟨d,o,g⟩:=u4.mp e
 refine r σ ρ F H d _ s n o λF1 H1 v b i=>?_
 cases d with
 | obj w h B =>
  cases g
  obtain⟨p,u,y,k,A,x,rfl,j,D,l,C,E⟩:=i.obj_inv
  exact⟨p,_,u,_,k,rfl,b.fh _ _ j,c.cl,c.nW,rfl,q F1 H1 _ b l⟩
 | _=>cases g
def W0 (c:DkC X.K KK.dk) (h:ED X a f) (l:attributeBase a "heap" X.env (eval a X.env)=eval a X.env:=by rfl):ED X (.Attribute a "heap" pos) (eUn zlo f):=by
 obtain⟨t,p,r⟩:=h
 refine⟨_,zbp p l,fun σ ρ F H z Q s m e q=>?_⟩
 obtain⟨d,n,g⟩:=u4.mp e
 refine r σ ρ F H d _ s m n λF1 H1 v b i=>?_
 cases d with
 | obj w h C =>
  cases g
  obtain⟨p,u,A,y,k,x,rfl,j,D,B,o,E⟩:=i.obj_inv
  exact⟨p,_,u,_,k,rfl,b.fh _ _ j,c.cl,c.nH,rfl,q F1 H1 _ b o⟩
 | _=>cases g
def zf5 (c:DkC X.K KK.dk) (h:ED X a f) (l:attributeBase a "past" X.env (eval a X.env)=eval a X.env:=by rfl):ED X (.Attribute a "past" pos) (eUn zqt f):=by
 obtain⟨t,p,r⟩:=h
 refine⟨_,zbp p l,fun σ ρ F H z Q s m e q=>?_⟩
 obtain⟨d,n,g⟩:=u4.mp e
 refine r σ ρ F H d _ s m n λF1 H1 v b i=>?_
 cases d with
 | obj w h D =>
  cases g
  obtain⟨p,o,k,A,C,y,rfl,j,u,B,E,x⟩:=i.obj_inv
  exact⟨p,_,o,_,.ref k,rfl,b.fh _ _ j,c.cl,c.nP,rfl,q F1 H1 _ b (At.lst u x)⟩
 | _=>cases g
def zni (n:Nat)(p:xW)(b:zJ)(fa:yB):zJ:=fun ρ=>(b ρ).bind λd=>match d with
 | .obj w h c=>(fa ρ).bind λa=>if a.length+1=n then p (.obj w h c::a)else none
 | _=>none
def znk (n:Nat)(r:zh4)(b:zJ)(fa:yB):zaJ:=fun ρ=>(b ρ).bind λd=>match d with
 | .obj w h c=>(fa ρ).bind λa=>if a.length+1=n then r (.obj w h c::a)else none
 | _=>none
variable {k n:Nat}{g:Addr}{fd:ww}{ps:zD}{q:xW}{r:zh4}
theorem zkE {pl:Sem Bool}(c:Cls X.K KK.dk)(Z:zeK X.K KK.dk m g)(F:xu X.prog X.w X.K X.mg X.base CX0 k g fd ps (spD n q))(U:yY k X.A)(P:xh X.K fd ps [])(K:ED X o f)(I:AD X (e::es) fa)
 (E:∀ y z q,(ZH y z q).lookup m=none:=by intros;rfl)
 (l:starEach (e::es) X.env=(false,eval e X.env)::starEach es X.env:=by rfl) (j:(backTo pos (starEach es X.env)).any (·.1)=false:=by rfl)
 (G:eval (.Call (.Attribute o m apos) (e::es) [] pos) X.env=(do
  let ov<-eval o X.env
  standAt apos.atName
  let (f,first)<-holding [ov] (getMethod ov m pl)
  callWith pos f first (backTo pos (starEach (e::es) X.env)) (backToKw pos (keywordEach [] X.env))):=by rfl) :
 ED X (.Call (.Attribute o m apos) (e::es) [] pos) (zni n q f fa):=by
 obtain⟨to,M,S⟩:=K
 obtain⟨t,R,N⟩:=I
 refine⟨_,Wf (pl:=pl) M c Z F U P .nil Zq R l j G,fun σ ρ F0 H d Q s B e h=>?_⟩
 obtain⟨C,V,x⟩:=u4.mp e
 refine S σ ρ F0 H C _ s B V λF1 H1 v a u=>?_
 cases C with
 | obj w O r =>
  obtain⟨A,W,b⟩:=u4.mp x
  split at b <;> try cases b
  rename_i D
  obtain⟨p,Y,q',y,z,xs,rfl,J,hq,aw,ah,al⟩:=u.obj_inv
  refine⟨p,Y,_,rfl,a.fh _ _ J,E _ _ _,?_⟩
  refine N σ ρ F1 H1 A _ a.fh (B.mono a.ff) W λF2 H2 vs i L=>?_
  exact⟨.obj w O r::A,d,F2,D,i.fh,by rw[o5];exact .cons (u.mono i.ff) L,b,λF' H' v g T=>h F' H' v ((a.trans i).trans g) T⟩
 | _=>cases x
def zpB {pl:Sem Bool}(c:Cls X.K KK.dk)(hm:zeK X.K KK.dk m g)(F:xu X.prog X.w X.K X.mg X.base (Air X.prog X.w) k g fd ps (spX A n r))(R:wn (Air X.prog X.w) X E)(Z:yY k X.A)(U:xh X.K fd ps [])(M:ED X o f)(K:AD X (e::es) fa)(I:∀ y z q,(ZH y z q).lookup m=none:=by intros;rfl)(i:starEach (e::es) X.env=(false,eval e X.env)::starEach es X.env:=by rfl)(h:(backTo pos (starEach es X.env)).any (·.1)=false:=by rfl) (J:eval (.Call (.Attribute o m apos) (e::es) [] pos) X.env=(do
 let ov<-eval o X.env
 standAt apos.atName
 let (f,first)<-holding [ov] (getMethod ov m pl)
 callWith pos f first (backTo pos (starEach (e::es) X.env)) (backToKw pos (keywordEach [] X.env))):=by rfl) :
 XE E A X (.Call (.Attribute o m apos) (e::es) [] pos) (znk n r f fa):=by
 obtain⟨to,O,W⟩:=M
 obtain⟨t,V,S⟩:=K
 refine⟨_,Wf (pl:=pl) O c hm F Z U .nil R V i h J,fun σ ρ F0 H j Q s C e w=>?_⟩
 obtain⟨D,Y,x⟩:=u4.mp e
 refine W σ ρ F0 H D _ s C Y λF1 H1 v a u=>?_
 cases D with
 | obj P T l =>
  obtain⟨B,e3,b⟩:=u4.mp x
  split at b <;> try cases b
  rename_i G
  obtain⟨p,dx,q',y,z,xs,rfl,L,hq,aw,ah,al⟩:=u.obj_inv
  refine⟨p,dx,_,rfl,a.fh _ _ L,I _ _ _,?_⟩
  refine S σ ρ F1 H1 B _ a.fh (C.mono a.ff) e3 λF2 H2 vs d N=>?_
  exact⟨.obj P T l::B,j,F2,G,d.fh,by rw[o5];exact .cons (u.mono d.ff) N,b,w.grow (a.trans d)⟩
 | _=>cases x
end
open Classical in
noncomputable def off (x q:Addr)(H:Hp):Hp:=λb=>if b=x\/b=q then none else H b
section
variable {x q:Addr}{F H F' H':Hp}
def Xn (c:b≠x)(a:b≠q):off x q H b=H b:=by
 unfold off
 rw[j5 (λz=>z.elim c a)]
def wb (h:off x q H b=some o):b≠x/\b≠q/\H b=some o:=by
 unfold off at h
 split at h
 .cases h
 .rename_i a
  exact⟨λz=>a (.inl z),λz=>a (.inr z),h⟩
def zqI:off x q H x=none:=by
 unfold off
 rw[t9 (.inl rfl)]
def zqF:off x q H q=none:=by
 unfold off
 rw[t9 (.inr rfl)]
def Zp:off x q (upd H x o)=off x q H:=by
 funext b
 unfold off
 split
 .rfl
 .rename_i a
  rw[zf λz=>a (.inl z)]
def WR:off x q (upd H q o)=off x q H:=by
 funext b
 unfold off
 split
 .rfl
 .rename_i a
  rw[zf λz=>a (.inr z)]
def zN.offs (s:zN F H)(c:F x=none)(a:F q=none):zN F (off x q H):=λb o e=>by
 rw[Xn (ze e c) (ze e a)]
 exact s b o e
def zN.on (s:zN F (off x q H)):zN F H:=λb o e=>(wb (s b o e)).2.2
def Gr.offs (g:Gr F H F' H')(f:F' x=none)(a:F' q=none):Gr F (off x q H) F' (off x q H'):=by
 refine⟨g.ff,zN.offs g.fh f a,λb o j d=>?_⟩
 obtain⟨h,c,k⟩:=wb d
 obtain⟨e,i⟩:=g.kp b o j k
 exact⟨e,by rw[Xn h c];exact i⟩
end
structure W7 [KK] (F H:Hp) (x dx q:Addr) (w h:D) (ps:zg):Prop where
 ex:∃ vw vh xs,H x=some (.ins KK.dk dx (ZH vw vh q))/\H q=some (.lst xs)/\At F w vw/\At F h vh/\AtL F ps xs
 fx:F x=none
 fq:F q=none
section
variable [KK]{Fb Hb F H F' H':Hp}{ρ:SE}{σ:L2.St}{x dx q:Addr}{w h w' h':D}{ps:zg}
def W7.grow (d:W7 F H x dx q w h ps)(g:Gr F H F' H'):W7 F' H' x dx q w h ps:=by
 obtain⟨i,l,e,k,c,j,m,f⟩:=d.ex
 have a:=g.kl (λ_ z=>by cases z) d.fx k
 have b:=g.kl (λ_ z=>by cases z) d.fq c
 exact⟨⟨i,l,e,a.2,b.2,j.mono g.ff,m.mono g.ff,f.mono g.ff⟩,a.1,b.1⟩
def W7.ne (d:W7 F H x dx q w h ps):x≠q:=by
 obtain⟨e,f,c,b,a,_⟩:=d.ex
 exact zjD b a (λz=>by cases z)
def Rl.deed {i:Nat}(r:Rl Fb Hb F H ρ σ)(e:ρ[i]?=some (.k w h ⟨z,ps⟩))(ex:σ[i]?=some (some (.ref x)))(d:W7 F H x dx q w h ps)(g:Gr F (off x q H) F' (off x q H'))(R:W7 F' H' x dx q w' h' m) :
 Rl Fb Hb F' H' (ρ.set i (.k w' h' ⟨z,m⟩)) σ:=by
 obtain⟨vw,vh,xs,hx,hq,a1,a2,a3⟩:=d.ex
 obtain⟨B,J,O,G,P,b1,b2,b3⟩:=R.ex
 obtain⟨p,a6,q2,a5,a0,a4,f1,Y,Z,f4,f5,f6,f7,X,f9⟩:=r.dk i w h _ e
 rw[ex]at f1
 cases f1
 rw[hx]at Y
 cases Y
 obtain⟨p3,o3,V,e5,e6,e7,_⟩:=r.ows i _ e rfl
 rw[ex]at V
 cases V
 have hi:i<ρ.length:=(j3.mp e).1
 have k:∀ {j:Nat} {s:Sl},i=j->(ρ.set i (.k w' h' ⟨z,m⟩))[j]?=some s->s=.k w' h' ⟨z,m⟩:=λ{j s} c h=>by
  subst c
  rw[j8 hi]at h
  cases h
  rfl
 have f:∀ {j:Nat} {s:Sl},(ρ.set i (.k w' h' ⟨z,m⟩))[j]?=some s->s.isO=true->∃ s',ρ[j]?=some s'/\s'.isO=true:=λ{j s} h n=>by
  by_cases c:i=j
  .subst c;exact⟨_,e,rfl⟩
  .rw[u6 c]at h;exact⟨s,h,n⟩
 have N:∀ {j:Nat} {s:Sl} {a:Addr},i≠j->ρ[j]?=some s->s.isO=true->σ[j]?=some (some (.ref a))->a≠x/\a≠q:=λ{j s a} hne L n E=>by
  refine⟨λz=>?_,λz=>?_⟩
  .subst z;exact hne (r.dis i j a _ s e L rfl n ex E)
  .subst z;exact f7 j s L n E
 refine⟨⟨r.gr.ff.trans g.ff,zN.on g.fh,λb o e1 T=>?_⟩,λj d h=>?_,λj s h n=>?_,λj l a s t L E o1 o2 h3 h4=>?_,by simp[r.len],λj w2 E a7 h=>?_⟩
 .obtain⟨I,k2⟩:=r.gr.kp b o e1 T
  rcases I with I | ⟨I,k3⟩
  .have Q:b≠x:=ze T e5
   have S:b≠q:=ze T Z
   obtain⟨A,C⟩:=g.kp b o I (by rw[Xn Q S];exact k2)
   exact⟨A,(wb C).2.2⟩
  .have y:=g.ff _ _ k3
   exact⟨.inr ⟨I,y⟩,zN.on g.fh _ _ y⟩
 .by_cases c:i=j
  .cases k c h
  .rw[u6 c]at h
   obtain⟨v,A,C⟩:=r.vals j d h
   exact⟨v,A,C.mono g.ff⟩
 .by_cases c:i=j
  .cases k c h
   subst c
   exact⟨x,_,ex,e5,R.fx,G,dx,B,J,q,rfl,b1,b2⟩
  .rw[u6 c]at h
   obtain⟨a,o,A,C,y3,y4,W⟩:=r.ows j s h n
   obtain⟨Q,S⟩:=N c h n A
   obtain⟨u1,u2⟩:=g.kl W.ntup y3 (by rw[Xn Q S];exact y4)
   exact⟨a,o,A,C,u1,(wb u2).2.2,W.mono g.ff⟩
 .obtain⟨M,K,u⟩:=f L o1
  obtain⟨s2,g2,U⟩:=f E o2
  exact r.dis j l a M s2 K g2 u U h3 h4
 .have c:i=j:=by
   obtain⟨M,K,_⟩:=f h rfl
   by_cases c:i=j
   .exact c
   .rw[u6 c]at h
    exact(X j _ h rfl).symm
  cases k c h
  subst c
  refine⟨x,dx,q,B,J,O,ex,G,Z,R.fq,P,b3,λj s h n=>?_,λj s h hk=>?_,f9⟩
  .obtain⟨M,K,u⟩:=f h n
   exact f7 j M K u
  .by_cases c:i=j
   .exact c.symm
   .rw[u6 c]at h
    exact X j s h hk
def Rl.desk {i:Nat}(r:Rl Fb Hb F H ρ σ)(e:ρ[i]?=some (.k w h ⟨z,ps⟩)):∃ x dx q,σ[i]?=some (some (.ref x))/\W7 F H x dx q w h ps/\∀ a,z=some a->a=(x,dx,q):=by
 obtain⟨p,dx,q,v,B,t,c,f,J,u,y,s,I,E,m⟩:=r.dk i w h _ e
 obtain⟨G,C,d,K,g,b,l,n,j,D,o,k,A⟩:=r.ows i _ e rfl
 rw[c]at d
 cases d
 rw[f]at b
 cases b
 cases o
 exact⟨p,dx,q,c,⟨⟨v,B,t,f,y,k,A,s⟩,g,u⟩,m⟩
def zcs {N:zD}{c:zg}(s:zN F H)(d:W7 F H x dx q w h ps)(a:AtL F c l):Rl F (off x q H) F H (.k w h ⟨some (x,dx,q),ps⟩::(c.map .v++List.replicate (N.length-(c.length+1)) .no)) (L2.start N (.ref x::l)):=by
 have n:=a.length
 obtain⟨r,A,L,B,U,C,O,S⟩:=d.ex
 have Q:(L2.start N (.ref x::l))[0]?=some (some (.ref x)):=rfl
 have b:∀ (i:Nat) (t:Sl),(c.map Sl.v++List.replicate (N.length-(c.length+1)) Sl.no)[i]?=some t->t.isO=true->False:=λi t h f=>by
  by_cases g:i<c.length
  .rw[g0 (by simpa using g),r8]at h
   cases e:c[i]? with
   | none=>rw[e]at h;cases h
   | some d=>rw[e]at h;cases h;cases f
  .rw[g9 (by simpa using g),u0d]at h
   split at h <;> cases h
   cases f
 refine⟨⟨zN.refl _,s,λp o T J=>⟨.inl T,(wb J).2.2⟩⟩,λi G h=>?_,λi t h f=>?_,λi j p t u v m P M W Y=>?_,?_,λi X m R h=>?_⟩
 .cases i with
  | zero=>cases h
  | succ i =>
   rw[l4]at h
   by_cases g:i<c.length
   .rw[g0 (by simpa using g),r8]at h
    cases e:c[i]? with
    | none=>rw[e]at h;cases h
    | some G =>
     rw[e]at h
     cases h
     obtain⟨y,E,I⟩:=a.get e
     refine⟨y,?_,I⟩
     unfold L2.start
     rw[o7,List.cons_append,l4,g0 (by simpa [n]using g),r8,E]
     rfl
   .rw[g9 (by simpa using g),u0d]at h
    split at h <;> cases h
 .cases i with
  | zero=>cases h;exact⟨x,_,rfl,zqI,d.fx,B,dx,r,A,q,rfl,C,O⟩
  | succ i=>rw[l4]at h;exact(b i t h f).elim
 .cases i with
  | zero=>cases j with
   | zero=>rfl
   | succ j=>rw[l4]at m;exact(b j u m M).elim
  | succ i=>rw[l4]at v;exact(b i t v P).elim
 .unfold L2.start
  simp[n]
 .cases i with
  | zero =>
   cases h
   refine⟨x,dx,q,r,A,L,rfl,B,zqF,d.fq,U,S,λj s h f=>?_,λj s h K=>?_,λ_ z=>by cases z;rfl⟩
   .cases j with
    | zero=>intro z;cases z;exact d.ne rfl
    | succ j=>rw[l4]at h;exact(b j s h f).elim
   .cases j with
    | zero=>rfl
    | succ j =>
     rw[l4]at h
     refine(b j s h ?_).elim
     cases s with
     | k _ _ _=>rfl
     | _=>cases K
  | succ i=>rw[l4]at h;exact(b i _ h rfl).elim
end
section
variable [KK]{X:Cx}{a b o e:Expr}{es:yX}{p apos pos pos' pos2:Pos}{f:zJ}{fa:yB}{m:Str}
def zhw (i:Nat)(f:zJ):zz:=fun ρ=>match vEv true f ρ,ρ[i]? with
 | some d,some (.k w h ⟨z,ps⟩)=>if decide (ps.length<sizeLine)=true then .nx (ρ.set i (.k w h ⟨z,ps++[d]⟩))else .no
 | _,_=>.no
def zm7 (c:DkC X.K KK.dk) (G:PE X a (xz i)) (R:ED X e f) (C:∀ {u:TE} {t:TA},PE X (.Attribute a "past" apos) u->PA X [e] t->PE X (.Call (.Attribute (.Attribute a "past" apos) "append" p) [e] [] pos') (tBM X.K "list" vE u t)) (M:attributeBase a "past" X.env (eval a X.env)=eval a X.env:=by rfl) (s:swapsWith (.Call (.Attribute (.Attribute a "past" apos) "append" p) [e] [] pos') none pos.line X.env=pure false:=by rfl) (K:starEach [e] X.env=(false,eval e X.env)::starEach [] X.env:=by rfl) :
 SD X (.Expr (.Call (.Attribute (.Attribute a "past" apos) "append" p) [e] [] pos') pos) (zhw i f):=by
 obtain⟨t,D,J⟩:=R
 refine⟨_,vZ (C (zbp G M) (zl D zU K)) s,λFb Hb F H ρ σ E m k=>?_⟩
 unfold zhw at k
 split at k
 .rename_i d w h z Y O y
  split at k
  .rename_i B
   obtain⟨x,P,q,ex,A,_⟩:=m.desk y
   obtain⟨T,V,I,L,Q,S,U,W⟩:=A.ex
   refine⟨_,ex,x,_,P,_,.ref q,rfl,L,c.cl,c.nP,rfl,.inl ⟨rfl,I,SqL.of Q⟩,?_⟩
   refine J.at m O λF' H' v g N=>?_
   have b:=A.grow g
   obtain⟨l,r,j,o,n,b1,b2,b3⟩:=b.ex
   refine⟨q,j,v,rfl,rfl,n,by rw[b3.length];exact k8 B,?_⟩
   refine k F' _ σ ((m.grow g).deed y ex b (H':=upd H' q (.lst (j++[v]))) ?_ ⟨⟨l,r,_,?_,zd,b1,b2,b3.snoc N⟩,b.fx,b.fq⟩)
   .rw[WR]
    exact .refl (zN.offs g.fh b.fx b.fq)
   .rw[zf b.ne]
    exact o
  .exact k.elim
 .exact k.elim
def sFW (i:Nat)(f:zJ):zz:=fun ρ=>match vEv true f ρ,ρ[i]? with
 | some d,some (.k _ h ps)=>.nx (ρ.set i (.k d h ps))
 | _,_=>.no
def sFH (i:Nat)(f:zJ):zz:=fun ρ=>match vEv true f ρ,ρ[i]? with
 | some d,some (.k w _ ps)=>.nx (ρ.set i (.k w d ps))
 | _,_=>.no
def zpp (c:DkC X.K KK.dk) (r:PE X a (xz i)) (J:ED X e f) (A:swapsWith e (some (.Attribute a "web" pos')) pos.line X.env=pure false:=by rfl):SD X (.Assign [.Attribute a "web" pos'] e pos) (sFW i f):=by
 obtain⟨t,p,y⟩:=J
 refine⟨_,zbw r p A,λFb Hb F H ρ σ E j k=>?_⟩
 unfold sFW at k
 split at k
 .rename_i d w h l D m
  obtain⟨z,M⟩:=l
  refine y.at j D λF' H' v g G=>?_
  obtain⟨x,o,q,ex,b,_⟩:=(j.grow g).desk m
  obtain⟨L,n,s,C,I,K,u,B⟩:=b.ex
  refine⟨_,ex,x,_,o,_,rfl,C,c.cl,c.nW,by show 3<1000;decide,?_⟩
  refine k F' _ σ ((j.grow g).deed m ex b (H':=upd H' x (.ins KK.dk o (ZH v n q))) ?_ ⟨⟨v,n,s,zd,?_,G,u,B⟩,b.fx,b.fq⟩)
  .rw[Zp]
   exact .refl (zN.offs g.fh b.fx b.fq)
  .rw[zf (u0k b.ne)]
   exact I
 .exact k.elim
def znt (c:DkC X.K KK.dk) (s:PE X a (xz i)) (J:ED X e f) (A:swapsWith e (some (.Attribute a "heap" pos')) pos.line X.env=pure false:=by rfl):SD X (.Assign [.Attribute a "heap" pos'] e pos) (sFH i f):=by
 obtain⟨t,r,y⟩:=J
 refine⟨_,zbw s r A,λFb Hb F H ρ σ E j k=>?_⟩
 unfold sFH at k
 split at k
 .rename_i d w h l D m
  obtain⟨z,M⟩:=l
  refine y.at j D λF' H' v g G=>?_
  obtain⟨x,o,q,ex,b,_⟩:=(j.grow g).desk m
  obtain⟨n,L,u,C,I,p,K,B⟩:=b.ex
  refine⟨_,ex,x,_,o,_,rfl,C,c.cl,c.nH,by show 3<1000;decide,?_⟩
  refine k F' _ σ ((j.grow g).deed m ex b (H':=upd H' x (.ins KK.dk o (ZH n v q))) ?_ ⟨⟨n,v,u,zd,?_,p,G,B⟩,b.fx,b.fq⟩)
  .rw[Zp]
   exact .refl (zN.offs g.fh b.fx b.fq)
  .rw[zf (u0k b.ne)]
   exact I
 .exact k.elim
def zmP (i j:Nat):zz:=fun ρ=>match ρ[i]? with
 | some (.k w h ⟨z,ps⟩)=>(match ps.getLast? with
  | some d=>.nx ((ρ.set i (.k w h ⟨z,ps.dropLast⟩)).set j (.v d))
  | none=>.no)
 | _=>.no
def zly {j:Nat} (c:DkC X.K KK.dk) (G:X.N.Nodup) (M:X.N[j]?=some x) (K:Loc X.env.scope x) (A:PE X a (xz i)) (L:attributeBase a "past" X.env (eval a X.env)=eval a X.env:=by rfl) (s:∀ {l:TE},PE X (.Attribute a "past" apos) l->PE X (.Call (.Attribute (.Attribute a "past" apos) "pop" p) [] [] pos2) (tBM0 X.K "list" znG l)) (I:swapsWith (.Call (.Attribute (.Attribute a "past" apos) "pop" p) [] [] pos2) (some (.Name x pos')) pos.line X.env=pure false:=by rfl) (v:X.fn x=true\/X.env.scope.names.lookup x=some .local:=by first | exact .inl rfl | exact .inr rfl | assumption):SD X (.Assign [.Name x pos'] (.Call (.Attribute (.Attribute a "past" apos) "pop" p) [] [] pos2) pos) (zmP i j):=by
 refine⟨_,wJ G M K (s (zbp A L)) I v,λFb Hb F H ρ σ E f k=>?_⟩
 unfold zmP at k
 split at k
 .rename_i w h z Q m
  split at k
  .rename_i d r
   obtain⟨es,rfl⟩:=u2o.mp r
   rw[u0Z]at k
   obtain⟨t,N,q,ex,b,_⟩:=f.desk m
   obtain⟨B,D,P,e,n,o,C,J⟩:=b.ex
   obtain⟨g,y,rfl,O,u⟩:=J.unsnoc
   refine⟨_,ex,t,_,N,_,.ref q,rfl,e,c.cl,c.nP,rfl,.inl ⟨rfl,_,SqL.of n⟩,q,g,y,rfl,rfl,n,?_⟩
   refine k F _ _ ((f.deed m ex b (H':=upd H q (.lst g)) ?_ ⟨⟨B,D,g,?_,zd,o,C,O⟩,b.fx,b.fq⟩).set u)
   .rw[WR]
    exact .refl (zN.offs f.gr.fh b.fx b.fq)
   .rw[zf b.ne]
    exact e
  .exact k.elim
 .exact k.elim
abbrev KF:=D->D->zg->zg->Option (D × D × zg)
abbrev KZ:=Option (Addr × Addr × Addr)->D->D->zg->zg->Option (D × D × Pst)
def zpN (n:Nat)(R:KZ)(j:D):Sp:=λi H Q _=>∃ x b q d F w h f c e g a,i=.ref x::d/\zN F H/\W7 F H x b q w h f/\AtL F c d/\c.length+1=n/\R (some (x,b,q)) w h f c=some (e,g,⟨some (x,b,q),a⟩) /\
 ∀ F' H' v,Gr F (off x q H) F' (off x q H')->W7 F' H' x b q e g a->At F' j v->Q v H'
def spK (n:Nat)(R:KF)(j:D):Sp:=λi H Q _=>∃ x g q c F w h e b d f a,i=.ref x::c/\zN F H/\W7 F H x g q w h e/\AtL F b c/\b.length+1=n/\R w h e b=some (d,f,a) /\
 ∀ F' H' v,Gr F (off x q H) F' (off x q H')->W7 F' H' x g q d f a->At F' j v->Q v H'
def zqd {P:zO}{w:World}{K:zu}{g:wc}{b:Heap}{f:Addr}{i:ww}{ps:zD}{k n:Nat}{CX:CXT}{R:KZ}{R':KF}{j:D}(F:xu P w K g b CX k f i ps (zpN n R j))(h:∀ z w h ps d c e a,R' w h ps d=some (c,e,a)->R z w h ps d=some (c,e,⟨z,a⟩)):xu P w K g b CX k f i ps (spK n R' j) :=
 F.imp λA H Q E ⟨x,t,q,m,F',w,e,ps,d,c,u,a,o,l,r,y,s,v,p⟩=>⟨x,t,q,m,F',w,e,ps,d,c,u,a,o,l,r,y,s,h _ _ _ _ _ _ _ _ v,p⟩
def zmu (n:Nat)(g:zz):KZ:=λz w h b a=>match g (.k w h ⟨z,b⟩::(a.map .v++List.replicate (n-(a.length+1)) .no)) with
 | .nx ρ=>(match (ρ:SE)[0]? with
  | some (Sl.k w' h' p')=>some (w',h',p')
  | _=>none)
 | _=>none
def SDk (X:Cx)(a:wN)(g:zz)(c:V):Prop:=∃ t,PSs X a t/\∀ (Fb Hb F H:Hp) (ρ:SE) (σ:L2.St) (E:Z7),Rl Fb Hb F H ρ σ->(match g ρ with
 | .nx d=>∀ F' H' b,Rl Fb Hb F' H' d b->E.rt c H'
 | _=>False)->t E σ H
def zmH:SDk X [.Return (some (.Constant (.str x) j pos')) pos] zE (.str x) :=
 ⟨_,xL (Yz zK),λFb Hb F H ρ σ E a k=>k F H σ a⟩
def XG {f:Stmt}{a:wN}{g:zz}(l:SD X f g)(i:SDk X a h c):SDk X (f::a) (zS g h) c:=by
 obtain⟨t,p,r⟩:=l
 obtain⟨u,q,n⟩:=i
 refine⟨_,zZ p q,λFb Hb F H ρ σ E j k=>?_⟩
 refine r Fb Hb F H ρ σ { E with nx:=u E } j ?_
 unfold zS at k
 cases e:g ρ with
 | nx m =>
  rw[e]at k
  exact λF' H' o b=>n Fb Hb F' H' m o E b k
 | rt d=>rw[e]at k;exact k.elim
 | bk d=>rw[e]at k;exact k.elim
 | ct d=>rw[e]at k;exact k.elim
 | no=>rw[e]at k;exact k.elim
section
variable {P:zO}{w:World}{K:zu}{mg:wc}{base:Heap}{x qual:Str}{st:Stmt}{f:Addr}{fd:ww}{N ps:zD}{k:Nat}{g:zz}
def zks {a:zw}(h:zpN n R c a H Q E):a.length=n:=by
 obtain⟨x,j,q,k,F,w,g,ps,r,o,l,e,rfl,i,f,d,b,m,p⟩:=h
 rw[o4,d.length]
 exact b
def zgk {Fb Hb:Hp}{x g:Addr}{f:D}{a:zg}(c:Rl F (off x q H) F' H' i r)(e:i[0]?=some (.k j f ⟨some (x,g,q),a⟩)):Gr F (off x q H) F' (off x q H')/\W7 F' H' x g q j f a:=by
 obtain⟨v,l,u,ex,d,t⟩:=c.desk e
 cases t _ rfl
 refine⟨⟨c.gr.ff,zN.offs c.gr.fh d.fx d.fq,λb o n h=>?_⟩,d⟩
 obtain⟨k,s⟩:=c.gr.kp b o n h
 obtain⟨m,p,_⟩:=wb h
 exact⟨k,by rw[Xn m p];exact s⟩
def zgC (Fu:Fun K x qual st f fd)(S:yz N ps (zk st))
 (u:∀ (a:Value) (A:zM) (outer:List Env) (s:zm) (H:Hp) (E:XK),yY k (A.deeper (PyProof.Rows.envOfC qual (zk st) s.heap.objs.size f a))->SDs (vi CX0 P w K mg base N qual (zk st) f a A outer s H E).nox (z7 st) g) :
 xu P w K mg base CX0 (k+1) f fd ps (zpN ps.length (zmu N.length g) .non):=by
 refine Fu.ok S (λv H Q E h=>zks h) λa A outer s H v Q E z h=>?_
 obtain⟨x,B,q,O,F,w,y,ps,c,R,U,G,rfl,i,o,D,I,e,l⟩:=h
 obtain⟨t,p,r⟩:=u a A outer s H E z
 refine⟨t,p,r F (off x q H) F H _ _ _ (zcs i o D) ?_⟩
 unfold zmu at e
 cases b:g (.k w y ⟨some (x,B,q),ps⟩::(c.map .v++List.replicate (N.length-(c.length+1)) .no)) with
 | nx ρ =>
  rw[b]at e
  dsimp only at e
  split at e
  .rename_i L J M m
   cases e
   intro F' H' T n
   obtain⟨j,C⟩:=zgk (Fb:=F) (Hb:=H) n m
   exact l F' H' _ j C .non
  .cases e
 | rt d=>rw[b]at e;cases e
 | bk ρ=>rw[b]at e;cases e
 | ct ρ=>rw[b]at e;cases e
 | no=>rw[b]at e;cases e
def zmg (Fu:Fun K x qual st f fd)(S:yz N ps (zk st))(u:∀ (a:Value) (A:zM) (outer:List Env) (s:zm) (H:Hp) (E:XK),yY k (A.deeper (PyProof.Rows.envOfC qual (zk st) s.heap.objs.size f a))->SDk (vi CX0 P w K mg base N qual (zk st) f a A outer s H E).nox (z7 st) g (.str y)) :
 xu P w K mg base CX0 (k+1) f fd ps (zpN ps.length (zmu N.length g) (.str y)):=by
 refine Fu.ok S (λv H Q E h=>zks h) λa A outer s H v Q E B h=>?_
 obtain⟨x,C,q,R,F,w,z,ps,c,T,V,I,rfl,i,o,G,J,e,l⟩:=h
 obtain⟨t,p,r⟩:=u a A outer s H E B
 refine⟨t,p,r F (off x q H) F H _ _ _ (zcs i o G) ?_⟩
 unfold zmu at e
 cases b:g (.k w z ⟨some (x,C,q),ps⟩::(c.map .v++List.replicate (N.length-(c.length+1)) .no)) with
 | nx ρ =>
  rw[b]at e
  dsimp only at e
  split at e
  .rename_i M L O m
   cases e
   intro F' H' U n
   obtain⟨j,D⟩:=zgk (Fb:=F) (Hb:=H) n m
   exact l F' H' _ j D .str
  .cases e
 | rt d=>rw[b]at e;cases e
 | bk ρ=>rw[b]at e;cases e
 | ct ρ=>rw[b]at e;cases e
 | no=>rw[b]at e;cases e
end
def KE (X:Cx)(e:Expr)(f:SE->Option (D × SE)):Prop:=∃ t,PE X e t/\∀ (Fb Hb F H:Hp) (ρ:SE) (σ:L2.St) (Q:VK) (d:D) (a:SE),Rl Fb Hb F H ρ σ->f ρ=some (d,a)->(∀ F' H' v,zN F F'->Rl Fb Hb F' H' a σ->At F' d v->Q v H')->t σ H Q
def kDo (i n:Nat)(R:KF)(a:D)(fa:yB):SE->Option (D × SE):=fun ρ=>match ρ[i]? with
 | some (.k w h ⟨z,ps⟩)=>(fa (visG ρ)).bind λds=>if zfD ds=true/\ds.length+1=n then (R w h ps ds).map λr=>(a,ρ.set i (.k r.1 r.2.1 ⟨z,r.2.2⟩))else none
 | _=>none
def zkc {t:TA}(N:C=KK.dk)(I:∀ l p q,(ZH l p q).lookup m=none)(T:RA t fa)(Fb Hb F H:Hp)(ρ:SE)(σ:L2.St)(Q:VK)(d:D)(o:SE)(a:Rl Fb Hb F H ρ σ)(h:kDo i n R y fa ρ=some (d,o))(k:∀ F' H' v,zN F F'->Rl Fb Hb F' H' o σ->At F' d v->Q v H'):zjU C m (spK n R y) [] E (xz i) t σ H Q:=by
 subst N
 unfold kDo at h
 split at h
 .rename_i w V z S j
  obtain⟨s,X,e⟩:=u4.mp h
  split at e <;> try cases e
  rename_i A
  obtain⟨⟨L,Y,f⟩,M,O⟩:=u9.mp e
  cases O
  obtain⟨x,u,q,ex,r,_⟩:=a.desk j
  obtain⟨l,p,Z,P,hq,_⟩:=r.ex
  refine⟨_,ex,x,u,_,rfl,P,I _ _ _,?_⟩
  refine T σ _ _ H s _ a.gh a.visG X λF1 H1 U K B=>?_
  obtain⟨c,G⟩:=a.back K
  have b:=r.grow c
  refine⟨x,u,q,U,_,w,V,S,s,L,Y,f,by rw[o5],c.fh,b,B.flat G A.1,A.2,M,λF' H' v g J W=>?_⟩
  exact k F' H' v (c.ff.trans g.ff) ((a.grow c).deed j ex b g J) W
 .cases h
section
variable {k n i:Nat}{g:Addr}{fd:ww}{ps:zD}{R:KF}{d0:D}
theorem zkW {pl:Sem Bool}(c:Cls X.K KK.dk)(x:zeK X.K KK.dk m g)(F:xu X.prog X.w X.K X.mg X.base CX0 k g fd ps (spK n R d0))(s:yY k X.A)(h:xh X.K fd ps [])(u:PE X o (xz i))(r:AD X (e::es) fa)
 (l:∀ v w q,(ZH v w q).lookup m=none:=by intros;rfl)
 (a:starEach (e::es) X.env=(false,eval e X.env)::starEach es X.env:=by rfl) (b:(backTo pos (starEach es X.env)).any (·.1)=false:=by rfl)
 (p:eval (.Call (.Attribute o m apos) (e::es) [] pos) X.env=(do
  let ov<-eval o X.env
  standAt apos.atName
  let (f,first)<-holding [ov] (getMethod ov m pl)
  callWith pos f first (backTo pos (starEach (e::es) X.env)) (backToKw pos (keywordEach [] X.env))):=by rfl) :
 KE X (.Call (.Attribute o m apos) (e::es) [] pos) (kDo i n R d0 fa):=by
 obtain⟨t,j,d⟩:=r
 exact⟨_,Wf (E:=λ_ _ _=>False) (pl:=pl) u c x F s h .nil Zq j a b p,zkc rfl l d⟩
def znE:RA we (λ_=>some []):=fun σ ρ F H b Q s a e q=>by
 cases e
 exact q F H [] (.refl s) .nil
theorem zl0 {pl:Sem Bool}(c:Cls X.K KK.dk)(p:zeK X.K KK.dk m g)(F:xu X.prog X.w X.K X.mg X.base CX0 k g fd ps (spK n R d0))(a:yY k X.A)(h:xh X.K fd ps [])(b:PE X o (xz i))
 (j:∀ d e q,(ZH d e q).lookup m=none:=by intros;rfl)
 (l:eval (.Call (.Attribute o m apos) [] [] pos) X.env=(do
  let ov<-eval o X.env
  standAt apos.atName
  let (f,first)<-holding [ov] (getMethod ov m pl)
  callWith pos f first (backTo pos (starEach [] X.env)) (backToKw pos (keywordEach [] X.env))):=by rfl) :
 KE X (.Call (.Attribute o m apos) [] [] pos) (kDo i n R d0 (λ_=>some [])) :=
 ⟨_,zdS (E:=λ_ _ _=>False) (pl:=pl) b c p F a h .nil Zq l,zkc rfl j znE⟩
end
def kEd (f:zJ):SE->Option (D × SE):=fun ρ=>(vEv true f ρ).map λd=>(d,ρ)
def zqm (h:ED X e f):KE X e (kEd f):=by
 obtain⟨t,p,r⟩:=h
 refine⟨t,p,λFb Hb F H ρ σ Q d l a e k=>?_⟩
 obtain⟨j,c,i⟩:=u9.mp e
 cases i
 exact r.at a c λF' H' v g b=>k F' H' v g.ff (a.grow g) b
def sKx (f:SE->Option (D × SE)):zz:=fun ρ=>match f ρ with
 | some (_,ρ')=>.nx ρ'
 | none=>.no
def zoT {f:SE->Option (D × SE)}(i:KE X e f)(b:swapsWith e none pos.line X.env=pure false:=by rfl):SD X (.Expr e pos) (sKx f):=by
 obtain⟨t,p,r⟩:=i
 refine⟨_,vZ p b,λFb Hb F H ρ σ E c k=>?_⟩
 unfold sKx at k
 split at k
 .rename_i d g h
  exact r Fb Hb F H ρ σ _ d g c h λF' H' v _ a _=>k F' H' σ a
 .exact k.elim
def sKs (i:Nat)(f:SE->Option (D × SE)):zz:=fun ρ=>match f ρ with
 | some (d,ρ')=>.nx (ρ'.set i (.v d))
 | none=>.no
def zp7 {i:Nat}{f:SE->Option (D × SE)}(j:X.N.Nodup)(o:X.N[i]?=some x)(m:Loc X.env.scope x)(q:KE X e f)(l:swapsWith e (some (.Name x pos')) pos.line X.env=pure false:=by rfl)(b:X.fn x=true\/X.env.scope.names.lookup x=some .local:=by first | exact .inl rfl | exact .inr rfl | assumption):SD X (.Assign [.Name x pos'] e pos) (sKs i f):=by
 obtain⟨t,p,r⟩:=q
 refine⟨_,wJ j o m p l b,λFb Hb F H ρ σ E c k=>?_⟩
 unfold sKs at k
 split at k
 .rename_i d g h
  exact r Fb Hb F H ρ σ _ d g c h λF' H' v _ a n=>k F' H' _ (a.set n)
 .exact k.elim
end
section
variable [KK]{X:Cx}{e1 e2 e3:Expr}{a1 a2 a3:Expr}{p1 p2 p3 pos pos1 pos2 pos3 pos':Pos}
def w0:D:=.tup [.int 1,.tup []]
def h0:D:=.tup [.int 0]
def spI:Sp:=λb H Q _=>∃ x a F,b=[.ref x]/\zN F H/\F x=none/\H x=some (.ins KK.dk a [])/\∀ F' H' q,H q=none->Gr F (off x q H) F' (off x q H')->W7 F' H' x a q w0 h0 []->Q .non H'
def SI (X:Cx) (a:wN):Prop:=∃ c d b,PSs X a (Vi (zpT X.K (xz 0) c "web") (Vi (zpT X.K (xz 0) d "heap") (zpT X.K (xz 0) b "past")))/\RE c (λ_=>some w0)/\RE d (λ_=>some h0)/\RF b (λ_=>some [])
def zp2 {f b:zJ}{c:yB}(l:ED X e1 f)(x:ED X e2 b)(i:FL X e3 c)(b1:PE X a1 (xz 0))(b2:PE X a2 (xz 0))(b3:PE X a3 (xz 0))(g:∀ ρ,f ρ=some w0)(k:∀ ρ,b ρ=some h0)(j:∀ ρ,c ρ=some [])
 (o:swapsWith e1 (some (.Attribute a1 "web" p1)) pos1.line X.env=pure false:=by rfl) (v:swapsWith e2 (some (.Attribute a2 "heap" p2)) pos2.line X.env=pure false:=by rfl) (u:swapsWith e3 (some (.Attribute a3 "past" p3)) pos3.line X.env=pure false:=by rfl) :
 SI X [.Assign [.Attribute a1 "web" p1] e1 pos1,.Assign [.Attribute a2 "heap" p2] e2 pos2,.Assign [.Attribute a3 "past" p3] e3 pos3]:=by
 obtain⟨t,q,p⟩:=l
 obtain⟨m,h,n⟩:=x
 obtain⟨y,r,w⟩:=i
 refine⟨t,m,y,zZ (zbw b1 q o) (zZ (zbw b2 h v) (xL (zbw b3 r u))),fun σ ρ F H d Q s a e=>?_,fun σ ρ F H d Q s a e=>?_,fun σ ρ F H d Q s a e=>?_⟩
 .exact p σ ρ F H d Q s a ((g ρ).trans e)
 .exact n σ ρ F H d Q s a ((k ρ).trans e)
 .exact w σ ρ F H d Q s a ((j ρ).trans e)
def kx {F H F' H':Hp}(g:Gr F H F' H')(d:F x=none)(c:H x=some (.ins KK.dk a b)):F' x=none/\H' x=some (.ins KK.dk a b):=g.kl (λ_ z=>by cases z) d c
def zpv {P:zO} {w:World} {K:zu} {T:wc} {j:Heap} {nm a:Str} {u:Stmt} {f:Addr} {W:ww} {k:Nat} (Fu:Fun K nm a u f W) (S:yz ["self"] ["self"] (zk u)) (c:DkC K KK.dk)
 (hb:∀ (g:Value) (A:zM) (outer:List Env) (s:zm) (H:Hp) (E:XK),yY k (A.deeper (PyProof.Rows.envOfC a (zk u) s.heap.objs.size f g))->SI (vi CX0 P w K T j ["self"] a (zk u) f g A outer s H E).nox (z7 u)) :
 xu P w K T j CX0 (k+1) f W ["self"] spI:=by
 refine Fu.ok S (λvs H Q E h=>?_) λg A outer s H vs Q E hr h=>?_
 .obtain⟨x,r,F,rfl,_⟩:=h
  rfl
 obtain⟨x,r,F,rfl,sm,Z,hx,Y⟩:=h
 obtain⟨t1,t2,t3,p,r1,r2,r3⟩:=hb g A outer s H E hr
 refine⟨_,p,?_⟩
 have J:∀ (G:Hp) (σ:L2.St),VAt G [] σ:=λG σ i d e=>by simp at e
 refine r1 _ [] F H w0 _ sm (J _ _) rfl λF1 H1 N t b1=>?_
 obtain⟨l,I⟩:=kx t Z hx
 refine⟨_,rfl,x,_,r,[],rfl,I,c.cl,c.nW,by decide,?_⟩
 have s1:zN F1 (upd H1 x (.ins KK.dk r (VV "web" N []))):=λb o e=>by
  rw[zf (ze e l)]
  exact t.fh b o e
 refine r2 _ [] F1 _ h0 _ s1 (J _ _) rfl λF2 H2 U n b2=>?_
 obtain⟨m,L⟩:=kx n l zd
 refine⟨_,rfl,x,_,r,_,rfl,L,c.cl,c.nH,by show 1<1000;decide,?_⟩
 have s2:zN F2 (upd H2 x (.ins KK.dk r (VV "heap" U (VV "web" N [])))):=λb o e=>by
  rw[zf (ze e m)]
  exact n.fh b o e
 refine r3 _ [] F2 _ [] _ s2 (J _ _) rfl λF3 H3 q xs B C X M al=>?_
 obtain⟨y,O⟩:=kx B m zd
 refine⟨_,rfl,x,_,r,_,rfl,O,c.cl,c.nP,by show 2<1000;decide,?_⟩
 have D:q≠x:=λz=>by
  rw[z,zd]at C
  cases C
 have R:H2 q=none:=by rw[zf D]at C;exact C
 have v:=zb2 n R
 have V:H1 q=none:=by rw[zf D]at v;exact v
 have q0:=zb2 t V
 have z2:F2 q=none:=n.fh.free R
 have z1:F1 q=none:=t.fh.free V
 have G1:=Gr.offs t l z1
 have G2:=Gr.offs n m z2
 have G3:=Gr.offs B y X
 rw[Zp]at G2 G3
 refine Y F3 _ q q0 ?_ ⟨⟨N,U,xs,zd,?_,b1.mono (n.ff.trans B.ff),b2.mono B.ff,al⟩,y,X⟩
 .rw[Zp]
  exact(G1.trans G2).trans G3
 .rw[zf D]
  exact M
def zmy (i:Nat):zz:=fun ρ=>if (ρ.set i .no).all (λs=>!s.isK)=true then .nx (ρ.set i (.k w0 h0 ⟨none,[]⟩))else .no
def Rl.newK {H:Hp}{ρ:SE}{σ:L2.St}{p:Addr}{w:D}(r:Rl Fb Hb F H ρ σ)(nk:(ρ.set i .no).all (λs=>!s.isK)=true)(L:H x=none)(h2:H p=none)(I:H q=none)(a0:p≠x)(hq:q≠p)(g:Gr F (off x q (upd (upd H p (.own x)) x (.ins KK.dk p []))) F' (off x q H'))(d:W7 F' H' x p q w h []):Rl Fb Hb F' H' (ρ.set i (.k w h ⟨none,[]⟩)) (σ.set i (some (.ref x))):=by
 obtain⟨Q,S,Y,N,K,a1,a2,a3⟩:=d.ex
 have A:∀ {b:Addr} {o:HO},H b=some o->off x q (upd (upd H p (.own x)) x (.ins KK.dk p [])) b=some o:=λ{b o} e=>by
  have M:=ze e L
  have n2:=ze e h2
  have n3:=ze e I
  rw[Xn M n3,zf M,zf n2]
  exact e
 have W:∀ {j:Nat} {s:Sl},j≠i->ρ[j]?=some s->s.isK=false:=λ{j s} c e=>by
  have:=m7.mp nk s (f8 (i:=j) (by rw[u6 (u0k c)];exact e))
  cases G:s.isK with
  | false=>rfl
  | true=>rw[G]at this;cases this
 have f:∀ {s:Sl},(ρ.set i (.k w h ⟨none,[]⟩))[i]?=some s->i<ρ.length/\s=.k w h ⟨none,[]⟩:=λ{s} h=>by
  rw[u0a]at h
  simp only[u2p]at h
  split at h
  .rename_i m
   cases h
   exact⟨m,rfl⟩
  .cases h
 have k:i<ρ.length->(σ.set i (some (V.ref x)))[i]?=some (some (.ref x)):=λm=>by
  rw[u0a]
  simp[<-r.len,m]
 have n:∀ {j:Nat} {s:Sl} {a:Addr},ρ[j]?=some s->s.isO=true->σ[j]?=some (some (.ref a))->a≠x/\a≠q:=λ{j s a} e1 e2 e3=>by
  obtain⟨a',o,U,_,_,O,_⟩:=r.ows j s e1 e2
  rw[e3]at U
  cases U
  exact⟨ze O L,ze O I⟩
 refine⟨⟨r.gr.ff.trans g.ff,zN.on g.fh,λb o e1 e2=>?_⟩,λj d' h=>?_,λj s h J=>?_,λj l a s t e1 e2 T R e3 u=>?_,by simp[r.len],λj w2 a4 a5 h=>?_⟩
 .obtain⟨E,k2⟩:=r.gr.kp b o e1 e2
  rcases E with E | ⟨E,k3⟩
  .obtain⟨C,B⟩:=g.kp b o E (A k2)
   exact⟨C,(wb B).2.2⟩
  .have y:=g.ff _ _ k3
   exact⟨.inr ⟨E,y⟩,zN.on g.fh _ _ y⟩
 .by_cases c:i=j
  .subst c
   cases (f h).2
  .rw[u6 c]at h ⊢
   obtain⟨v,C,B⟩:=r.vals j d' h
   exact⟨v,C,B.mono g.ff⟩
 .by_cases c:i=j
  .subst c
   obtain⟨m,rfl⟩:=f h
   exact⟨x,_,k m,r.notbase L,d.fx,N,p,Q,S,q,rfl,a1,a2⟩
  .rw[u6 c]at h ⊢
   obtain⟨a,o,C,B,y3,Z,P⟩:=r.ows j s h J
   obtain⟨u1,X⟩:=g.kl P.ntup y3 (A Z)
   exact⟨a,o,C,B,u1,(wb X).2.2,P.mono g.ff⟩
 .by_cases c:i=j
  .subst c
   by_cases m:i=l
   .exact m
   .obtain⟨z,_⟩:=f e1
    rw[k z]at e3
    cases e3
    rw[u6 m]at e2 u
    exact absurd rfl (n e2 R u).1
  .by_cases m:i=l
   .subst m
    obtain⟨z,_⟩:=f e2
    rw[k z]at u
    cases u
    rw[u6 c]at e1 e3
    exact absurd rfl (n e1 T e3).1
   .rw[u6 c]at e1 e3
    rw[u6 m]at e2 u
    exact r.dis j l a s t e1 e2 T R e3 u
 .by_cases c:i=j
  .subst c
   obtain⟨m,e⟩:=f h
   cases e
   refine⟨x,p,q,Q,S,Y,k m,N,r.notbase I,d.fq,K,a3,λj s h J=>?_,λj s h G=>?_,λ_ z=>by cases z⟩
   .by_cases c:i=j
    .subst c
     rw[k m]
     intro z
     cases z
     exact d.ne rfl
    .rw[u6 c]at h ⊢
     intro z
     exact(n h J z).2 rfl
   .by_cases c:i=j
    .exact c.symm
    .rw[u6 c]at h
     rw[W (u0k c) h]at G
     cases G
  .rw[u6 c]at h
   have:=W (u0k c) h
   cases this
def zmB {i k:Nat} {f:Addr} {pos2:Pos} (M:Mk X.K KK.dk f) (F:xu X.prog X.w X.K X.mg X.base CX0 k f v ["self"] spI) (L:yY (k+1) X.A) (C:Gl X h) (B:X.mg h=some (.ref KK.dk)) (A:xh X.K v ["self"] []) (G:X.N.Nodup) (K:X.N[i]?=some x) (y:Loc X.env.scope x) (I:swapsWith (.Call (.Name h u) [] [] pos2) (some (.Name x pos')) pos.line X.env=pure false:=by rfl) (D:X.fn x=true\/X.env.scope.names.lookup x=some .local:=by first | exact .inl rfl | exact .inr rfl | assumption) (p:(h == ("__debug__":Str))=false:=by decide):SD X (.Assign [.Name x pos'] (.Call (.Name h u) [] [] pos2) pos) (zmy i):=by
 refine⟨_,wJ G K y (V7 (E:=λ_ _ _=>False) M F L C B A .nil Zq p) I D,λFb Hb F H ρ σ E m j=>?_⟩
 unfold zmy at j
 split at j
 .rename_i J
  intro a l r s n
  have e1:zN F (upd (upd H l (.own a)) a (.ins KK.dk l [])):=λb o e=>by
   have z:=m.gr.fh b o e
   rw[zf (ze z r),zf (ze z s)]
   exact z
  refine⟨a,l,F,rfl,e1,m.gr.fh.free r,zd,λF' H' q c g d=>⟨rfl,?_⟩⟩
  have w:q≠a:=λz=>by rw[z,zd]at c;cases c
  rw[zf w]at c
  have t:q≠l:=λz=>by rw[z,zd]at c;cases c
  rw[zf t]at c
  exact j F' H' _ (m.newK J r s c n t g d)
 .exact j.elim
end
section
variable [KK]{X:Cx}{a b o e:Expr}{es:yX}{p apos pos pos' pos2:Pos}{f:zJ}{fa:yB}{m:Str}
abbrev KV:=D->D->zg->zg->Option (D × D × D × zg)
abbrev KVz:=Option (Addr × Addr × Addr)->D->D->zg->zg->Option (D × D × D × Pst)
def zol (n:Nat)(R:KVz):Sp:=λj H Q _=>∃ x b q e F w h g c d f i a,j=.ref x::e/\zN F H/\W7 F H x b q w h g/\AtL F c e/\c.length+1=n/\R (some (x,b,q)) w h g c=some (d,f,i,⟨some (x,b,q),a⟩) /\
 ∀ F' H' v,Gr F (off x q H) F' (off x q H')->W7 F' H' x b q f i a->At F' d v->Q v H'
def zla (n:Nat)(R:KV):Sp:=λj H Q _=>∃ x i q c F w h f b d e g a,j=.ref x::c/\zN F H/\W7 F H x i q w h f/\AtL F b c/\b.length+1=n/\R w h f b=some (d,e,g,a) /\
 ∀ F' H' v,Gr F (off x q H) F' (off x q H')->W7 F' H' x i q e g a->At F' d v->Q v H'
def zp8 {P:zO}{w:World}{K:zu}{i:wc}{b:Heap}{f:Addr}{j:ww}{ps:zD}{k n:Nat}{CX:CXT}{R:KVz}{R':KV}(F:xu P w K i b CX k f j ps (zol n R))(h:∀ z w h ps e d c g a,R' w h ps e=some (d,c,g,a)->R z w h ps e=some (d,c,g,⟨z,a⟩)):xu P w K i b CX k f j ps (zla n R') :=
 F.imp λA H Q E ⟨x,t,q,m,F',w,g,ps,e,d,c,u,a,o,l,r,y,s,v,p⟩=>⟨x,t,q,m,F',w,g,ps,e,d,c,u,a,o,l,r,y,s,h _ _ _ _ _ _ _ _ _ v,p⟩
def SDv (X:Cx)(a:wN)(g:zz)(e:SE->Option D):Prop:=∃ t,PSs X a t/\∀ (Fb Hb F H:Hp) (ρ:SE) (σ:L2.St) (E:Z7),Rl Fb Hb F H ρ σ->(match g ρ with
 | .nx b=>∃ d,e b=some d/\∀ F' H' c v,Rl Fb Hb F' H' b c->At F' d v->E.rt v H'
 | _=>False)->t E σ H
def zlN (h:ED X e f):SDv X [.Return (some e) pos] zE (vEv true f):=by
 obtain⟨t,p,r⟩:=h
 refine⟨_,xL (Yz p),λFb Hb F H ρ σ E a k=>?_⟩
 obtain⟨d,c,k⟩:=k
 exact r.at a c λF' H' v g b=>k F' H' σ v (a.grow g) b
def zi4 {a:wN}{g:zz}{f:SE->Option D}(l:SD X c g)(i:SDv X a h f):SDv X (c::a) (zS g h) f:=by
 obtain⟨t,p,r⟩:=l
 obtain⟨u,q,n⟩:=i
 refine⟨_,zZ p q,λFb Hb F H ρ σ E j k=>?_⟩
 refine r Fb Hb F H ρ σ { E with nx:=u E } j ?_
 unfold zS at k
 cases e:g ρ with
 | nx m =>
  rw[e]at k
  exact λF' H' o b=>n Fb Hb F' H' m o E b k
 | rt d=>rw[e]at k;exact k.elim
 | bk d=>rw[e]at k;exact k.elim
 | ct d=>rw[e]at k;exact k.elim
 | no=>rw[e]at k;exact k.elim
def zlb (n:Nat)(g:zz)(b:SE->Option D):KVz:=λz w h c a=>match g (.k w h ⟨z,c⟩::(a.map .v++List.replicate (n-(a.length+1)) .no)) with
 | .nx ρ=>(match (ρ:SE)[0]?,b ρ with
  | some (Sl.k w' h' p'),some d=>some (d,w',h',p')
  | _,_=>none)
 | _=>none
def zlF {P:zO}{w:World}{K:zu}{o:wc}{c:Heap}{x a:Str}{j:Stmt}{f:Addr}{u:ww}{N ps:zD}{k:Nat}{g:zz}{fv:SE->Option D}(Fu:Fun K x a j f u)(S:yz N ps (zk j))
 (T:∀ (b:Value) (A:zM) (outer:List Env) (s:zm) (H:Hp) (E:XK),yY k (A.deeper (PyProof.Rows.envOfC a (zk j) s.heap.objs.size f b))->SDv (vi CX0 P w K o c N a (zk j) f b A outer s H E).nox (z7 j) g fv) :
 xu P w K o c CX0 (k+1) f u ps (zol ps.length (zlb N.length g fv)):=by
 refine Fu.ok S (λU H Q E h=>?_) λb A outer s H U Q E X h=>?_
 .obtain⟨x,y,q,J,F,w,n,ps,l,d,O,Y,m,rfl,B,h4,h5,R,h7,h8⟩:=h
  rw[o4,h5.length]
  exact R
 obtain⟨x,y,q,J,F,w,n,ps,l,d,O,Y,m,rfl,z,M,al,hl,e,C⟩:=h
 obtain⟨t,p,r⟩:=T b A outer s H E X
 refine⟨t,p,r F (off x q H) F H _ _ _ (zcs z M al) ?_⟩
 unfold zlb at e
 cases i:g (.k w n ⟨some (x,y,q),ps⟩::(l.map .v++List.replicate (N.length-(l.length+1)) .no)) with
 | nx ρ =>
  rw[i]at e
  dsimp only at e
  split at e
  .rename_i w2 B p' d' I W
   cases e
   refine⟨d,W,λF' H' σ' v L V=>?_⟩
   obtain⟨G,Z⟩:=zgk (Fb:=F) (Hb:=H) L I
   exact C F' H' v G Z V
  .cases e
 | rt d=>rw[i]at e;cases e
 | bk ρ=>rw[i]at e;cases e
 | ct ρ=>rw[i]at e;cases e
 | no=>rw[i]at e;cases e
def zlG (i n:Nat)(R:KV)(fa:yB):SE->Option (D × SE):=fun ρ=>match ρ[i]? with
 | some (.k w h ⟨z,ps⟩)=>(fa (visG ρ)).bind λa=>if zfD a=true/\a.length+1=n then (R w h ps a).map λr=>(r.1,ρ.set i (.k r.2.1 r.2.2.1 ⟨z,r.2.2.2⟩))else none
 | _=>none
def ziy {k:Nat} {g:Addr} (F:xu X.prog X.w X.K X.mg X.base CX0 k g y c (zla n R)) (hr:yY k X.A) (O:Gl X x) (N:X.mg x=some (.ref g)) (U:PySem.W.keepIn X.K (.ref g)=true) (G:xh X.K y c []) (D:PE X o (xz i)) (T:AD X es fa) (l:(x == ("__debug__":Str))=false:=by decide) (s:starEach (o::es) X.env=(false,eval o X.env)::starEach es X.env:=by rfl) (j:(backTo pos (starEach es X.env)).any (·.1)=false:=by rfl) :
 KE X (.Call (.Name x p) (o::es) [] pos) (zlG i n R fa):=by
 obtain⟨t,pa,ra⟩:=T
 refine⟨_,ZS (E:=λ_ _ _=>False) F hr O N U G .nil Zq (zl D pa s) l s j,λFb Hb F H ρ σ Q d ρ' a h k=>?_⟩
 unfold zlG at h
 split at h
 .rename_i w h' z c u
  obtain⟨r,K,f⟩:=u4.mp h
  split at f <;> try cases f
  rename_i A
  obtain⟨⟨d2,V,L,m⟩,W,Z⟩:=u9.mp f
  cases Z
  obtain⟨x,M,q,ex,Y,_⟩:=a.desk u
  refine⟨_,ex,?_⟩
  refine ra σ _ _ H r _ a.gh a.visG K λF1 H1 I C B=>?_
  obtain⟨e,P⟩:=a.back C
  have b:=Y.grow e
  refine⟨x,M,q,I,_,w,h',c,r,_,V,L,m,by rw[o5],e.fh,b,B.flat P A.1,A.2,W,λF' H' v g S J=>?_⟩
  exact k F' H' v (e.ff.trans g.ff) ((a.grow e).deed u ex b g S) J
 .cases h
def RK (t:TE)(f:SE->Option (D × SE)):Prop:=∀ (Fb Hb F H:Hp) (ρ:SE) (σ:L2.St) (Q:VK) (d:D) (a:SE),Rl Fb Hb F H ρ σ->f ρ=some (d,a)->(∀ F' H' v,zN F F'->Rl Fb Hb F' H' a σ->At F' d v->Q v H')->t σ H Q
def KT (X:Cx)(e:Expr)(f:SE->Option (D × SE)):Prop:=∃ t,PT X e (zew t)/\RK t f
section
variable {k n:Nat}{g:Addr}{fd:ww}{ps:zD}{sp:Sp}{E:XK}{cl:Nat->Addr}{r:zh4}
def ziC (a:zJ)(b:zaJ):zaJ:=fun ρ=>(a ρ).bind λd=>match d with
 | .obj _ _ _=>b ρ
 | _=>none
def zmV {pl:Sem Bool}(c:Cls X.K KK.dk)(P:zeK X.K KK.dk m g)(F:xu X.prog X.w X.K X.mg X.base CX0 k g fd ps sp)(N:yY k X.A)(J:xh X.K fd ps [])(C:ED X o f)(A:XA E cl X (e::es) h)(y:∀ l n q,(ZH l n q).lookup m=none:=by intros;rfl)(d:starEach (e::es) X.env=(false,eval e X.env)::starEach es X.env:=by rfl)(b:(backTo pos (starEach es X.env)).any (·.1)=false:=by rfl) (z:eval (.Call (.Attribute o m apos) (e::es) [] pos) X.env=(do
 let ov<-eval o X.env
 standAt apos.atName
 let (f,first)<-holding [ov] (getMethod ov m pl)
 callWith pos f first (backTo pos (starEach (e::es) X.env)) (backToKw pos (keywordEach [] X.env))):=by rfl) :
 XE E cl X (.Call (.Attribute o m apos) (e::es) [] pos) (ziC f h):=by
 obtain⟨V,D,L⟩:=C
 obtain⟨t,K,I⟩:=A
 refine⟨_,Wf (E:=λ_ _ _=>False) (pl:=pl) D c P F N J .nil Zq K d b z,fun σ ρ F0 H j Q s r e w=>?_⟩
 obtain⟨u,M,i⟩:=u4.mp e
 refine L σ ρ F0 H u _ s r M λF1 H1 v a x=>?_
 cases u with
 | obj U W G =>
  obtain⟨p,O,S,l,n,R,rfl,B,Z,T,Y,al⟩:=x.obj_inv
  refine⟨p,O,_,rfl,a.fh _ _ B,y _ _ _,?_⟩
  exact I σ ρ F1 H1 j _ a.fh (r.mono a.ff) i (w.grow a)
 | _=>cases i
theorem zle {pl:Sem Bool}(c:Cls X.K KK.dk)(R:zeK X.K KK.dk m g)(F:xu X.prog X.w X.K X.mg X.base (Air X.prog X.w) k g fd ps (spX cl n r))(G:wn (Air X.prog X.w) X E)(N:yY k X.A)(J:xh X.K fd ps [])(B:ED X o f)
 (y:∀ l t q,(ZH l t q).lookup m=none:=by intros;rfl)
 (z:eval (.Call (.Attribute o m apos) [] [] pos) X.env=(do
  let ov<-eval o X.env
  standAt apos.atName
  let (f,first)<-holding [ov] (getMethod ov m pl)
  callWith pos f first (backTo pos (starEach [] X.env)) (backToKw pos (keywordEach [] X.env))):=by rfl) :
 XE E cl X (.Call (.Attribute o m apos) [] [] pos) (znk n r f (λ_=>some [])):=by
 obtain⟨W,C,K⟩:=B
 refine⟨_,zdS (pl:=pl) C c R F N J .nil G z,fun σ ρ F0 H j Q s L e w=>?_⟩
 obtain⟨u,M,i⟩:=u4.mp e
 refine K σ ρ F0 H u _ s L M λF1 H1 v b h=>?_
 cases u with
 | obj D I d =>
  obtain⟨V,O,a⟩:=u4.mp i
  cases O
  split at a <;> try cases a
  rename_i x
  obtain⟨p,P,T,l,t,S,rfl,A,Z,U,Y,al⟩:=h.obj_inv
  refine⟨p,P,_,rfl,b.fh _ _ A,y _ _ _,?_⟩
  exact⟨[.obj D I d],j,F1,x,b.fh,.cons h .nil,a,w.grow b⟩
 | _=>cases i
end
end
def zdg [KK]{x1}(h:XA E cl X es fx):XE E cl X (.Tuple es x1 pos) fx:=by
 obtain⟨t,b,a⟩:=h
 exact⟨_,zdL b,fun σ ρ F H j Q s c e w=>a σ ρ F H j _ s c e w⟩
def zjb (i:Nat)(c:D->D->zg->zg->Bool)(a:yB)(f g:SE->Option (D × SE)):SE->Option (D × SE):=fun ρ=>if (match ρ[i]? with
 | some (.k w h p)=>(match a (visG ρ) with
  | some b=>c w h p.l b
  | none=>false)
 | _=>false)=true then f ρ else g ρ
def zoE [KK]{f g:SE->Option (D × SE)}(h1:KE X e f)(h2:KE X e g):KE X e (zjb i c fa f g):=by
 obtain⟨m,n,r⟩:=h1
 obtain⟨o,u,q⟩:=h2
 refine⟨fun σ H Q=>m σ H Q\/o σ H Q,λa s σ H Q I h=>h.elim (n a s σ H Q I) (u a s σ H Q I),λFb Hb F H ρ σ Q d j b h k=>?_⟩
 unfold zjb at h
 by_cases l:(match ρ[i]? with
  | some (.k w h p)=>(match fa (visG ρ) with
   | some t=>c w h p.l t
   | none=>false)
  | _=>false)=true
 .rw[t9 l]at h
  exact .inl (r Fb Hb F H ρ σ Q d j b h k)
 .rw[j5 l]at h
  exact .inr (q Fb Hb F H ρ σ Q d j b h k)
section
variable [KK]{X:Cx}{a e e1 e2:Expr}{pos pos' p:Pos}
def zjP (f:SE->Option (D × SE))(g:zJ):SE->Option (D × SE):=fun ρ=>(f ρ).bind λx=>(vEv true g x.2).map λd=>(.lst [x.1,d],x.2)
def zlk {f:SE->Option (D × SE)}{g:zJ}(p:KE X e1 f)(A:ED X e2 g)(i:starEach [e1,e2] X.env=(false,eval e1 X.env)::starEach [e2] X.env:=by rfl)(j:starEach [e2] X.env=(false,eval e2 X.env)::starEach [] X.env:=by rfl):KE X (.List [e1,e2] pos) (zjP f g):=by
 obtain⟨J,n,v⟩:=p
 obtain⟨G,w,s⟩:=A
 refine⟨_,vz (zl n (zl w zU j) i),λFb Hb F H ρ σ Q d E o e k=>?_⟩
 obtain⟨⟨C,y⟩,e1,e⟩:=u4.mp e
 obtain⟨I,z,m⟩:=u9.mp e
 cases m
 refine v Fb Hb F H ρ σ _ C y o e1 λF1 H1 x t a l=>?_
 refine s.at a z λF2 H2 u h r=>⟨m4 (yR (show 2<=1000 by decide)),λq B=>?_⟩
 have b:=a.grow h
 have c:=Gr.alloc b.gr.fh B (.lst [x,u])
 exact k _ _ _ ((t.trans h.ff).trans c.ff) (b.grow c) (.lst zd (.cons ((l.mono h.ff).mono c.ff) (.cons (r.mono c.ff) .nil)))
def ze4 (i:Nat)(f:SE->Option (D × SE)):zz:=fun ρ=>match ρ[i]?,f ρ with
 | some (.o _),some (d,ρ')=>(match ρ'[i]? with
  | some (.o ds)=>if decide (ds.length<sizeLine)=true then .nx (ρ'.set i (.o (ds++[d])))else .no
  | _=>.no)
 | _,_=>.no
def zmD {f:SE->Option (D × SE)} (z:PE X a (xz i)) (M:KE X e f) (x:∀ {o:TE} {t:TA},PE X a o->PA X [e] t->PE X (.Call (.Attribute a "append" p) [e] [] pos') (tBM X.K "list" vE o t)) (n:swapsWith (.Call (.Attribute a "append" p) [e] [] pos') none pos.line X.env=pure false:=by rfl) (J:starEach [e] X.env=(false,eval e X.env)::starEach [] X.env:=by rfl):SD X (.Expr (.Call (.Attribute a "append" p) [e] [] pos') pos) (ze4 i f):=by
 obtain⟨t,y,G⟩:=M
 refine⟨_,vZ (x z (zl y zU J)) n,λFb Hb F H ρ σ E r k=>?_⟩
 unfold ze4 at k
 split at k
 .rename_i j d C h0 B
  split at k
  .rename_i I u
   split at k
   .rename_i w
    obtain⟨q,A,l,O,P,L,Q⟩:=r.owns i j h0
    refine⟨_,l,.inl ⟨rfl,A,SqL.of L⟩,?_⟩
    refine G Fb Hb F H ρ σ _ d C r B λF' H' v s g K=>?_
    obtain⟨N,h,c,_,_,m,b⟩:=g.owns i I u
    rw[l]at c
    cases c
    refine⟨q,h,v,rfl,rfl,m,by rw[b.length];exact k8 w,?_⟩
    exact k _ _ σ (g.mutate u l (b.snoc K))
   .exact k.elim
  .exact k.elim
 .exact k.elim
end
section
variable [KK]
structure Hd (Fb Hb O F H:Hp):Prop where
 gr:Gr Fb Hb F H
 ob:∀ p o,O p=some o->Hb p=none/\F p=none/\H p=some o/\∀ xs,o≠.tup xs
variable {Fb Hb O F H F' H':Hp}
def Hd.notbase (h:Hd Fb Hb O F H)(e:H q=none):Hb q=none:=by
 cases z:Hb q with
 | none=>rfl
 | some o =>
  cases a:Fb q with
  | none=>rw[(h.gr.kp q o a z).2]at e;cases e
  | some u=>rw[h.gr.fh _ _ (h.gr.ff _ _ a)]at e;cases e
def Hd.grow (h:Hd Fb Hb O F H)(g:Gr F H F' H'):Hd Fb Hb O F' H' :=
 ⟨h.gr.trans g,λp o e=>by
  obtain⟨a,b,c,d⟩:=h.ob p o e
  obtain⟨x,y⟩:=g.kl d b c
  exact⟨a,x,y,d⟩⟩
def Hd.new (h:Hd Fb Hb O F H){p:Addr}(a:H p=none)(d:∀ f,o≠.tup f):Hd Fb Hb (upd O p o) F (upd H p o):=by
 refine⟨h.gr.trans (Gr.hide h.gr.fh a o),λb u e=>?_⟩
 by_cases c:b=p
 .subst c
  rw[zd]at e ⊢
  cases e
  exact⟨h.notbase a,h.gr.fh.free a,rfl,d⟩
 .rw[zf c]at e ⊢
  exact h.ob b u e
def Hd.put (h:Hd Fb Hb O F H){p:Addr}{f:HO}(k:O p=some o)(m:∀ n,f≠.tup n):Hd Fb Hb (upd O p f) F (upd H p f):=by
 obtain⟨a,b,c,d⟩:=h.ob p o k
 refine⟨⟨h.gr.ff,λq u e=>?_,λq u l i=>?_⟩,λq u e=>?_⟩
 .rw[zf (ze e b)]
  exact h.gr.fh q u e
 .obtain⟨j,r⟩:=h.gr.kp q u l i
  exact⟨j,by rw[zf (ze i a)];exact r⟩
 .by_cases g:q=p
  .subst g
   rw[zd]at e ⊢
   cases e
   exact⟨a,b,rfl,m⟩
  .rw[zf g]at e ⊢
   exact h.ob q u e
def Hd.fresh (h:Hd Fb Hb O F H){p:Addr}(a:H p=none)(e:O b=some o):b≠p:=ze (h.ob b o e).2.2.1 a
open Classical in
noncomputable def frz (O F:Hp):Hp:=λp=>match F p with
 | some o=>some o
 | none=>O p
def zjF {p:Addr}(h:F p=some o):frz O F p=some o:=by unfold frz;rw[h]
def Hd.frz_O (h:Hd Fb Hb O F H){p:Addr}(e:O p=some o):frz O F p=some o:=by
 unfold frz
 rw[(h.ob p o e).2.1]
 exact e
def Hd.freeze (h:Hd Fb Hb O F H):Gr Fb Hb (frz O F) H:=by
 refine⟨λp o e=>zjF (h.gr.ff p o e),λp o e=>?_,λp o g b=>?_⟩
 .unfold frz at e
  split at e
  .rename_i u d
   cases e
   exact h.gr.fh p _ d
  .exact(h.ob p o e).2.2.1
 .obtain⟨a,f⟩:=h.gr.kp p o g b
  refine⟨?_,f⟩
  rcases a with a | ⟨a,c⟩
  .refine .inl ?_
   unfold frz
   rw[a]
   cases z:O p with
   | none=>rfl
   | some u=>rw[(h.ob p u z).1]at b;cases b
  .exact .inr ⟨a,zjF c⟩
variable {x dx q:Addr}{c:D × D × zg}
def DkO (O F:Hp)(x dx q:Addr)(c:D × D × zg):Prop:=∃ b d a,O x=some (.ins KK.dk dx (ZH b d q))/\O q=some (.lst a)/\At F c.1 b/\At F c.2.1 d/\AtL F c.2.2 a
def Hd.dk (h:Hd Fb Hb O F H)(d:DkO O F x dx q c):W7 F H x dx q c.1 c.2.1 c.2.2:=by
 obtain⟨g,m,e,l,a,k,n,f⟩:=d
 obtain⟨_,b,o,_⟩:=h.ob _ _ l
 obtain⟨_,j,i,_⟩:=h.ob _ _ a
 exact⟨⟨g,m,e,o,i,k,n,f⟩,b,j⟩
def Hd.deed {K P:HO}{r t:D}{c:zg}(h:Hd Fb Hb O F H)(s:O x=some K)(u:O q=some P)(g:Gr F (off x q H) F' (off x q H'))(d:W7 F' H' x dx q r t c) :
 ∃ i j f,Hd Fb Hb (upd (upd O x (.ins KK.dk dx (ZH i j q))) q (.lst f)) F' H'/\At F' r i/\At F' t j/\AtL F' c f:=by
 obtain⟨i,j,f,M,B,v,C,J⟩:=d.ex
 refine⟨i,j,f,⟨⟨h.gr.ff.trans g.ff,zN.on g.fh,λb o I l=>?_⟩,λb o e=>?_⟩,v,C,J⟩
 .obtain⟨a,m⟩:=h.gr.kp b o I l
  rcases a with a | ⟨a,k⟩
  .have G:b≠x:=ze l (h.ob _ _ s).1
   have A:b≠q:=ze l (h.ob _ _ u).1
   obtain⟨E,N⟩:=g.kp b o a (by rw[Xn G A];exact m)
   exact⟨E,(wb N).2.2⟩
  .have y:=g.ff _ _ k
   exact⟨.inr ⟨a,y⟩,zN.on g.fh _ _ y⟩
 .by_cases n:b=q
  .subst n
   rw[zd]at e
   cases e
   exact⟨(h.ob _ _ u).1,d.fq,B,λ_ z=>by cases z⟩
  .rw[zf n]at e
   by_cases hb2:b=x
   .subst hb2
    rw[zd]at e
    cases e
    exact⟨(h.ob _ _ s).1,d.fx,M,λ_ z=>by cases z⟩
   .rw[zf hb2]at e
    obtain⟨a,m,k,p⟩:=h.ob b o e
    obtain⟨L,w⟩:=g.kl p m (by rw[Xn hb2 n];exact k)
    exact⟨a,L,(wb w).2.2,p⟩
def WP {α:Type}(f:Nat->α)(i:Nat)(v:α):Nat->α:=λj=>if j=i then v else f j
omit [KK] in
def y9 {α:Type}{f:Nat->α}{v:α}:WP f i v i=v:=t9 rfl
omit [KK] in
def ZU {α:Type}{f:Nat->α}{i j:Nat}{v:α}(h:j≠i):WP f i v j=f j:=j5 h
structure St2 (O F:Hp) (ad dx:Nat->Addr) (c:Nat->D × D × zg) (Rs As:Nat->zg):Prop where
 inj:∀ i j,i<11->j<11->ad i=ad j->i=j
 hD:O (ad 4)=some (.lst [.ref (ad 0),.ref (ad 2)])
 hR:O (ad 7)=some (.lst [.ref (ad 5),.ref (ad 6)])
 hS:O (ad 10)=some (.lst [.ref (ad 8),.ref (ad 9)])
 dk:∀ i,i<2->DkO O F (ad (2*i)) (dx i) (ad (2*i+1)) (c i)
 rw:∀ i,i<2->∃ vs,O (ad (5+i))=some (.lst vs)/\AtL F (Rs i) vs
 an:∀ i,i<2->∃ vs,O (ad (8+i))=some (.lst vs)/\AtL F (As i) vs
variable {ad dxs:Nat->Addr}{cs:Nat->D × D × zg}{Rs As:Nat->zg}
def DkO.mono (d:DkO O F x dx q c)(s:zN F F'):DkO O F' x dx q c:=by
 obtain⟨f,i,b,h,a,g,j,e⟩:=d
 exact⟨f,i,b,h,a,g.mono s,j.mono s,e.mono s⟩
def DkO.upd {p:Addr}(d:DkO O F x dx q c)(j:x≠p)(b:q≠p):DkO (L2.upd O p o) F x dx q c:=by
 obtain⟨g,i,f,h,e,a⟩:=d
 exact⟨g,i,f,by rw[zf j];exact h,by rw[zf b];exact e,a⟩
def St2.mono (s:St2 O F ad dxs cs Rs As)(h:zN F F'):St2 O F' ad dxs cs Rs As :=
 ⟨s.inj,s.hD,s.hR,s.hS,λi c=>(s.dk i c).mono h,λi c=>let ⟨vs,a,b⟩:=s.rw i c;⟨vs,a,b.mono h⟩,λi c=>let ⟨vs,a,b⟩:=s.an i c;⟨vs,a,b.mono h⟩⟩
def St2.ne (s:St2 O F ad dxs cs Rs As){i j:Nat}(a:i<11)(b:j<11)(h:i≠j):ad i≠ad j:=λe=>h (s.inj i j a b e)
def St2.row {i:Nat}{k:zw}{d:D}(s:St2 O F ad dxs cs Rs As)(m:i<2)(e:O (ad (5+i))=some (.lst k))(l:At F d v):St2 (upd O (ad (5+i)) (.lst (k++[v]))) F ad dxs cs (WP Rs i (Rs i++[d])) As:=by
 have b:∀ {j:Nat},j<11->j≠5+i->ad j≠ad (5+i):=λa h=>s.ne a (by omega) h
 refine⟨s.inj,by rw[zf (b (by omega) (by omega))];exact s.hD,by rw[zf (b (by omega) (by omega))];exact s.hR,by rw[zf (b (by omega) (by omega))];exact s.hS,λj a=>(s.dk j a).upd (b (by omega) (by omega)) (b (by omega) (by omega)),λj a=>?_,λj a=>?_⟩
 .by_cases h:j=i
  .subst h
   obtain⟨g,c,f⟩:=s.rw j a
   rw[e]at c
   cases c
   exact⟨_,zd,by rw[y9];exact f.snoc l⟩
  .obtain⟨g,c,f⟩:=s.rw j a
   exact⟨g,by rw[zf (b (by omega) (by omega))];exact c,by rw[ZU h];exact f⟩
 .obtain⟨g,c,f⟩:=s.an j a
  exact⟨g,by rw[zf (b (by omega) (by omega))];exact c,f⟩
def St2.ans {i:Nat}{k:zw}{d:D}(s:St2 O F ad dxs cs Rs As)(m:i<2)(e:O (ad (8+i))=some (.lst k))(l:At F d v):St2 (upd O (ad (8+i)) (.lst (k++[v]))) F ad dxs cs Rs (WP As i (As i++[d])):=by
 have b:∀ {j:Nat},j<11->j≠8+i->ad j≠ad (8+i):=λa h=>s.ne a (by omega) h
 refine⟨s.inj,by rw[zf (b (by omega) (by omega))];exact s.hD,by rw[zf (b (by omega) (by omega))];exact s.hR,by rw[zf (b (by omega) (by omega))];exact s.hS,λj a=>(s.dk j a).upd (b (by omega) (by omega)) (b (by omega) (by omega)),λj a=>?_,λj a=>?_⟩
 .obtain⟨g,c,f⟩:=s.rw j a
  exact⟨g,by rw[zf (b (by omega) (by omega))];exact c,f⟩
 .by_cases h:j=i
  .subst h
   obtain⟨g,c,f⟩:=s.an j a
   rw[e]at c
   cases c
   exact⟨_,zd,by rw[y9];exact f.snoc l⟩
  .obtain⟨g,c,f⟩:=s.an j a
   exact⟨g,by rw[zf (b (by omega) (by omega))];exact c,by rw[ZU h];exact f⟩
def St2.deed {i:Nat}{f:V}{d:zw}(s:St2 O F ad dxs cs Rs As)(r:i<2)(l:zN F F')(n:At F' c'.1 e)(q:At F' c'.2.1 f)(m:AtL F' c'.2.2 d) :
 St2 (upd (upd O (ad (2*i)) (.ins KK.dk (dxs i) (ZH e f (ad (2*i+1))))) (ad (2*i+1)) (.lst d)) F' ad dxs (WP cs i c') Rs As:=by
 have s:=s.mono l
 have g:∀ {j:Nat},j<11->j≠2*i->ad j≠ad (2*i):=λb h=>s.ne b (by omega) h
 have c:∀ {j:Nat},j<11->j≠2*i+1->ad j≠ad (2*i+1):=λb h=>s.ne b (by omega) h
 have a:∀ {j:Nat},j<11->j≠2*i->j≠2*i+1->upd (upd O (ad (2*i)) (.ins KK.dk (dxs i) (ZH e f (ad (2*i+1))))) (ad (2*i+1)) (.lst d) (ad j)=O (ad j):=λk p o=>by rw[zf (c k o),zf (g k p)]
 refine⟨s.inj,by rw[a (by omega) (by omega) (by omega)];exact s.hD,by rw[a (by omega) (by omega) (by omega)];exact s.hR,by rw[a (by omega) (by omega) (by omega)];exact s.hS,λj b=>?_,λj b=>?_,λj b=>?_⟩
 .by_cases h:j=i
  .subst h
   rw[y9]
   exact⟨e,f,d,by rw[zf (c (by omega) (by omega)),zd],zd,n,q,m⟩
  .rw[ZU h]
   exact((s.dk j b).upd (g (by omega) (by omega)) (g (by omega) (by omega))).upd (c (by omega) (by omega)) (c (by omega) (by omega))
 .rw[a (by omega) (by omega) (by omega)]
  exact s.rw j b
 .rw[a (by omega) (by omega) (by omega)]
  exact s.an j b
end
section
variable [KK]{K:zu}{Fb Hb O F H:Hp}{σ:L2.St}{Q:VK}
def zgS {a i:Nat}{p:Addr}(f:Nat->Addr)(e:σ[a]?=some (some (.ref p)))(d:σ[5]?=some (some (.int (i:Nat))))(b:i<2)(c:H p=some (.lst [.ref (f 0),.ref (f 1)]))(k:Q (.ref (f i)) H):tOp (zdX K) (xz a) (xz 5) σ H Q:=by
 refine⟨_,e,_,d,p,_,_,_,rfl,rfl,SqL.of c,?_,k⟩
 match i,b with
 | 0,_=>rfl
 | 1,_=>rfl
def Ext (O O':Hp):Prop:=∀ b o,O b=some o->O' b=some o
def Ext.trans (a:Ext O1 O2)(b:Ext O2 O3):Ext O1 O3:=λp o e=>b p o (a p o e)
def DkO.ext (d:DkO O F x b q c)(h:Ext O O'):DkO O' F x b q c:=by
 obtain⟨g,j,f,i,e,a⟩:=d
 exact⟨g,j,f,h _ _ i,h _ _ e,a⟩
def Hd.non (h:Hd Fb Hb O F H){p:Addr}(a:H p=none):O p=none:=by
 cases z:O p with
 | none=>rfl
 | some o=>rw[(h.ob p o z).2.2.1]at a;cases a
def Hd.lst (h:Hd Fb Hb O F H){p:Addr}{xs:zw}(a:H p=none):Hd Fb Hb (upd O p (.lst xs)) F (upd H p (.lst xs))/\Ext O (upd O p (.lst xs))/\O p=none:=by
 refine⟨h.new a λ_ z=>?_,λb o e=>?_,h.non a⟩
 .cases z
 .rw[zf (h.fresh a e)];exact e
def znr (h:Hd Fb Hb O F H)(k:∀ O' x a q F' H',Ext O O'->O x=none->O q=none->x≠q->zN F F'->Hd Fb Hb O' F' H'->DkO O' F' x a q (w0,h0,[])->Q (.ref x) H'):zbO KK.dk spI [] E we σ H Q:=by
 intro x a f m j
 have t:zN F (upd (upd H a (.own x)) x (.ins KK.dk a [])):=λb o e=>by
  have z:=h.gr.fh b o e
  rw[zf (ze z f),zf (ze z m)]
  exact z
 refine⟨x,a,F,rfl,t,h.gr.fh.free f,zd,λF' H' q c g d=>⟨rfl,?_⟩⟩
 have i:q≠x:=λz=>by rw[z,zd]at c;cases c
 have l:=c
 rw[zf i]at c
 have w:q≠a:=λz=>by rw[z,zd]at c;cases c
 rw[zf w]at c
 have r:Hd Fb Hb O F (upd H a (.own x)):=h.grow (Gr.hide h.gr.fh m _)
 have D:=r.new (p:=x) (o:=.ins KK.dk a []) (by rw[zf (u0k j)];exact f) λ_ z=>by cases z
 have v:=D.new (p:=q) (o:=.lst []) l λ_ z=>by cases z
 obtain⟨A,C,y,u,s,B,n⟩:=v.deed (x:=x) (q:=q) (dx:=a) (by rw[zf (u0k i),zd]) zd (by rw[WR];exact g) d
 refine k _ x a q F' H' (λb o e=>?_) (h.non f) (h.non c) (u0k i) g.ff u ⟨A,C,y,by rw[zf (u0k i),zd],zd,s,B,n⟩
 have b1:=h.fresh f e
 have b2:=h.fresh c e
 rw[zf b2,zf b1,zf b2,zf b1]
 exact e
structure zki (O:Hp) (L:xX):Prop where
 nd:L.Nodup
 so:∀ p∈L,O p≠none
def zki.snoc {O':Hp}{p:Addr}(h:zki O L)(e:Ext O O')(n:O p=none)(s:O' p=some o):zki O' (L++[p]):=by
 have keep:∀ b∈L,O' b≠none:=λb c=>by
  cases z:O b with
  | none=>exact absurd z (h.so b c)
  | some u=>rw[e b u z];exact λy=>by cases y
 refine⟨?_,λb c=>?_⟩
 .rw[u0J]
  exact⟨h.nd,u0f _ _,λa d b c z=>h.so a d (by rw[z,t8.mp c];exact n)⟩
 .rcases i8.mp c with c | c
  .exact keep b c
  .rw[t8.mp c,s]
   exact λy=>by cases y
structure Sg (σ:L2.St) (ad:Nat->Addr):Prop where
 s1:σ[1]?=some (some (.ref (ad 4)))
 s2:σ[2]?=some (some (.ref (ad 7)))
 s3:σ[3]?=some (some (.ref (ad 10)))
 ln:σ.length=11
def Sg.set {i:Nat}(h:Sg σ a)(b:4<=i):Sg (σ.set i v) a :=
 ⟨by rw[u6 (by omega)];exact h.s1,by rw[u6 (by omega)];exact h.s2,by rw[u6 (by omega)];exact h.s3,by rw[u0e];exact h.ln⟩
def zld {E0:XK}{u:TS}(h:Hd Fb Hb (λ_=>none) F H)(hl:σ.length=11)(k:∀ ad dx O F' H' T,zN F F'->Hd Fb Hb O F' H'->St2 O F' ad dx (λ_=>(w0,h0,[])) (λ_=>[]) (λ_=>[])->Sg T ad->T[0]?=σ[0]?->u E T H') :
 Vi (XF (ZI (yc (zbO KK.dk spI [] E0 we) (yc (zbO KK.dk spI [] E0 we) we))) (xG 1)) (Vi (XF (ZI (yc (ZI we) (yc (ZI we) we))) (xG 2)) (Vi (XF (ZI (yc (ZI we) (yc (ZI we) we))) (xG 3)) u)) E σ H:=by
 have g:∀ n:Nat,n<=2->n<=sizeLine:=λn hn=>m4 (yR (by omega))
 have o0:zki (λ_=>none) []:=⟨List.nodup_nil,λ_ h=>by cases h⟩
 dsimp only[Vi,XF,ZI,yc,we,xG]
 refine znr h λO1 d V o F1 H1 e1 U a7 P s1 h1 d0=>?_
 refine znr h1 λO2 q L A F2 H2 e2 a3 Z Q s2 h2 d1=>⟨g _ (t6 _),λG hD=>?_⟩
 obtain⟨h3,e3,n3⟩:=h2.lst (xs:=[.ref d,.ref q]) hD
 refine⟨g _ (p9 _),λx a4=>?_⟩
 obtain⟨h4,K,n4⟩:=h3.lst (xs:=[]) a4
 refine⟨g _ (p9 _),λv W=>?_⟩
 obtain⟨h5,D,n5⟩:=h4.lst (xs:=[]) W
 refine⟨g _ (t6 _),λC hR=>?_⟩
 obtain⟨h6,B,n6⟩:=h5.lst (xs:=[.ref x,.ref v]) hR
 refine⟨g _ (p9 _),λw R=>?_⟩
 obtain⟨h7,s,n7⟩:=h6.lst (xs:=[]) R
 refine⟨g _ (p9 _),λt a2=>?_⟩
 obtain⟨h8,m,n8⟩:=h7.lst (xs:=[]) a2
 refine⟨g _ (t6 _),λI hS=>?_⟩
 obtain⟨h9,f,n9⟩:=h8.lst (xs:=[.ref w,.ref t]) hS
 obtain⟨_,_,_,a5,M,_⟩:=id d0
 obtain⟨_,_,_,S,Y,_⟩:=id d1
 have a6:∀ {O'':Hp},Ext O1 O''->True:=λ_=>trivial
 -- the addresses,each once
 have w1:zki O1 ([]++[d]):=o0.snoc e1 U a5
 have w2:zki O1 ([]++[d]++[o]):=by
  refine⟨?_,λp c=>?_⟩
  .rw[u0J]
   exact⟨w1.nd,u0f _ _,λa l b X z=>P (by rw[<-t8.mp l,z,t8.mp X])⟩
  .rcases i8.mp c with c | c
   .exact w1.so p c
   .rw[t8.mp c,M]
    exact λy=>by cases y
 have w3:zki O2 ([]++[d]++[o]++[q]):=w2.snoc e2 a3 S
 have w4:zki O2 ([]++[d]++[o]++[q]++[A]):=by
  refine⟨?_,λp c=>?_⟩
  .rw[u0J]
   refine⟨w3.nd,u0f _ _,λa l b X z=>?_⟩
   rw[t8.mp X]at z
   subst z
   rcases i8.mp l with l | l
   .exact w2.so a l Z
   .exact Q (t8.mp l).symm
  .rcases i8.mp c with c | c
   .exact w3.so p c
   .rw[t8.mp c,Y]
    exact λy=>by cases y
 have w5:=w4.snoc e3 n3 zd
 have w6:=w5.snoc K n4 zd
 have w7:=w6.snoc D n5 zd
 have w8:=w7.snoc B n6 zd
 have w9:=w8.snoc s n7 zd
 have N:=w9.snoc m n8 zd
 have J:=N.snoc f n9 zd
 have E3:=e3.trans (K.trans (D.trans (B.trans (s.trans (m.trans f)))))
 have E4:=K.trans (D.trans (B.trans (s.trans (m.trans f))))
 have E5:=D.trans (B.trans (s.trans (m.trans f)))
 have E6:=B.trans (s.trans (m.trans f))
 have E7:=s.trans (m.trans f)
 have E8:=m.trans f
 refine k (λi=>[d,o,q,A,G,x,v,C,w,t,I].getD i 0) (λi=>if i=0 then V else L) _ F2 _ _ (s1.trans s2) h9 ⟨λi j r hj e=>?_,E4 _ _ zd,E7 _ _ zd,zd,λi r=>?_,λi r=>?_,λi r=>?_⟩ ⟨?_,?_,?_,?_⟩ ?_
 .have nd:[d,o,q,A,G,x,v,C,w,t,I].Nodup:=J.nd
  rw[g8,g8,o6 (show i < [d,o,q,A,G,x,v,C,w,t,I].length from r),o6 (show j < [d,o,q,A,G,x,v,C,w,t,I].length from hj)]at e
  exact(List.getElem_inj nd).mp e
 .match i,r with
  | 0,_=>exact((d0.mono s2).ext (e2.trans E3))
  | 1,_=>exact(d1.ext E3)
 .match i,r with
  | 0,_=>exact⟨[],E5 _ _ zd,.nil⟩
  | 1,_=>exact⟨[],E6 _ _ zd,.nil⟩
 .match i,r with
  | 0,_=>exact⟨[],E8 _ _ zd,.nil⟩
  | 1,_=>exact⟨[],f _ _ zd,.nil⟩
 .rw[u6 (by decide),u6 (by decide),j8 (by omega)]
  rfl
 .rw[u6 (by decide),j8 (by rw[u0e];omega)]
  rfl
 .rw[j8 (by rw[u0e,u0e];omega)]
  rfl
 .rw[u0e,u0e,u0e]
  exact hl
 .rw[u6 (by decide),u6 (by decide),u6 (by decide)]
end
section
variable [KK]{Fb Hb O F H:Hp}{σ:L2.St}{Q:VK}
def wm:D->Bool
 | .str _=>true
 | .int _=>true
 | _=>false
def zjQ {F:Hp}{d:D}(h:wm d=true)(a:At F d v):At F' d v:=by
 cases d <;> first | (cases h;done) | (unfold At at a ⊢;exact a)
def vr:zN F (frz O F):=λ_ _ e=>zjF e
def zg6 {m:Nat}{p:xW}{ds:zg}{d:D}{f:zw}(h:Hd Fb Hb O F H)(a:AtL (frz O F) ds f)(w:ds.length=m)(e:p ds=some d)(l:wm d=true)(k:∀ H' v,Hd Fb Hb O F H'->At F d v->Q v H'):spD m p f H Q E:=by
 have b:=h.freeze
 refine⟨ds,d,frz O F,w,b.fh,a,e,λF' H' v g t=>k H' v ?_ (zjQ l t)⟩
 have keep:∀ p o,frz O F p=some o->H' p=some o:=λp o e=>g.fh p o (g.ff p o e)
 refine⟨⟨h.gr.ff,λp o e=>keep p o (zjF e),λp o s n=>?_⟩,λp o e=>?_⟩
 .obtain⟨r,c⟩:=h.gr.kp p o s n
  refine⟨r,?_⟩
  cases z:frz O F p with
  | none=>exact(g.kp p o z c).2
  | some u =>
   have y:=b.fh p u z
   rw[c]at y
   cases y
   exact keep p _ z
 .obtain⟨i,q,x,j⟩:=h.ob p o e
  exact⟨i,q,keep p o (h.frz_O e),j⟩
def zlP {n:Nat}{R:KV}{ds:zg}{d t:D}(h:Hd Fb Hb O F H)(w:DkO O F x u q c)(K:AtL F ds l)(z:ds.length+1=n)(e:R c.1 c.2.1 c.2.2 ds=some (d,r,t,a))(k:∀ F' H' v o p m,zN F F'->Hd Fb Hb (upd (upd O x (.ins KK.dk u (ZH o p q))) q (.lst m)) F' H'->At F' r o->At F' t p->AtL F' a m->At F' d v->Q v H'):zla n R (.ref x::l) H Q E:=by
 have i:=h.dk w
 obtain⟨o,p,m,A,J,_⟩:=w
 refine⟨x,u,q,l,F,c.1,c.2.1,c.2.2,ds,d,r,t,a,rfl,h.gr.fh,i,K,z,e,λF' H' v g s I=>?_⟩
 obtain⟨j,f,b,G,y,B,C⟩:=h.deed A J g s
 exact k F' H' v j f b g.ff G y B C I
def Hd.obj (h:Hd Fb Hb O F H)(d:DkO O F x a q c):At (frz O F) (.obj c.1 c.2.1 c.2.2) (.ref x):=by
 obtain⟨g,k,e,j,b,i,l,f⟩:=d
 unfold At
 exact⟨x,a,q,g,k,e,rfl,h.frz_O j,h.frz_O b,i.mono vr,l.mono vr,f.mono vr⟩
variable {ad dxs:Nat->Addr}{cs:Nat->D × D × zg}{Rs As:Nat->zg}
def zmd {K:zu}{E:Z7}{u:TS}{i:Nat}{d:D}{v:V}(h:Hd Fb Hb O F H)(s:St2 O F ad dxs cs Rs As)(g:Sg σ ad)(a:i<2)(o:σ[5]?=some (some (.int (i:Nat))))(b:σ[10]?=some (some v))(m:At F d v)(l:(Rs i).length<=1000)
 (k:∀ O' H',Hd Fb Hb O' F H'->St2 O' F ad dxs cs (WP Rs i (Rs i++[d])) As->u E σ H') :
 Vi (zcg (tBM K "list" vE (tOp (zdX K) (xz 2) (xz 5)) (yc (xz 10) we))) u E σ H:=by
 obtain⟨c,e,n⟩:=s.rw i a
 have f:=(h.ob _ _ e).2.2.1
 refine zgS (λj=>ad (5+j)) g.s2 o a (h.ob _ _ s.hR).2.2.1 ⟨.inl ⟨rfl,c,SqL.of f⟩,v,b,ad (5+i),c,v,rfl,rfl,f,?_,?_⟩
 .rw[n.length]
  exact yR l
 .exact k _ _ (h.put e λ_ z=>by cases z) (s.row a e m)
def WK (b:D->D->zg->zg->Bool)(a:KV)(e:xW)(c:D × D × zg)(r:D):Option (D × D × D × zg):=if b c.1 c.2.1 c.2.2 [r]=true then a c.1 c.2.1 c.2.2 [r]else (e [.obj c.1 c.2.1 c.2.2,r]).map λd=>(d,c)
omit [KK] in
def zmI {α:Type}{f:Nat->α}:WP f i (f i)=f:=by
 funext j
 unfold WP
 split
 .rename_i h
  rw[h]
 .rfl
def zgn (K:zu)(a:KV)(b:xW)(E1 E2:XK):TE:=fun σ H Q=>zfl (zla 2 a) [] E1 (yc (tOp (zdX K) (xz 1) (xz 5)) (yc (xz 10) we)) σ H Q\/zfl (spD 2 b) [] E2 (yc (tOp (zdX K) (xz 1) (xz 5)) (yc (xz 10) we)) σ H Q
def zm5 {K:zu}{i:Nat}{r d:D}{f:D × D × zg}{c:V}{x:D->D->zg->zg->Bool}{m:KV}{l:xW}{E1 E2:XK}(h:Hd Fb Hb O F H)(s:St2 O F ad dxs cs Rs As)(g:Sg σ ad)(a:i<2)(t:σ[5]?=some (some (.int (i:Nat))))(b:σ[10]?=some (some c))(q:At F r c)
 (e:WK x m l (cs i) r=some (d,f)) (A:wm d=true) (k:∀ O' F' H' v,zN F F'->Hd Fb Hb O' F' H'->St2 O' F' ad dxs (WP cs i f) Rs As->At F' d v->Q v H'):zgn K m l E1 E2 σ H Q:=by
 unfold WK at e
 split at e
 .refine .inl (zgS (λj=>ad (2*j)) g.s1 t a (h.ob _ _ s.hD).2.2.1 ⟨_,b,?_⟩)
  show zla 2 m (.ref (ad (2*i))::[c]) H Q E1
  exact zlP (ds:=[r]) h (s.dk i a) (.cons q .nil) rfl e λF' H' v G I E p n u y z o=>k _ F' H' v p n (s.deed (c':=f) a p u y z) o
 .obtain⟨C,B,w⟩:=u9.mp e
  cases w
  refine .inr (zgS (λj=>ad (2*j)) g.s1 t a (h.ob _ _ s.hD).2.2.1 ⟨_,b,?_⟩)
  show spD 2 l [.ref (ad (2*i)),c] H Q E2
  refine zg6 (ds:=[.obj (cs i).1 (cs i).2.1 (cs i).2.2,r]) h (.cons (h.obj (s.dk i a)) (.cons (q.mono vr) .nil)) rfl B A λH' v n o=>k O F H' v (zN.refl _) n ?_ o
  rw[zmI]
  exact s
def ziK (K:zu) (a:xW) (E3:XK):TE:=zjU KK.dk "say" (spD 2 a) [] E3 (tOp (zdX K) (xz 1) (xz 5)) (yc (tC (.str "shown")) we)
def zlr {K:zu}{i:Nat}{t:D}{a:xW}{E3:XK}(h:Hd Fb Hb O F H)(s:St2 O F ad dxs cs Rs As)(g:Sg σ ad)(b:i<2)(l:σ[5]?=some (some (.int (i:Nat))))
 (e:a [.obj (cs i).1 (cs i).2.1 (cs i).2.2,.str "shown"]=some t) (d:wm t=true) (k:∀ H' v,Hd Fb Hb O F H'->At F t v->Q v H'):ziK K a E3 σ H Q:=by
 have c:=s.dk i b
 obtain⟨o,p,n,f,m,_⟩:=id c
 refine zgS (λj=>ad (2*j)) g.s1 l b (h.ob _ _ s.hD).2.2.1 ⟨_,_,_,rfl,(h.ob _ _ f).2.2.1,rfl,?_⟩
 show spD 2 a [.ref (ad (2*i)),.str "shown"] H Q E3
 exact zg6 (ds:=[.obj (cs i).1 (cs i).2.1 (cs i).2.2,.str "shown"]) h (.cons (h.obj c) (.cons .str .nil)) rfl e d k
def zn2 {K:zu}{E:Z7}{i:Nat}{r d t:D}{c:D × D × zg}{w:V}{N:D->D->zg->zg->Bool}{u:KV}{p n:xW}{E1 E2 E3:XK}(h:Hd Fb Hb O F H)(s:St2 O F ad dxs cs Rs As)(g:Sg σ ad)(a:i<2)(m:σ[5]?=some (some (.int (i:Nat))))(l:σ[10]?=some (some w))(G:At F r w)
 (U:WK N u p (cs i) r=some (d,c)) (T:wm d=true) (M:n [.obj c.1 c.2.1 c.2.2,.str "shown"]=some t) (A:wm t=true) (J:(As i).length<=1000)
 (k:∀ O' F' H',zN F F'->Hd Fb Hb O' F' H'->St2 O' F' ad dxs (WP cs i c) Rs (WP As i (As i++[.lst [d,t]]))->E.nx σ H') :
 zcg (tBM K "list" vE (tOp (zdX K) (xz 3) (xz 5)) (yc (ZI (yc (zgn K u p E1 E2) (yc (ziK K n E3) we))) we)) E σ H:=by
 obtain⟨f,L,_⟩:=s.an i a
 refine zgS (λj=>ad (8+j)) g.s3 m a (h.ob _ _ s.hS).2.2.1 ⟨.inl ⟨rfl,f,SqL.of (h.ob _ _ L).2.2.1⟩,?_⟩
 refine zm5 h s g a m l G U T λO1 F1 H1 S Q P x B=>?_
 refine zlr (i:=i) P x g a m (by rw[y9];exact M) A λH2 R v C=>⟨m4 (yR (show 2<=1000 by decide)),λq W=>?_⟩
 have b:=Gr.alloc v.gr.fh W (.lst [S,R])
 have o:=v.grow b
 have y:=x.mono b.ff
 obtain⟨I,e,X⟩:=y.an i a
 refine⟨_,I,_,rfl,rfl,(o.ob _ _ e).2.2.1,by rw[X.length];exact yR J,?_⟩
 exact k _ _ _ (Q.trans b.ff) (o.put e λ_ z=>by cases z) (y.ans a e (.lst zd (.cons (B.mono b.ff) (.cons (C.mono b.ff) .nil))))
def VAt.put {ρ:Ev}{j:Nat}{d:D}(h:VAt F ρ σ)(b:j<σ.length)(i:At F d v):VAt F (ρ.set j (some d)) (σ.set j (some v)):=by
 intro k f e
 rw[u0a]at e
 split at e
 .rename_i a
  subst a
  split at e
  .cases e
   exact⟨v,j8 b,i⟩
  .cases e
 .rename_i a
  obtain⟨w,g,c⟩:=h k f e
  exact⟨w,by rw[u6 a];exact g,c⟩
def VI {f:zJ}{ρ:Ev}{j:Nat}{d:D}{u:TS}(r:RE i f)(h:Hd Fb Hb O F H)(s:St2 O F ad dxs cs Rs As)(g:Sg σ ad)(n:4<=j)(b:j<11)(l:VAt F ρ σ)(e:f ρ=some d)(k:∀ F' H' c,zN F F'->Hd Fb Hb O F' H'->St2 O F' ad dxs cs Rs As->Sg c ad->VAt F' (ρ.set j (some d)) c->u E c H'):Vi (XF i (xG j)) u E σ H :=
 r σ ρ F H d _ h.gr.fh l e λF' H' v a m=>k F' H' _ a.ff (h.grow a) (s.mono a.ff) (g.set n) ((l.mono a.ff).put (by rw[g.ln];exact b) m)
def zmS (z:Int):Ev:=[none,none,none,none,some (.int z),none,none,none,none,none,none]
def Six (f h j g k e:zJ)(z:Int)(i:Nat)(r:D):Prop:=∃ a b c d,f (zmS z)=some (.int (i:Nat))/\h ((zmS z).set 5 (some (.int (i:Nat))))=some a/\j (((zmS z).set 5 (some (.int (i:Nat)))).set 6 (some a))=some b/\g ((((zmS z).set 5 (some (.int (i:Nat)))).set 6 (some a)).set 7 (some b))=some c /\
 k (((((zmS z).set 5 (some (.int (i:Nat)))).set 6 (some a)).set 7 (some b)).set 8 (some c))=some d/\e ((((((zmS z).set 5 (some (.int (i:Nat)))).set 6 (some a)).set 7 (some b)).set 8 (some c)).set 9 (some d))=some r
abbrev zps (K:zu)(e c f a b d:TE)(i:KV)(h g:xW)(E1 E2 E3:XK):TS:=Vi (XF e (xG 5)) (Vi (XF c (xG 6)) (Vi (XF f (xG 7)) (Vi (XF a (xG 8)) (Vi (XF b (xG 9)) (Vi (XF d (xG 10))
 (Vi (zcg (tBM K "list" vE (tOp (zdX K) (xz 2) (xz 5)) (yc (xz 10) we))) (zcg (tBM K "list" vE (tOp (zdX K) (xz 3) (xz 5)) (yc (ZI (yc (zgn K i h E1 E2) (yc (ziK K g E3) we))) we)))))))))
variable {te1 te2 te3 te4 te5 te6:TE}{f1 f2 f3 f4 f5 f6:zJ}{cv:D->D->zg->zg->Bool}{qv:KV}{ps pd:xW}{E1 E2 E3:XK}
def zma {K:zu}{E:Z7}{z:Int}{i:Nat}{r d t:D}{c':D × D × zg}(L:RE te1 f1)(r2:RE te2 f2)(r3:RE te3 f3)(q:RE te4 f4)(r5:RE te5 f5)(r6:RE te6 f6)(h:Hd Fb Hb O F H)(s:St2 O F ad dxs cs Rs As)(g:Sg σ ad)(j:σ[4]?=some (some (.int z)))(S:Six f1 f2 f3 f4 f5 f6 z i r)(n:i<2)
 (e1:WK cv qv ps (cs i) r=some (d,c')) (fd:wm d=true) (Z:pd [.obj c'.1 c'.2.1 c'.2.2,.str "shown"]=some t) (p:wm t=true) (hr:(Rs i).length<=1000) (W:(As i).length<=1000)
 (k:∀ O' F' H' m,zN F F'->Hd Fb Hb O' F' H'->St2 O' F' ad dxs (WP cs i c') (WP Rs i (Rs i++[r])) (WP As i (As i++[.lst [d,t]]))->Sg m ad->E.nx m H'):zps K te1 te2 te3 te4 te5 te6 qv ps pd E1 E2 E3 E σ H:=by
 obtain⟨d6,d7,d8,d9,q1,x,q3,J,C,q6⟩:=S
 have va:VAt F (zmS z) σ:=by
  intro k d e
  match k,e with
  | 4,e=>cases e;exact⟨_,j,.int⟩
  | 0,e=>cases e
  | 1,e=>cases e
  | 2,e=>cases e
  | 3,e=>cases e
  | 5,e=>cases e
  | 6,e=>cases e
  | 7,e=>cases e
  | 8,e=>cases e
  | 9,e=>cases e
  | 10,e=>cases e
  | k+11,e=>cases e
 refine VI L h s g (by decide) (by decide) va q1 λF1 H1 σ1 P h1 s1 w v1=>?_
 refine VI r2 h1 s1 w (by decide) (by decide) v1 x λF2 H2 σ2 m2 Q s2 B v2=>?_
 refine VI r3 Q s2 B (by decide) (by decide) v2 q3 λF3 H3 σ3 Y y s3 A M=>?_
 refine VI q y s3 A (by decide) (by decide) M J λF4 H4 σ4 V j U R v4=>?_
 refine VI r5 j U R (by decide) (by decide) v4 C λF5 H5 σ5 G h5 N X u=>?_
 refine VI r6 h5 N X (by decide) (by decide) u q6 λF6 H6 I m6 h6 T l o=>?_
 obtain⟨w5,c,f⟩:=o 5 (.int (i:Nat)) rfl
 obtain⟨v,a,b⟩:=o 10 r rfl
 rw[f.int_inv]at c
 refine zmd h6 T l n c a b hr λO7 H7 h7 s7=>?_
 exact zn2 h7 s7 l n c a b e1 fd Z p W λO8 F8 H8 m8 h8 s8=>k O8 F8 H8 I ((((((P.trans m2).trans Y).trans V).trans G).trans m6).trans m8) h8 s8 l
def zod {K:zu}{E:Z7}{E0:XK}{Y:TI}{P:TE}{X:yB}{T:zJ}{ns zs:zy}{J:Nat->(Nat->D × D × zg)->(Nat->zg)->(Nat->zg)->Prop}
 (ri:RI Y X) (r1:RE te1 f1) (r2:RE te2 f2) (r3:RE te3 f3) (r4:RE te4 f4) (r5:RE te5 f5) (r6:RE te6 f6) (rr:RE P T)
 (hl:σ.length=11) (o:∃ v,σ[0]?=some (some v)/\At H (.scr ns) v) (hz:X [some (.scr ns)]=some (zs.map .int)) (j0:J 0 (λ_=>(w0,h0,[])) (λ_=>[]) (λ_=>[]))
 (js:∀ n z cs Rs As,zs[n]?=some z->J n cs Rs As->∃ i r d t b,Six f1 f2 f3 f4 f5 f6 z i r/\i<2/\WK cv qv ps (cs i) r=some (d,b)/\wm d=true/\pd [.obj b.1 b.2.1 b.2.2,.str "shown"]=some t/\wm t=true/\(Rs i).length<=1000/\(As i).length<=1000/\J (n+1) (WP cs i b) (WP Rs i (Rs i++[r])) (WP As i (As i++[.lst [d,t]])))
 (je:∀ cs Rs As,J zs.length cs Rs As->T [none,none,some (.lst [.lst (Rs 0),.lst (Rs 1)]),some (.lst [.lst (As 0),.lst (As 1)])]=some (.bl true)) (q:∀ H',E.rt (.bl true) H') :
 Vi (XF (ZI (yc (zbO KK.dk spI [] E0 we) (yc (zbO KK.dk spI [] E0 we) we))) (xG 1)) (Vi (XF (ZI (yc (ZI we) (yc (ZI we) we))) (xG 2)) (Vi (XF (ZI (yc (ZI we) (yc (ZI we) we))) (xG 3))
  (Vi (tFor Y (xG 4) (zps K te1 te2 te3 te4 te5 te6 qv ps pd E1 E2 E3)) (zpS P)))) E σ H:=by
 obtain⟨v0,e0,a0⟩:=o
 have hd:Hd H H (λ_=>none) H H:=⟨.refl (zN.refl _),λ_ _ e=>by cases e⟩
 refine zld hd hl λad dxs O F1 H1 Q m1 W s1 g1 e1=>?_
 have va:VAt F1 [some (.scr ns)] Q:=by
  intro k d e
  match k,e with
  | 0,e=>cases e;exact⟨v0,by rw[e1];exact e0,a0.mono m1⟩
  | k+1,e=>cases e
 refine ri Q [some (.scr ns)] F1 H1 (zs.map .int) _ W.gr.fh va hz λF2 H2 I V io=>?_
 have hn:(zs.map D.int).length=zs.length:=t4 ..
 refine⟨λn m σ Hh=>m=zs.length-n/\n<=zs.length/\∃ O F cs Rs As,zN F2 F/\Hd H H O F Hh/\St2 O F ad dxs cs Rs As/\Sg σ ad/\J n cs Rs As,⟨_,rfl,p9 _,O,F2,_,_,_,zN.refl _,W.grow V,s1.mono V.ff,g1,j0⟩,?_⟩
 rintro n m σ2 H3 ⟨rfl,a1,O3,F3,cs,Rs,As,U,a,c,l,Z⟩
 obtain⟨j,go⟩:=io n F3 H3 U a.gr.fh
 by_cases h:n<zs.length
 .have f:zs[n]?=some zs[n]:=o6 h
  obtain⟨i,r,d,t,b,S,hi,x1,x2,x3,x4,x5,x6,p⟩:=js n zs[n] cs Rs As f Z
  obtain⟨y1,y2⟩:=go (.int zs[n]) (by rw[r8,f];rfl)
  refine .inr ⟨y1,λR Hh=>∃ O F cs Rs As,zN F2 F/\Hd H H O F Hh/\St2 O F ad dxs cs Rs As/\Sg R ad/\J (n+1) cs Rs As,λR H' w=>⟨zs.length-(n+1),by omega,rfl,h,w⟩,λx H4 hy=>?_⟩
  obtain⟨F4,B,a4⟩:=y2 x H4 hy
  have h4:=a.grow B
  rw[a4.int_inv]
  refine zma (cv:=cv) (c':=b) r1 r2 r3 r4 r5 r6 h4 (c.mono B.ff) (l.set (i:=4) (by decide)) ?_ S hi x1 x2 x3 x4 x5 x6 λO5 F5 H5 σ5 m5 h5 s5 g5=>⟨O5,F5,_,_,_,(U.trans B.ff).trans m5,h5,s5,g5,p⟩
  exact j8 (by rw[l.ln];decide)
 .have G:n=zs.length:=by omega
  subst G
  refine .inl ⟨j hn.symm,?_⟩
  refine rr σ2 [none,none,some (.lst [.lst (Rs 0),.lst (Rs 1)]),some (.lst [.lst (As 0),.lst (As 1)])] (frz O3 F3) H3 (.bl true) _ a.freeze.fh ?_ (je cs Rs As Z) λF' H' v g av=>by rw[av.bl_inv];exact q H'
  intro k d e
  obtain⟨a3,M,L⟩:=c.rw 0 (by decide)
  obtain⟨a2,C,u⟩:=c.rw 1 (by decide)
  obtain⟨a6,N,y⟩:=c.an 0 (by decide)
  obtain⟨a5,A,s⟩:=c.an 1 (by decide)
  match k,e with
  | 2,e =>
   cases e
   exact⟨_,l.s2,.lst (a.frz_O c.hR) (.cons (.lst (a.frz_O M) (L.mono vr)) (.cons (.lst (a.frz_O C) (u.mono vr)) .nil))⟩
  | 3,e =>
   cases e
   exact⟨_,l.s3,.lst (a.frz_O c.hS) (.cons (.lst (a.frz_O N) (y.mono vr)) (.cons (.lst (a.frz_O A) (s.mono vr)) .nil))⟩
  | 0,e=>cases e
  | 1,e=>cases e
  | k+4,e=>cases e
end
section
variable [KK]{X:Cx}
def SA (X:Cx)(b:Stmt)(j:Nat)(f:zJ):Prop:=∃ a,PS X b (XF a (xG j))/\RE a f
def Vo {i:Nat}{b:Pos}{f:zJ}(j:X.N.Nodup)(c:X.N[i]?=some x)(g:Loc X.env.scope x)(h:ED X e f)(d:swapsWith e (some (.Name x a)) b.line X.env=pure false:=by rfl)(k:X.fn x=true\/X.env.scope.names.lookup x=some .local:=by first | exact .inl rfl | exact .inr rfl | assumption):SA X (.Assign [.Name x a] e b) i f:=by
 obtain⟨t,p,r⟩:=h
 exact⟨t,wJ j c g p d k,r⟩
def zlO {w:Nat} {g:Addr} {p d:Pos} (F1:xu X.prog X.w X.K X.mg X.base CX0 y g l j (zla 2 q)) (F2:xu X.prog X.w X.K X.mg X.base CX0 w g l j (spD 2 m)) (C:yY y X.A) (B:yY w X.A) (u:Gl X x) (t:X.mg x=some (.ref g)) (v:W.keepIn X.K (.ref g)=true) (n:xh X.K l j []) (A:PE X o (xz 1)) (G:PE X i (xz 5)) (F:Y9 i) (hw:PE X r (xz 10)) (c:(x == ("__debug__":Str))=false:=by decide) (k:starEach [.Subscript o i e,r] X.env=(false,eval (.Subscript o i e) X.env)::starEach [r] X.env:=by rfl) (f:starEach [r] X.env=(false,eval r X.env)::starEach [] X.env:=by rfl) (b:(backTo d (starEach [r] X.env)).any (·.1)=false:=by rfl) :
 PE X (.Call (.Name x p) [.Subscript o i e,r] [] d) (zgn X.K q m (λ_ _ _=>False) (λ_ _ _=>False)):=by
 have z:PA X [.Subscript o i e,r] (yc (tOp (zdX X.K) (xz 1) (xz 5)) (yc (xz 10) we)):=zl (zbR WS A G F) (zl hw zU f) k
 exact λa s σ H Q I h=>h.elim (ZS (E:=λ_ _ _=>False) F1 C u t v n .nil Zq z c k b a s σ H Q I) (ZS (E:=λ_ _ _=>False) F2 B u t v n .nil Zq z c k b a s σ H Q I)
variable {f1 f2 f3 f4 f5 f6:zJ}{cv:D->D->zg->zg->Bool}{qv:KV}{ps pd:xW}{E0 E1 E2 E3:XK}
def zk6 {f k:Expr} {p w:Stmt} {E:Z7} {σ:L2.St} {fi:yB} {fr:zJ} {zs:zy} {J:Nat->(Nat->D × D × zg)->(Nat->zg)->(Nat->zg)->Prop} (Z:PS X s (XF (ZI (yc (zbO KK.dk spI [] E0 we) (yc (zbO KK.dk spI [] E0 we) we))) (xG 1))) (p2:PS X j (XF (ZI (yc (ZI we) (yc (ZI we) we))) (xG 2))) (O:PS X u (XF (ZI (yc (ZI we) (yc (ZI we) we))) (xG 3))) (hp:PassesOwn (model X.prog X.w) X.A X.env X.xe) (hc:X.calm=true) (hi:ID X f a fi) (V:PG X f (xG 4)) (F:SA X p 5 f1) (K:SA X B 6 f2) (M:SA X A 7 f3) (G:SA X o 8 f4) (U:SA X l 9 f5) (a6:SA X m 10 f6) (p7:PS X y (zcg (tBM X.K "list" vE (tOp (zdX X.K) (xz 2) (xz 5)) (yc (xz 10) we)))) (p8:PS X w (zcg (tBM X.K "list" vE (tOp (zdX X.K) (xz 3) (xz 5)) (yc (ZI (yc (zgn X.K qv ps E1 E2) (yc (ziK X.K pd E3) we))) we)))) (hr:ED X k fr) (Y:σ.length=11) (g:∃ v,σ[0]?=some (some v)/\At H (.scr ns) v) (T:fi [some (.scr ns)]=some (zs.map .int)) (j0:J 0 (λ_=>(w0,h0,[])) (λ_=>[]) (λ_=>[])) (js:∀ n z c Rs As,zs[n]?=some z->J n c Rs As->∃ i r d t e,Six f1 f2 f3 f4 f5 f6 z i r/\i<2/\WK cv qv ps (c i) r=some (d,e)/\wm d=true/\pd [.obj e.1 e.2.1 e.2.2,.str "shown"]=some t/\wm t=true/\(Rs i).length<=1000/\(As i).length<=1000/\J (n+1) (WP c i e) (WP Rs i (Rs i++[r])) (WP As i (As i++[.lst [d,t]]))) (N:∀ c Rs As,J zs.length c Rs As->fr [none,none,some (.lst [.lst (Rs 0),.lst (Rs 1)]),some (.lst [.lst (As 0),.lst (As 1)])]=some (.bl true)) (q:∀ H',E.rt (.bl true) H') (hs:∀ x,foldedSetIterable a X.env x=pure x:=by intro _;rfl) :
 ∃ t,PSs X [s,j,u,.For f a [p,B,A,o,l,m,y,w] [] h,.Return (some k) b] t/\t E σ H:=by
 obtain⟨wi,S,ri⟩:=hi
 obtain⟨tr,Q,R⟩:=hr
 obtain⟨_,P,L⟩:=F
 obtain⟨_,m2,r2⟩:=K
 obtain⟨_,m3,r3⟩:=M
 obtain⟨_,W,C⟩:=G
 obtain⟨_,I,r5⟩:=U
 obtain⟨_,m6,r6⟩:=a6
 exact⟨_,zZ Z (zZ p2 (zZ O (zZ (zaY hp hc S V (zZ P (zZ m2 (zZ m3 (zZ W (zZ I (zZ m6 (zZ p7 (xL p8))))))) ) hs) (xL (Yz Q))))),zod ri L r2 r3 C r5 r6 R Y g T j0 js N q⟩
end
end Dl
namespace Dl
open PySem L2
structure Row where
 x:Str
 ps:zD
 ex:zD
 st:Stmt
abbrev Row.N (r:Row):zD:=r.ps++r.ex
def Row.scB (r:Row):Bool:=decide ((zk r.st).kind=.function/\(zk r.st).isCoroutine=false/\(zk r.st).isGenerator=false/\r.N.Nodup/\(∀ x∈r.ps,(zk r.st).names.lookup x=some .local\/(zk r.st).names.lookup x=some .cell)/\∀ y∈(zk r.st).names,y.2≠.free)
def Row.sc {r:Row}(h:r.scB=true):yz r.N r.ps (zk r.st):=by
 obtain⟨a,b,c,d,e,f⟩:=k8 h
 exact⟨a,b,c,d,List.take_left' rfl,e,f⟩
def zcS {α:Type}{p:α->Prop}{l:List α}{d:α}(h:∀ x∈l,p x)(a:p d)(i:Nat):p (l.getD i d):=by
 rw[g8]
 cases e:l[i]? with
 | none=>exact a
 | some y=>exact h y (f8 e)
def Dx (K:zu)(d:wc)(b:Vc)(r:Row):Prop:=∃ f a,Def K d r.x r.st r.ps f a/\∀ c,b.lookup r.x=some c->a.code=.ref c
structure KR (b:Bool):Prop where
 h:b=true
structure UR {α:Type} (a b:α):Prop where
 h:a=b
def nd_b {l:zD}(h:decide l.Nodup=true):l.Nodup:=k8 h
section
variable [KK]{X:Cx}{x:Str}{elt iter c:Expr}{tp:Pos}{scope:Scope}{cl:Vc}{pos:Pos}{fi:yB}{ft:vx}{fe:zJ}{rn dn:List (Str × NameKind)}{cn N:zD}
def zqw (d:KR (decide (x::X.N).Nodup))(n:X.calm=true)(j:ID X (.Name x tp) iter fi)(c:(relabel scope X.env).names=rn)(k:X.env.scope.names=dn)(b:X.N=N)(g:UR (closureFor scope X.env) (pure cl))(o:scope.kind=.function)(h:cl.map Prod.fst=cn)(l:KR (YJ scope.names rn dn N X.N cn))(e:∀ p∈cl,X.env.cells.lookup p.1=some p.2)
 (a:∀ s₀ H₀ ex pn,Loc (XH X [x] X.N scope cl s₀ H₀ ex pn).env.scope x/\(XH X [x] X.N scope cl s₀ H₀ ex pn).env.scope.names.lookup x=some .local) (m:∀ s₀ H₀ ex pn,ED (XH X [x] X.N scope cl s₀ H₀ ex pn) elt fe)
 (f:∀ x,foldedSetIterable iter X.env x=pure x):FL X (.ListComp elt [⟨.Name x tp,iter,[],0⟩] scope pos) (fLC fi b1 x9 fe) :=
 zhs (L:=[x]) (M:=X.N) n (Wx c k b g.h o h l.h e) j gs1 rb1 (λ_ _ _ _=>xy (i:=0) (nd_b d.h) rfl (a _ _ _ _).1 (.inr (a _ _ _ _).2)) m f
def zqq (f:KR (decide (x::X.N).Nodup))(q:X.calm=true)(l:ID X (.Name x tp) iter fi)(e:(relabel scope X.env).names=rn)(m:X.env.scope.names=dn)(d:X.N=N)(j:UR (closureFor scope X.env) (pure cl))(r:scope.kind=.function)(k:cl.map Prod.fst=cn)(n:KR (YJ scope.names rn dn N X.N cn))(g:∀ p∈cl,X.env.cells.lookup p.1=some p.2)
 (a:∀ s₀ H₀ ex pn,Loc (XH X [x] X.N scope cl s₀ H₀ ex pn).env.scope x/\(XH X [x] X.N scope cl s₀ H₀ ex pn).env.scope.names.lookup x=some .local) (b:∀ s₀ H₀ ex pn,TD (XH X [x] X.N scope cl s₀ H₀ ex pn) c ft) (o:∀ s₀ H₀ ex pn,ED (XH X [x] X.N scope cl s₀ H₀ ex pn) elt fe)
 (h:∀ x,foldedSetIterable iter X.env x=pure x):FL X (.ListComp elt [⟨.Name x tp,iter,[c],0⟩] scope pos) (fLC fi b1 ft fe) :=
 zpw (L:=[x]) (M:=X.N) q (Wx e m d j.h r k n.h g) l gs1 rb1 (λ_ _ _ _=>xy (i:=0) (nd_b f.h) rfl (a _ _ _ _).1 (.inr (a _ _ _ _).2)) b o h
end
def td_b [KK]{f:vx}(h:WD X (.BoolOp op es pos) f):TD X (.BoolOp op es pos) f:=zpr h
def zjZ [KK] {X:Cx} {w:World} {k:Nat} {f:Addr} {p:xW} (F:xu P w K mg base CX0 j f fd ps (spD m p)) (hr:yY k X.A) (hj:j<=k) (d:Def K mg x st ps f fd) (hX:X.prog=P/\X.w=w/\X.K=K/\X.mg=mg/\X.base=base) (hg:Gl X x) (ha:AD X (e::es) fa) (hdb:(x == ("__debug__":Str))=false) (he:starEach (e::es) X.env=(false,eval e X.env)::starEach es X.env) (hpl:(backTo pos (starEach es X.env)).any (·.1)=false) :
 ED X (.Call (.Name x pp) (e::es) [] pos) (zq m p fa):=by
 obtain⟨rfl,rfl,rfl,rfl,rfl⟩:=hX
 exact zA F hr hg d ha hj hdb he hpl
def Dx_cons (h:Dx K a b r)(t:∀ r∈c,Dx K a b r):∀ d∈r::c,Dx K a b d:=List.forall_mem_cons.mpr ⟨h,t⟩
def Z_cons (h:W.nsIn K mainGlobals x=some none)(t:∀ y∈l,W.nsIn K mainGlobals y=some none):∀ y∈x::l,W.nsIn K mainGlobals y=some none:=List.forall_mem_cons.mpr ⟨h,t⟩
def mkX {K:zu}{h:Heap}{g:Vc}{d:Stmt}{n ex:zD}{f:Addr}{kV:Value}{t:yM}{w:Array (Option Value)}(X:K.In h)(G:h.Ns mainGlobals s)(a:W.nsIn K mainGlobals x=some (some (.ref f)))(l:K.lookup f=some ⟨v,t,.func (W.fnOf x x (xJ d) (z7 d) (zk d) .none kV dc i j m ct),w⟩)(c:W.codeIn K m x=true)(k:W.keepIn K (.ref f)=true)(b:∀ (kV p i:Value) (j:yM) (q ct:Value) (o:zx),o.length=n.length->bindArgs (W.fnOf x x (xJ d) (z7 d) (zk d) .none kV p i j q ct) ⟨o,[]⟩=pure (n.zip o))(e:g.lookup x=none\/∃ c,g.lookup x=some c/\m=.ref c):Dx K s g ⟨x,n,ex,d⟩ :=
 ⟨f,W.fnOf x x (xJ d) (z7 d) (zk d) .none kV dc i j m ct,⟨Xh l c k,(Xh l c k).binds b,o9 X G a⟩,λc h=>by
  rcases e with e | ⟨u,e,r⟩
  .rw[show g.lookup x=none from e]at h;cases h
  .rw[show g.lookup x=some u from e]at h;cases h;exact r⟩
def zfX {f:Addr}{g:ww}(F:Fun K x q c f g)(h:∀ (kV a d:Value) (e:yM) (b ct:Value),bindArgs (W.fnOf x q (xJ c) (z7 c) (zk c) .none kV a d e b ct) ⟨[v],[]⟩=pure [(y,v)]):BindsTo s g ⟨[v],[]⟩ [(y,v)]:=by
 obtain⟨k,j,kV,a,d,e,b,ct,i,rfl,_,_⟩:=F.ex
 exact .of_eq (h _ _ _ _ _ _)
section
variable [KK]{E:XK}{cl:Nat->Addr}{X:Cx}{e:Expr}{es:yX}{st:Stmt}{sts:wN}{pos:Pos}{fx:zaJ}
def zka {g:zz}(e:XS E cl X st a)(c:SD X.nox st g)(d:XSs E cl X sts b):XSs E cl X (st::sts) (wQ a g b):=yf e (SD.nox c) d
def xs_e (h:XE E cl X e fx)(a:swapsWith e none pos.line X.env=pure false):XS E cl X (.Expr e pos) (xEx fx):=WJ h a
def xs_r (h:XE E cl X e fx):XS E cl X (.Return (some e) pos) (xEx fx):=Xc h
def zjq {w:World} {k:Nat} {f:Addr} {st:Stmt} {p:Pos} (F:xu P w K b a (Air P w) j f i h (spX cl m r)) (o:wn (Air X.prog X.w) X E) (s:yY k X.A) (t:j<=k) (d:Def K b x st h f i) (v:X.prog=P/\X.w=w/\X.K=K/\X.mg=b/\X.base=a) (n:Gl X x) (q:AD X (e::es) l) (c:(x == ("__debug__":Str))=false) (u:starEach (e::es) X.env=(false,eval e X.env)::starEach es X.env) (g:(backTo pos (starEach es X.env)).any (·.1)=false):XE E cl X (.Call (.Name x p) (e::es) [] pos) (xP m r l):=by
 obtain⟨rfl,rfl,rfl,rfl,rfl⟩:=v
 exact wy (F.mono t) o s n d.at_ d.kp d.bd q c u g
end
end Dl
namespace Mz
open PySem L2 Dl
def ZB:zj3:=[("row",[1,8]),("ring",[3,8]),("cube",[0,3]),("full",[1,8]),("star",[1,7])]
def Wc:zjI:=[("web",1),("row",1),("ring",1),("cube",1),("full",1),("star",1),("tie",2),("cut",2),("put",2),("step",2),("back",0)]
def zI:zjI:=[("heap",0),("ties",0),("steps",0),("far",2),("most",1),("reached",0),("need",1),("shown",0)]
def top (i:Nat):Stmt:=PySem.Challenge.pw_twoforone_k96_two_desks.main.body.getD i (.Pass ⟨0,0,0,0⟩)
def rows:List Row:=[⟨"is_whole",["thing"],[],top 18⟩,
 ⟨"is_whole_within",["thing","least","most"],[],top 19⟩,
 ⟨"is_place_count",["thing"],[],top 22⟩,
 ⟨"is_place",["many","thing"],[],top 23⟩,
 ⟨"are_counts",["many","thing"],[],top 24⟩,
 ⟨"is_pair",["many","thing"],[],top 26⟩,
 ⟨"are_ties",["many","thing"],["at","tie"],top 27⟩,
 ⟨"is_web",["thing"],[],top 28⟩,
 ⟨"must_be_web",["thing"],[],top 29⟩,
 ⟨"must_be_place",["web","thing"],[],top 30⟩,
 ⟨"tie_between",["one","other"],[],top 31⟩,
 ⟨"web_of",["many","things"],["told","at","thing","tie"],top 32⟩,
 ⟨"neighbours",["web","place"],[],top 33⟩,
 ⟨"are_stones",["web","thing"],[],top 39⟩,
 ⟨"must_be_heap",["web","thing"],[],top 40⟩,
 ⟨"is_step",["web","thing"],[],top 41⟩,
 ⟨"all_steps",["web"],["found","place"],top 42⟩,
 ⟨"steps_from",["web","heap"],[],top 43⟩,
 ⟨"stepped",["heap","step"],["stones"],top 44⟩,
 ⟨"walk",["web","heap","thing"],["heaps","now","at","step"],top 45⟩,
 ⟨"walked",["web","heap","steps"],["told","wrong"],top 46⟩,
 ⟨"kind_good",["thing"],["word"],top 55⟩,
 ⟨"places_of",["word","size"],[],top 56⟩,
 ⟨"are_tied",["word","size","one","other"],[],top 57⟩,
 ⟨"web_for",["kind"],["word","size","many","ties","one"],top 58⟩,
 ⟨"written",["word","numbers"],[],top 72⟩,
 ⟨"shown",["web","heap"],["ties"],top 73⟩,
 ⟨"number_written",["word"],[],top 74⟩,
 ⟨"parsed",["row"],["words","numbers","wanted"],top 78⟩,
 ⟨"bare",["web"],[],top 79⟩,
 ⟨"tied",["web","one","other"],[],top 80⟩,
 ⟨"cut",["web","one","other"],["gone"],top 81⟩,
 ⟨"put",["web","heap","place","stones"],["more"],top 82⟩,
 ⟨"step_done",["web","heap","one","other"],[],top 83⟩,
 ⟨"after",["web","heap","word","numbers"],[],top 84⟩,
 ⟨"answer",["web","heap","word","numbers"],[],top 87⟩,
 ⟨"_law_kinds",["e"],["found"],top 90⟩,
 ⟨"_law_stir",["cell","k"],["number"],top 91⟩,
 ⟨"_law_said",["desk","row"],["e","found"],top 92⟩,
 ⟨"_law_told_alone",["rows"],["desk","found","row"],top 93⟩,
 ⟨"law",["script"],["desks","rows","answers","cell","which","number","a","b","some","row"],top 94⟩]
def Rw (i:Nat):Row:=rows.getD i ⟨"law",["script"],["desks","rows","answers","cell","which","number","a","b","some","row"],top 94⟩
def sc (i:Nat):yz (Rw i).N (Rw i).ps (zk (Rw i).st):=Row.sc (zcS (p:=λr:Row=>r.scB=true) (by decide +kernel) (by decide +kernel) i)
abbrev YI:Stmt:=Vq (top 11) 0
def zhF:yz ["self","at"] ["self","at"] (zk YI):=⟨rfl,rfl,rfl,by decide +kernel,rfl,by decide +kernel,by decide +kernel⟩
abbrev wO:Stmt:=Vq (top 12) 0
def zcC:yz ["self","at"] ["self","at"] (zk wO):=⟨rfl,rfl,rfl,by decide +kernel,rfl,by decide +kernel,by decide +kernel⟩
abbrev yr:Stmt:=Vq (top 88) 0
def Xp:yz ["self"] ["self"] (zk yr):=⟨rfl,rfl,rfl,by decide +kernel,rfl,by decide +kernel,by decide +kernel⟩
abbrev xY:Stmt:=Vq (top 88) 1
def yA:yz ["self","row","told","word"] ["self","row"] (zk xY):=⟨rfl,rfl,rfl,by decide +kernel,rfl,by decide +kernel,by decide +kernel⟩
abbrev xl:Stmt:=Vq (top 88) 2
def V5:yz ["self","state"] ["self","state"] (zk xl):=⟨rfl,rfl,rfl,by decide +kernel,rfl,by decide +kernel,by decide +kernel⟩
abbrev yH:Stmt:=Vq (top 88) 3
def wR:yz ["self","state"] ["self"] (zk yH):=⟨rfl,rfl,rfl,by decide +kernel,rfl,by decide +kernel,by decide +kernel⟩
structure Adr where
 f:Nat->Addr
 e:Nat->FuncData
 s_DEEDS:Addr
 s_QUESTIONS:Addr
 dk:Addr
 f_Desk___init__:Addr
 e_Desk___init__:FuncData
 f_Desk_say:Addr
 e_Desk_say:FuncData
 f_Desk_go_on:Addr
 e_Desk_go_on:FuncData
 f_Desk_go_back:Addr
 e_Desk_go_back:FuncData
 t_MOST_PLACES:Tok
 t_MOST_STONES:Tok
 t_MOST_FIGURES:Tok
 s_SIZES:Addr
 x_NoWeb:Addr
 x_NoKind:Addr
 x_NoHeap:Addr
 x_NoPlace:Addr
 x_NoNumber:Addr
 x_NoTally:Addr
 x_NotTree:Addr
 x_NotJoined:Addr
 x_NoWeights:Addr
 x_NoRow:Addr
 x_NoSteps:Addr
 x_NoText:Addr
 x_TooGreat:Addr
 x_StoneError:Addr
 i_NoWeb:Addr
 j_NoWeb:FuncData
 i_NoSteps:Addr
 j_NoSteps:FuncData
def zh5 (a:Adr):xX:=[a.x_NoWeb,a.x_NoKind,a.x_NoHeap,a.x_NoPlace,a.x_NoNumber,a.x_NoTally,a.x_NotTree,a.x_NotJoined,a.x_NoWeights,a.x_NoRow,a.x_NoSteps,a.x_NoText,a.x_TooGreat]
def clT (a:Adr)(j:Nat):Addr:=(zh5 a).getD (j%16) 0
def zh6 (a:Adr)(j:Nat):clT a j=clT a (j%16):=by unfold clT;rw[Nat.mod_mod]
def zs:zD:=["ValueError","all","bool","enumerate","int","isinstance","len","list","max","min","range","sorted","str","sum","tuple"]
structure Txt (P:zO) (w:World) (K:zu) (mg:wc) (base:Heap) (ad:Adr):Prop where
 d:∀ i,Def K mg (Rw i).x (Rw i).st (Rw i).ps (ad.f i) (ad.e i)
 z:∀ x∈zs,mg x=none
 g_DEEDS:mg "DEEDS"=some (Value.ref ad.s_DEEDS)
 b_DEEDS:∀ h:Heap,K.In h->PyProof.Rows.KTD.TextTab h ad.s_DEEDS (Y4 Wc)
 g_QUESTIONS:mg "QUESTIONS"=some (Value.ref ad.s_QUESTIONS)
 b_QUESTIONS:∀ h:Heap,K.In h->PyProof.Rows.KTD.TextTab h ad.s_QUESTIONS (Y4 zI)
 g_Desk:mg "Desk"=some (Value.ref ad.dk)
 dkc:DkC K ad.dk
 mkd:Mk K ad.dk ad.f_Desk___init__
 mf_Desk___init__:Fun K "__init__" "Desk.__init__" yr ad.f_Desk___init__ ad.e_Desk___init__
 mb_Desk___init__:xh K ad.e_Desk___init__ ["self"] []
 mf_Desk_say:Fun K "say" "Desk.say" xY ad.f_Desk_say ad.e_Desk_say
 mb_Desk_say:xh K ad.e_Desk_say ["self","row"] []
 mm_Desk_say:zeK K ad.dk "say" ad.f_Desk_say
 mf_Desk_go_on:Fun K "go_on" "Desk.go_on" xl ad.f_Desk_go_on ad.e_Desk_go_on
 mb_Desk_go_on:xh K ad.e_Desk_go_on ["self","state"] []
 mm_Desk_go_on:zeK K ad.dk "go_on" ad.f_Desk_go_on
 mf_Desk_go_back:Fun K "go_back" "Desk.go_back" yH ad.f_Desk_go_back ad.e_Desk_go_back
 mb_Desk_go_back:xh K ad.e_Desk_go_back ["self"] []
 mm_Desk_go_back:zeK K ad.dk "go_back" ad.f_Desk_go_back
 g_MOST_PLACES:mg "MOST_PLACES"=some (Value.int 8 ad.t_MOST_PLACES)
 g_MOST_STONES:mg "MOST_STONES"=some (Value.int 300 ad.t_MOST_STONES)
 g_MOST_FIGURES:mg "MOST_FIGURES"=some (Value.int 3 ad.t_MOST_FIGURES)
 g_SIZES:mg "SIZES"=some (Value.ref ad.s_SIZES)
 b_SIZES:∀ h:Heap,K.In h->PyProof.Rows.KTD.TextTab h ad.s_SIZES (zbu ZB)
 g_NoWeb:mg "NoWeb"=some (Value.ref ad.x_NoWeb)
 g_NoKind:mg "NoKind"=some (Value.ref ad.x_NoKind)
 g_NoHeap:mg "NoHeap"=some (Value.ref ad.x_NoHeap)
 g_NoPlace:mg "NoPlace"=some (Value.ref ad.x_NoPlace)
 g_NoNumber:mg "NoNumber"=some (Value.ref ad.x_NoNumber)
 g_NoTally:mg "NoTally"=some (Value.ref ad.x_NoTally)
 g_NotTree:mg "NotTree"=some (Value.ref ad.x_NotTree)
 g_NotJoined:mg "NotJoined"=some (Value.ref ad.x_NotJoined)
 g_NoWeights:mg "NoWeights"=some (Value.ref ad.x_NoWeights)
 g_NoRow:mg "NoRow"=some (Value.ref ad.x_NoRow)
 g_NoSteps:mg "NoSteps"=some (Value.ref ad.x_NoSteps)
 g_NoText:mg "NoText"=some (Value.ref ad.x_NoText)
 g_TooGreat:mg "TooGreat"=some (Value.ref ad.x_TooGreat)
 g_StoneError:mg "StoneError"=some (Value.ref ad.x_StoneError)
 c_NoKind:W.excIn K ad.x_NoKind bmV "ValueError.__new__"=true
 c_NoHeap:W.excIn K ad.x_NoHeap bmV "ValueError.__new__"=true
 c_NoPlace:W.excIn K ad.x_NoPlace bmV "ValueError.__new__"=true
 c_NoRow:W.excIn K ad.x_NoRow bmV "ValueError.__new__"=true
 y_NoWeb:vu K (zh5 ad) ad.x_StoneError ad.x_NoWeb 0=true
 y_NoKind:vu K (zh5 ad) ad.x_StoneError ad.x_NoKind 1=true
 y_NoHeap:vu K (zh5 ad) ad.x_StoneError ad.x_NoHeap 2=true
 y_NoPlace:vu K (zh5 ad) ad.x_StoneError ad.x_NoPlace 3=true
 y_NoRow:vu K (zh5 ad) ad.x_StoneError ad.x_NoRow 9=true
 y_NoSteps:vu K (zh5 ad) ad.x_StoneError ad.x_NoSteps 10=true
 fi_NoWeb:Fun K "__init__" "NoWeb.__init__" YI ad.i_NoWeb ad.j_NoWeb
 bi_NoWeb:xh K ad.j_NoWeb ["self","at"] []
 ei_NoWeb:zmZ K ad.x_NoWeb ad.i_NoWeb=true
 ea_NoWeb:WW K ad.x_NoWeb=true
 na_NoWeb:znh K ad.x_NoWeb ["at"]=true
 fi_NoSteps:Fun K "__init__" "NoSteps.__init__" wO ad.i_NoSteps ad.j_NoSteps
 bi_NoSteps:xh K ad.j_NoSteps ["self","at"] []
 ei_NoSteps:zmZ K ad.x_NoSteps ad.i_NoSteps=true
 ea_NoSteps:WW K ad.x_NoSteps=true
 na_NoSteps:znh K ad.x_NoSteps ["at"]=true
def zqK:(["number","word","numbers"]:zD).Nodup:=by decide +kernel
def zqN:(["tie","web","heap","ties"]:zD).Nodup:=by decide +kernel
def zqD:(["sign","word"]:zD).Nodup:=by decide +kernel
def zpC:(["part","row","words","numbers","wanted"]:zD).Nodup:=by decide +kernel
def Txt.at {w:World}{b:Adr}(T:Txt P w K c a b)(h:(Rw i).x=x):Def K c x (Rw i).st (Rw i).ps (b.f i) (b.e i):=h ▸ T.d i
abbrev Txt.Pr {P:zO}{w:World}{K:zu}{c:wc}{a:Heap}{b:Adr}(_:Txt P w K c a b)(i k n:Nat)(p:xW):Prop:=xu P w K c a CX0 k (b.f i) (b.e i) (Rw i).ps (@spD ⟨K,b.dk⟩ n p)
def Txt.go {w:World}{d:wc}{b:Adr}(T:Txt P w K d a b){k:Nat}{g:zz}(h:∀ (c:Value) (A:zM) (outer:List Env) (s:zm) (H:Hp) (E:XK),yY k (A.deeper (PyProof.Rows.envOfC (Rw i).x (zk (Rw i).st) s.heap.objs.size (b.f i) c))->@SDs ⟨K,b.dk⟩ (vi CX0 P w K d a (Rw i).N (Rw i).x (zk (Rw i).st) (b.f i) c A outer s H E).nox (z7 (Rw i).st) g):T.Pr i (k+1) (Rw i).ps.length (fnD (Rw i).N.length g) :=
 letI:KK:=⟨K,b.dk⟩
 za3 (N:=(Rw i).N) (ps:=(Rw i).ps) (T.d i).fn (sc i) (g:=g) h
abbrev Txt.Px {P:zO}{w:World}{K:zu}{c:wc}{a:Heap}{b:Adr}(_:Txt P w K c a b)(i k n:Nat)(p:zh4):Prop:=xu P w K c a (Air P w) k (b.f i) (b.e i) (Rw i).ps (@spX ⟨K,b.dk⟩ (clT b) n p)
def Txt.gx {w:World}{d:wc}{b:Adr}(T:Txt P w K d a b){k:Nat}{gx:yS}(h:∀ (c:Value) (A:zM) (outer:List Env) (s:zm) (H:Hp) (E:XK),yY k (A.deeper (PyProof.Rows.envOfC (Rw i).x (zk (Rw i).st) s.heap.objs.size (b.f i) c))->@XSs ⟨K,b.dk⟩ E (clT b) (vi (Air P w) P w K d a (Rw i).N (Rw i).x (zk (Rw i).st) (b.f i) c A outer s H E) (z7 (Rw i).st) gx):T.Px i (k+1) (Rw i).ps.length (fnX (Rw i).N.length gx) :=
 letI:KK:=⟨K,b.dk⟩
 vI (cl:=clT b) (N:=(Rw i).N) (ps:=(Rw i).ps) (T.d i).fn (sc i) (gx:=gx) h
local macro_rules|`(tactic|walk_at "c")=>`(tactic|first
 |rfl
 |assumption
 |decide
 |exact (sc _).nd
 |exact ⟨rfl,rfl,rfl,rfl,rfl⟩
 |exact Or.inl rfl
 |exact Or.inr rfl
 |exact Or.inr (Or.inl rfl)
 |exact Or.inr (Or.inr rfl)
 |exact Txt.at ‹_› rfl
 |exact Txt.z ‹_› _ (by decide)
 |exact yk _
 |exact u11
 |exact ym
 |exact yY.mono ‹_› (by omega)
 |exact fun _=>rfl
 |exact fun _ _=>rfl
 |exact ⟨Or.inl rfl,rfl⟩
 |omega
 |exact v9
 |exact all_cons rfl v9
 |exact all_cons rfl (all_cons rfl v9)
 |exact all_cons rfl (all_cons rfl (all_cons rfl v9))
 |exact vY (v:=.ty "bool") rfl (Txt.z ‹_› _ (by decide)) zgm rfl
 |exact vY (v:=.ty "int") rfl (Txt.z ‹_› _ (by decide)) zhG rfl
 |exact vY (v:=.ty "str") rfl (Txt.z ‹_› _ (by decide)) Z5 rfl
 |exact vY (v:=.ty "tuple") rfl (Txt.z ‹_› _ (by decide)) zc3 rfl
 |exact Xx p5 PySem.F.slot_list_extend PySem.F.type_list_extend zfm ‹_› ‹_›
 |exact yY.units0 ‹_›
 |with_unfolding_all rfl
 |kernel_rfl)
local macro_rules|`(tactic|walk_at "s")=>`(tactic|repeat' first
 |((with_reducible show @Eq _ _ _);first|rfl|exact Txt.z ‹_› _ (by decide)|assumption|exact zkH|exact zgm|exact YA|exact zhG|exact Xf|exact zoQ|exact znN|exact Z5|exact znU|exact zc3|decide|exact yk _|with_unfolding_all rfl|kernel_rfl)
 |((with_reducible show ED _ _ _);first|(with_reducible first|apply edv|exact zt zr|apply z5|apply ve|apply wX|exact zQ zK|exact zoJ zjl|apply zkt|apply zk2|apply Yp|apply zoY|apply zaP|apply XW|apply znS|exact Vu Vm|apply zcc|apply zoa|apply zli|(apply zjZ;· assumption)|apply YS)|apply xg xB ZO|apply Yu zaF zhY|apply Z6 zgH zc7|apply Z6 znu wa|apply Z6 V6 wa|apply Z6 (zdT ?_) zdC|apply Z6 (yF ?_) z3|apply xg (zbm ?_) zhm|apply xg (zg3 ?_) zmq|apply xg (zgN ?_) ziD|apply xg (zg8 ?_) zi6|refine zjg V6 V6 wa wa ?_ ?_ ?_ (fun a b c=>zjN V6 V6 a b c)|exact zt (yU (v:=.int 8) rfl (Txt.g_MOST_PLACES ‹_›) ⟨_,rfl⟩)|exact zt (yU (v:=.int 300) rfl (Txt.g_MOST_STONES ‹_›) ⟨_,rfl⟩))
 |((with_reducible show AD _ _ _);first|(with_reducible first|apply zb|exact zh))
 |((with_reducible show SDs _ _ _);first|(with_reducible first|apply zgX|apply zgO|apply zC|apply zR|exact z8|apply zgX|apply zgO|apply y0))
 |((with_reducible show SD _ _ _);first|(with_reducible first|apply wq|apply xR|apply Wt|apply wK|apply zeZ|apply zn7|apply zpo|apply zeS|apply zeY|apply zkM|apply zjT|apply vq))
 |((with_reducible show TD _ _ _);first|(with_reducible first|apply wf|apply td_b)|apply zY (yF ?_) z3|apply zY zgH zc7|apply zY znV wa|apply zY zeO zd5|apply zY (zhQ ?_) zgR|apply zY (zn6 ?_) zmo|apply zY (zdT ?_) zdC|apply zY znu wa|apply zY (zgl ?_) zcf|apply zY (zpk ?_) zmt|with_reducible apply wI)
 |((with_reducible show WD _ _ _);first|(with_reducible first|apply zjK|apply zdy|apply zkl|apply zfd))
 |((with_reducible show PG _ _ _);first|(with_reducible first|apply xy))
 |((with_reducible show FL _ _ _);first|(with_reducible first|apply wH|apply zlw|apply zex|apply zqw|apply zqq))
 |((with_reducible show XSs _ _ _ _ _);first|(with_reducible first|apply z6|apply zka|apply z4|apply xt))
 |((with_reducible show BD _ _ _);first|(with_reducible first|apply ZV|apply zfK))
 |((with_reducible show ID _ _ _ _);first|(with_reducible first|apply XY|apply zgv|apply zhO|apply zcm))
 |((with_reducible show OD _ _ _);first|(with_reducible first|apply V4|apply V0))
 |((with_reducible show XS _ _ _ _ _);first|(with_reducible first|apply Ym|apply xs_e|apply xs_r|apply vp))
 |((with_reducible show BDs _ _ _);first|(with_reducible first|apply ZD|apply zb3))
 |((with_reducible show PE _ _ _);first|(with_reducible first|apply pv))
 |((with_reducible show XE _ _ _ _ _);first|(with_reducible first|(apply zjq;· assumption)))
 |((with_reducible apply KR.mk);kernel_rfl)
 |((with_reducible apply UR.mk);with_unfolding_all rfl)
 |with_reducible intro s₀ H₀ ex pn
 |walk_at "c")
local macro_rules|`(tactic|walk_at "p")=>`(tactic|(letI:KK:=⟨‹W.Frag›,Adr.dk ‹Adr›⟩;refine Txt.go ‹_› fun _ _ _ _ _ _ hr=>?_;apply zC <;> walk_at "s"))
local macro_rules|`(tactic|walk_at "q")=>`(tactic|(letI:KK:=⟨‹W.Frag›,Adr.dk ‹Adr›⟩;refine Txt.go ‹_› fun _ _ _ _ _ _ hr=>?_;apply zR <;> walk_at "s"))
local macro_rules|`(tactic|walk_at "x")=>`(tactic|(letI:KK:=⟨‹W.Frag›,Adr.dk ‹Adr›⟩;refine Txt.gx ‹_› fun _ _ _ _ _ _ hr=>?_;(first|apply zka|apply z4|apply xt) <;> walk_at "s"))
def ZE:D->Bool
 | .int _=>true
 | _=>false
def yQ (d:D)(b a:Int):Bool:=match d with
 | .int i=>decide (b<=i)&&decide (i<=a)
 | _=>false
section
variable {P:zO}{w:World}{K:zu}{mg:wc}{base:Heap}{ad:Adr}
def yu:xW
 | [d]=>if noS d=true then some (.bl (ZE d))else none
 | _=>none
abbrev zei :=yW (ZK (eUn (wv .int) (zc 0)) (zdQ (eUn (wv .bool) (zc 0))))
def zeA:=fnD 1 zei
def zpM {α:Type}{b:List α}(h:b.length=1):∃ a,b=[a]:=by match b,h with | [a],_=>exact⟨a,rfl⟩
def zfM {α:Type}{c:List α}(h:c.length=2):∃ a b,c=[a,b]:=by match c,h with | [a,b],_=>exact⟨a,b,rfl⟩
def len3 {α:Type}{d:List α}(h:d.length=3):∃ a b c,d=[a,b,c]:=by match d,h with | [a,b,c],_=>exact⟨a,b,c,rfl⟩
def ifS (h:(if c=true then some x else none)=some y):c=true/\x=y:=by
 split at h
 .cases h
  exact⟨by assumption,rfl⟩
 .cases h
def zcM:∀ b d,b.length=1->yu b=some d->zeA b=some d:=by
 intro b d e h
 obtain⟨a,rfl⟩:=zpM e
 obtain⟨c,rfl⟩:=ifS h
 cases a <;> first | rfl | cases c
def X0 (T:Txt P w K mg base ad):T.Pr 0 1 1 yu:=by
 letI:KK:=⟨K,ad.dk⟩
 refine vt ?_ zcM
 walk_at "q"
abbrev x8 :=yW (ZK (zq 1 yu (za (zc 0) zo)) (wo leD leD (zc 1) (zc 0) (zc 2)))
def vN:=fnD 3 x8
def zP:xW
 | [d,.int lo,.int hi]=>if noS d=true then some (.bl (yQ d lo hi))else none
 | _=>none
def zan {d:Int}(f:noS a=true)(hw:ZE a=false):vN [a,.int d,.int b]=some (.bl false):=by
 have e:yu [a]=some (.bl false):=by
  show(if noS a=true then some (D.bl (ZE a))else none)=_
  rw[t9 f,hw]
 refine Xu (ρ:=[.v a,.v (.int d),.v (.int b)]) rfl ?_
 unfold x8
 refine YU (yJ ?_) rfl
 show(((yu [a]).bind asB).bind λc=>if c=true then _ else some (D.bl false))=_
 rw[e]
 rfl
def Zx:∀ g d,g.length=3->zP g=some d->vN g=some d:=by
 intro g d k h
 obtain⟨a,b,c,rfl⟩:=len3 k
 cases b <;> try cases h
 cases c <;> try cases h
 rename_i f j
 obtain⟨e,rfl⟩:=ifS h
 cases a with
 | scr _=>cases e
 | obj _ _ _=>cases e
 | int i =>
  refine Xu (ρ:=[.v (.int i),.v (.int f),.v (.int j)]) rfl ?_
  unfold x8
  refine YU (yJ ?_) rfl
  show(if decide (f<=i)=true then some (D.bl (decide (i<=j)))else some (.bl false))=some (.bl (decide (f<=i)&&decide (i<=j)))
  cases decide (f<=i) <;> rfl
 | tup l=>exact zan e rfl
 | lst l=>exact zan e rfl
 | dct z t m n=>exact zan e rfl
 | non=>rfl
 | bl _=>rfl
 | str _=>rfl
def xM (T:Txt P w K mg base ad):T.Pr 1 2 3 zP:=by
 letI:KK:=⟨K,ad.dk⟩
 have:=X0 T
 refine vt ?_ Zx
 walk_at "q"
abbrev Ye :=yW (zq 3 zP (za (zc 0) (za (eC (.int 1)) (za (eC (.int 8)) zo))))
def wu:=fnD 1 Ye
def zV:xW
 | [d]=>if noS d=true then some (.bl (yQ d 1 8))else none
 | _=>none
def ZQ:∀ b d,b.length=1->zV b=some d->wu b=some d:=by
 intro b d f h
 obtain⟨a,rfl⟩:=zpM f
 have e:wu [a]=zP [a,.int 1,.int 8]:=by
  cases c:zP [a,.int 1,.int 8] <;> simp[wu,Ye,fnD,zS,yW,Xs,sIf,xN,vR,sNo,zE,zeL,Vg,zaC,zbU,Vk,vEv,visF,visG,Sl.f,Sl.g,zc,eC,zn,ZK,eOr,zdQ,eIf,eUn,zaw,vl,xO,yy,za,zo,zq,eFn,fFn,tOf,Za,Vh,yq,asB,asI,xx,zaK,ZJ,Ya,Zh,za1,Yx,ltD,leD,gtD,geD,zbe,xk,wD,yC,wF,zeJ,xq,ixD,XQ,wv,isT,eSl,vk,wL,wo,vj,iOf,W8,Y5,zcy,zaL,zb7,wg,XB,fLC,x9,xH,v8,wZ,zaM,vH,zbA,b1,b2,c]
 rw[e]
 exact h
def xU (T:Txt P w K mg base ad):T.Pr 2 3 1 zV:=by
 letI:KK:=⟨K,ad.dk⟩
 have:=xM T
 refine vt ?_ ZQ
 walk_at "q"
abbrev Vw :=yW (zq 3 zP (za (zc 1) (za (eC (.int 0)) (za (zn zaK (zc 0) (eC (.int 1))) zo))))
def ZP:=fnD 2 Vw
def yt:xW
 | [.int m,d]=>if noS d=true then some (.bl (yQ d 0 (m-1)))else none
 | _=>none
def zcN:∀ c d,c.length=2->yt c=some d->ZP c=some d:=by
 intro c d g h
 obtain⟨a,b,rfl⟩:=zfM g
 cases a <;> try cases h
 rename_i m
 have e:ZP [.int m,b]=zP [b,.int 0,.int (m-1)]:=by
  cases f:zP [b,.int 0,.int (m-1)] <;> simp[ZP,Vw,fnD,zS,yW,Xs,sIf,xN,vR,sNo,zE,zeL,Vg,zaC,zbU,Vk,vEv,visF,visG,Sl.f,Sl.g,zc,eC,zn,ZK,eOr,zdQ,eIf,eUn,zaw,vl,xO,yy,za,zo,zq,eFn,fFn,tOf,Za,Vh,yq,asB,asI,xx,zaK,ZJ,Ya,Zh,za1,Yx,ltD,leD,gtD,geD,zbe,xk,wD,yC,wF,zeJ,xq,ixD,XQ,wv,isT,eSl,vk,wL,wo,vj,iOf,W8,Y5,zcy,zaL,zb7,wg,XB,fLC,x9,xH,v8,wZ,zaM,vH,zbA,b1,b2,f]
 rw[e]
 exact h
def Y3 (T:Txt P w K mg base ad):T.Pr 3 3 2 yt:=by
 letI:KK:=⟨K,ad.dk⟩
 have:=xM T
 refine vt ?_ zcN
 walk_at "q"
def zcO {m:Int}:yQ (.int i) 0 (m-1)=inR m i:=rfl
def znc {d:D}(h:∀ i,d≠.int i):yQ d b a=false:=by
 cases d <;> first | rfl | exact absurd rfl (h _)
def zaW {d:D}(h:yQ d b a=true):∃ i,d=.int i:=by
 cases d with
 | int i=>exact⟨i,rfl⟩
 | _=>cases h
abbrev zbG :=zS (sIf (Vh (yq (tOf (eUn (wv .tuple) (zc 1)))) (tOf (zn neD (eFn XQ (za (zc 1) zo)) (eC (.int 2))))) (yW (eC (.bl false))) zE)
  (yW (ZK (zq 2 yt (za (zc 0) (za (zn ixD (zc 1) (eC (.int 0))) zo))) (ZK (zq 2 yt (za (zc 0) (za (zn ixD (zc 1) (eC (.int 1))) zo))) (zn neD (zn ixD (zc 1) (eC (.int 0))) (zn ixD (zc 1) (eC (.int 1)))))))
def zgM:=fnD 2 zbG
def z9:xW
 | [.int m,d]=>if noS d=true then some (.bl (wz m d))else none
 | _=>none
def zjM {m:Int}(h:yQ x 0 (m-1)=false):wz m (.tup [x,y])=false:=by
 cases x with
 | int i =>
  cases y with
  | int j =>
   show(inR m i&&inR m j&&!decide (i=j))=false
   rw[show inR m i=false from h]
   rfl
  | _=>rfl
 | _=>rfl
def zia {m:Int}(h:yQ y 0 (m-1)=false):wz m (.tup [x,y])=false:=by
 cases x with
 | int i =>
  cases y with
  | int j =>
   show(inR m i&&inR m j&&!decide (i=j))=false
   rw[show inR m j=false from h,u0Q]
   rfl
  | _=>rfl
 | _=>rfl
def zd1:∀ g d,g.length=2->z9 g=some d->zgM g=some d:=by
 intro g d f h
 obtain⟨a,b,rfl⟩:=zfM f
 cases a <;> try cases h
 rename_i m
 obtain⟨l,rfl⟩:=ifS h
 clear h
 cases b with
 | tup k =>
  refine Xu (ρ:=[.v (.int m),.v (.tup k)]) rfl ?_
  unfold zbG
  by_cases f:k.length=2
  .obtain⟨x,y,rfl⟩:=zfM f
   have r:noS x=true:=v5 (ds:=[x,y]) (i:=0) l rfl
   have s:noS y=true:=v5 (ds:=[x,y]) (i:=1) l rfl
   have u:yt [.int m,x]=some (.bl (yQ x 0 (m-1))):=by
    show(if noS x=true then some (D.bl (yQ x 0 (m-1)))else none)=_
    rw[t9 r]
   have v:yt [.int m,y]=some (.bl (yQ y 0 (m-1))):=by
    show(if noS y=true then some (D.bl (yQ y 0 (m-1)))else none)=_
    rw[t9 s]
   refine zG (ρ':=[.v (.int m),.v (.tup [x,y])]) rfl (YU (yJ ?_) rfl)
   show(((yt [.int m,x]).bind asB).bind λc=>if c=true then (((yt [.int m,y]).bind asB).bind λc=>if c=true then neD x y else some (D.bl false))else some (D.bl false))=_
   rw[u,v]
   cases p:yQ x 0 (m-1) with
   | false=>rw[zjM p];rfl
   | true =>
    cases n:yQ y 0 (m-1) with
    | false=>rw[zia n];rfl
    | true =>
     obtain⟨i,rfl⟩:=zaW p
     obtain⟨j,rfl⟩:=zaW n
     show some (D.bl (!decide (i=j)))=some (.bl (inR m i&&inR m j&&!decide (i=j)))
     rw[show inR m i=true from p,show inR m j=true from n]
     rfl
  .have e:wz m (.tup k)=false:=by
    unfold wz Y0
    split
    .rename_i t q
     split at q
     .rename_i o
      injection o with o
      rw[o]at f
      exact absurd rfl f
     .cases q
    .rfl
   rw[e]
   refine vD (zh3 (c:=true) ?_ (λ_=>YU rfl rfl) λz=>by cases z)
   show some (!decide ((k.length:Int)=2))=_
   rw[q4 (show ¬ (k.length:Int)=2 from λh=>f (Int.ofNat.inj h))]
   rfl
 | scr _=>cases l
 | obj _ _ _=>cases l
 | _=>rfl
def YH (T:Txt P w K mg base ad):T.Pr 5 4 2 z9:=by
 letI:KK:=⟨K,ad.dk⟩
 have:=Y3 T
 refine vt ?_ zd1
 walk_at "p"
def zaZ (ds:zg):Nat->Option Tie
 | 0=>none
 | k+1=>(ds[k]?).bind Y0
abbrev Xk :=zS (sIf (Vh (yq (tOf (zq 2 z9 (za (zc 0) (za (zc 3) zo))))) (tOf (zn gtD (zn ixD (zc 3) (eC (.int 0))) (zn ixD (zc 3) (eC (.int 1)))))) (yW (eC (.bl false))) zE)
  (sIf (Za (tOf (zn gtD (zc 2) (eC (.int 0)))) (tOf (zn leT (zc 3) (zn ixD (zc 1) (zn zaK (zc 2) (eC (.int 1))))))) (yW (eC (.bl false))) zE)
abbrev ZX :=zS (sIf (yq (tOf (eUn (wv .tuple) (zc 1)))) (yW (eC (.bl false))) zE)
  (zS (W8 (wg (za (zc 1) zo)) (zaM 2 (vH (wZ 2) (vH (wZ 3) zbA))) Xk)
  (yW (eC (.bl true))))
def zel:=fnD 4 ZX
def vO:xW
 | [.int m,d]=>if noS d=true then some (.bl (YN m d))else none
 | _=>none
def Vd {d:D}(h:wz m d=true):∃ t,d=zi t:=by
 unfold wz at h
 split at h
 .rename_i t a
  exact⟨t,WF a⟩
 .cases h
def zcn:∀ w d,w.length=2->vO w=some d->zel w=some d:=by
 intro w d I h
 obtain⟨a,b,rfl⟩:=zfM I
 cases a <;> try cases h
 rename_i m
 obtain⟨C,rfl⟩:=ifS h
 clear h I
 cases b with
 | scr _=>cases C
 | obj _ _ _=>cases C
 | tup f =>
  refine Xu (g:=ZX) rfl ?_
  unfold ZX
  refine zG rfl ?_
  refine vD (ziR (ds:=Xv 0 f) (λi ρ=>∃ F E,ρ=[.v (.int m),.v (.tup f),F,E]/\yO m none f=yO m (zaZ f i) (f.drop i)/\∀ k,i=k+1->∃ p,f[k]?=some (zi p)) rfl
   ⟨.no,.no,rfl,rfl,λk e=>by cases e⟩ ?_ ?_)
  .rintro i d ρ J ⟨F,E,rfl,B,K⟩
   rw[wU]at J
   obtain⟨u,q,rfl⟩:=u9.mp J
   rw[l0]
   refine⟨_,rfl,?_⟩
   have n:f.drop i=u::f.drop (i+1):=by
    obtain⟨L,N⟩:=j3.mp q
    rw[i7 L,N]
   have x:noS u=true:=v5 C q
   unfold Xk
   cases r:wz m u with
   | false =>
    have H:z9 [.int m,u]=some (.bl false):=by
     show(if noS u=true then some (D.bl (wz m u))else none)=_
     rw[t9 x,r]
    refine vD (zh3 (c:=true) (show(((z9 [.int m,u]).bind asB).map (!·)).bind (λc=>if c=true then some true else _)=_ by rw[H];rfl) (λ_=>YU rfl ?_) (λz=>by cases z))
    have e:yO m none f=false:=by
     rw[B,n]
     unfold yO
     split
     .rw[r];rfl
     .rfl
    show D.bl false=.bl (yO m none f)
    rw[e]
   | true =>
    obtain⟨t,rfl⟩:=Vd r
    have H:z9 [.int m,zi t]=some (.bl true):=by
     show(if noS (zi t)=true then some (D.bl (wz m (zi t)))else none)=_
     rw[t9 x,r]
    have l:yO m none f=(!decide (t.2<t.1)&&zbE (zaZ f i) t&&yO m (some t) (f.drop (i+1))):=by
     rw[B,n]
     conv=>lhs;unfold yO
     rw[Yl,r]
     rfl
    have o:zaZ f (i+1)=some t:=by
     show(f[i]?).bind Y0=some t
     rw[q]
     rfl
    refine vD (zh3 (c:=decide (t.2<t.1)) (show(((z9 [.int m,zi t]).bind asB).map (!·)).bind (λc=>if c=true then some true else some (decide (t.2<t.1)))=_ by rw[H];rfl) (λc=>YU rfl ?_) (λc=>zhV rfl ?_))
    .show D.bl false=.bl (yO m none f)
     rw[l,c]
     rfl
    .cases i with
     | zero =>
      refine zh3 (c:=false) rfl (λz=>by cases z) (λ_=>zhV rfl ?_)
      refine⟨_,_,rfl,?_,λk e=>?_⟩
      .rw[o,l,c]
       rfl
      .cases e
       exact⟨t,q⟩
     | succ j =>
      obtain⟨p,v⟩:=K j rfl
      have s:zaZ f (j+1)=some p:=by
       show(f[j]?).bind Y0=some p
       rw[v]
       rfl
      rw[s]at l
      have M:atI f ((((j+1:Nat):Int))-1)=some (zi p):=by
       rw[show(((j+1:Nat):Int))-1=(j:Nat)from Int.add_sub_cancel (j:Int) 1]
       exact zgb v
      have A:zbE (some p) t=!leP t p:=rfl
      refine zh3 (c:=leP t p) ?_ (λG=>YU rfl ?_) (λG=>zhV rfl ?_)
      .have z:decide ((0:Int)<((j+1:Nat):Int))=true:=q5 (Int.natCast_pos.mpr (Nat.succ_pos j))
       show((some (decide ((0:Int)<((j+1:Nat):Int)))).bind λc=>if c=true then (((atI f (((j+1:Nat):Int)-1)).bind λy=>leT (zi t) y).bind asB)else some false)=_
       rw[z,M]
       rfl
      .show D.bl false=.bl (yO m none f)
       rw[l,A,G,c]
       rfl
      .refine⟨_,_,rfl,?_,λO e=>?_⟩
       .rw[o,l,A,G,c]
        rfl
       .cases e
        exact⟨t,q⟩
  .rintro ρ ⟨F,E,rfl,B,K⟩
   refine YU rfl ?_
   show D.bl true=.bl (yO m none f)
   rw[B,xC,u0N]
   cases zaZ f f.length <;> rfl
 | _=>rfl
def zck (T:Txt P w K mg base ad):T.Pr 6 5 2 vO:=by
 letI:KK:=⟨K,ad.dk⟩
 have:=YH T
 refine vt ?_ zcn
 walk_at "p"
abbrev XN :=zS (sIf (Vh (yq (tOf (eUn (wv .tuple) (zc 0)))) (tOf (zn neD (eFn XQ (za (zc 0) zo)) (eC (.int 2))))) (yW (eC (.bl false))) zE)
  (yW (ZK (zq 1 zV (za (zn ixD (zc 0) (eC (.int 0))) zo)) (zq 2 vO (za (zn ixD (zc 0) (eC (.int 0))) (za (zn ixD (zc 0) (eC (.int 1))) zo)))))
def XV:=fnD 1 XN
def vU:xW
 | [d]=>if noS d=true then some (.bl (Yd d))else none
 | _=>none
def zg0:Yd (.tup [x,y])=(yQ x 1 8&&match x with | .int m=>YN m y | _=>false):=by
 cases x <;> rfl
def zeU:∀ c d,c.length=1->vU c=some d->XV c=some d:=by
 intro c d b h
 obtain⟨a,rfl⟩:=zpM b
 obtain⟨f,rfl⟩:=ifS h
 clear h b
 cases a with
 | scr _=>cases f
 | obj _ _ _=>cases f
 | tup k =>
  by_cases b:k.length=2
  .obtain⟨x,y,rfl⟩:=zfM b
   have o:noS x=true:=v5 (ds:=[x,y]) (i:=0) f rfl
   have p:noS y=true:=v5 (ds:=[x,y]) (i:=1) f rfl
   have g:zV [x]=some (.bl (yQ x 1 8)):=by simp[zV,o]
   rw[zg0]
   by_cases n:∃ i,x=.int i
   .obtain⟨i,rfl⟩:=n
    have r:vO [.int i,y]=some (.bl (YN i y)):=by simp[vO,p]
    cases t:yQ (.int i) 1 8 <;> rw[t]at g <;> simp[XV,XN,fnD,zS,yW,Xs,sIf,xN,vR,sNo,zE,zeL,Vg,zaC,zbU,Vk,vEv,visF,visG,Sl.f,Sl.g,zc,eC,zn,ZK,eOr,zdQ,eIf,eUn,zaw,vl,xO,yy,za,zo,zq,eFn,fFn,tOf,Za,Vh,yq,asB,asI,xx,zaK,ZJ,Ya,Zh,za1,Yx,ltD,leD,gtD,geD,zbe,xk,wD,yC,wF,zeJ,xq,ixD,XQ,wv,isT,eSl,vk,wL,wo,vj,iOf,W8,Y5,zcy,zaL,zb7,wg,XB,fLC,x9,xH,v8,wZ,zaM,vH,zbA,b1,b2,g,r,atI,ixN]
   .have q:yQ x 1 8=false:=znc λj s=>n ⟨j,s⟩
    rw[q]at g ⊢
    simp[XV,XN,fnD,zS,yW,Xs,sIf,xN,vR,sNo,zE,zeL,Vg,zaC,zbU,Vk,vEv,visF,visG,Sl.f,Sl.g,zc,eC,zn,ZK,eOr,zdQ,eIf,eUn,zaw,vl,xO,yy,za,zo,zq,eFn,fFn,tOf,Za,Vh,yq,asB,asI,xx,zaK,ZJ,Ya,Zh,za1,Yx,ltD,leD,gtD,geD,zbe,xk,wD,yC,wF,zeJ,xq,ixD,XQ,wv,isT,eSl,vk,wL,wo,vj,iOf,W8,Y5,zcy,zaL,zb7,wg,XB,fLC,x9,xH,v8,wZ,zaM,vH,zbA,b1,b2,g,atI,ixN]
  .have e:Yd (.tup k)=false:=zll λm l h _=>by
    unfold zT at h
    injection h with h
    rw[h]at b
    exact b rfl
   rw[e]
   have:¬ (k.length:Int)=2:=by omega
   simp[XV,XN,fnD,zS,yW,Xs,sIf,xN,vR,sNo,zE,zeL,Vg,zaC,zbU,Vk,vEv,visF,visG,Sl.f,Sl.g,zc,eC,zn,ZK,eOr,zdQ,eIf,eUn,zaw,vl,xO,yy,za,zo,zq,eFn,fFn,tOf,Za,Vh,yq,asB,asI,xx,zaK,ZJ,Ya,Zh,za1,Yx,ltD,leD,gtD,geD,zbe,xk,wD,yC,wF,zeJ,xq,ixD,XQ,wv,isT,eSl,vk,wL,wo,vj,iOf,W8,Y5,zcy,zaL,zb7,wg,XB,fLC,x9,xH,v8,wZ,zaM,vH,zbA,b1,b2,this]
 | _=>rfl
def zbl (T:Txt P w K mg base ad):T.Pr 7 6 1 vU:=by
 letI:KK:=⟨K,ad.dk⟩
 have:=xU T
 have:=zck T
 refine vt ?_ zeU
 walk_at "p"
def zgs (m:Int)(a:yl):noS (zT m a)=true:=by
 have:∀ a:yl,zh7 (a.map zi)=true:=by
  intro a
  induction a with
  | nil=>rfl
  | cons t a b=>show(noS (zi t)&&zh7 (a.map zi))=true;rw[b];rfl
 show(noS (.int m)&&(noS (.tup (a.map zi))&&true))=true
 rw[show noS (.tup (a.map zi))=zh7 (a.map zi)from rfl,this a]
 rfl
abbrev Zl :=sIf (yq (tOf (zq 1 vU (za (zc 0) zo)))) sNo zE
def ZF:=fnD 1 Zl
def ye:xW
 | [d]=>if Yd d=true then some .non else none
 | _=>none
def Vj:∀ b d,b.length=1->ye b=some d->ZF b=some d:=by
 intro b d f h
 obtain⟨a,rfl⟩:=zpM f
 obtain⟨hw,rfl⟩:=ifS h
 obtain⟨m,c,rfl,_⟩:=(vM a).mp hw
 have e:vU [zT m c]=some (.bl true):=by simp[vU,zgs m c,hw]
 simp[ZF,Zl,fnD,zS,yW,Xs,sIf,xN,vR,sNo,zE,zeL,Vg,zaC,zbU,Vk,vEv,visF,visG,Sl.f,Sl.g,zc,eC,zn,ZK,eOr,zdQ,eIf,eUn,zaw,vl,xO,yy,za,zo,zq,eFn,fFn,tOf,Za,Vh,yq,asB,asI,xx,zaK,ZJ,Ya,Zh,za1,Yx,ltD,leD,gtD,geD,zbe,xk,wD,yC,wF,zeJ,xq,ixD,XQ,wv,isT,eSl,vk,wL,wo,vj,iOf,W8,Y5,zcy,zaL,zb7,wg,XB,fLC,x9,xH,v8,wZ,zaM,vH,zbA,b1,b2,e]
def vC (T:Txt P w K mg base ad):T.Pr 8 7 1 ye:=by
 letI:KK:=⟨K,ad.dk⟩
 have:=zbl T
 refine vt ?_ Vj
 walk_at "q"
def xK:D->Bool
 | .int i=>decide (0<=i)
 | _=>false
def zlh:D->Int
 | .int i=>i
 | _=>0
def xw (m:Int):D->Bool
 | .tup a=>decide ((a.length:Int)=m)&&a.all xK
 | _=>false
def zi3 {α:Type}(f:α->Bool)(l:List α):znm [.lst (l.map λx=>.bl (f x))]=some (.bl (l.all f)):=by
 have:zmw (l.map λx=>D.bl (f x))=some (l.map f):=by
  have:=zjY (l.map f)
  rwa[u0V]at this
 show((zmw (l.map λx=>D.bl (f x))).bind λa=>some (D.bl (a.all id)))=_
 rw[this]
 show some (D.bl ((l.map f).all id))=_
 rw[u1D]
 rfl
def zce {a:zg}(h:a.all xK=true):∃ ns:zy,a=ns.map .int/\∀ n∈ns,0<=n:=by
 induction a with
 | nil=>exact⟨[],rfl,by simp⟩
 | cons d a e =>
  rw[u1R,j6]at h
  obtain⟨ns,rfl,c⟩:=e h.2
  cases d with
  | int i=>exact⟨i::ns,rfl,λn b=>by
   rcases j9.mp b with rfl | b
   .exact k8 h.1
   .exact c n b⟩
  | _=>exact absurd h.1 u7
def zfN {ns:zy}(h:∀ n∈ns,0<=n):(ns.map D.int).all xK=true:=by
 rw[u1D,m7]
 exact λn a=>q5 (h n a)
def zgu (ns:zy):zqi [.tup (ns.map .int)]=some (.int ns.sum):=by
 show((znn (ns.map .int)).bind λns=>some (D.int ns.sum))=_
 rw[zis]
 rfl
abbrev vy :=zS (sIf (Vh (yq (tOf (eUn (wv .tuple) (zc 1)))) (tOf (zn neD (eFn XQ (za (zc 1) zo)) (zc 0)))) (yW (eC (.bl false))) zE)
  (yW (eFn znm (za (xO (fLC (iOf (zc 1)) b1 x9 (ZK (zq 1 yu (za (zc 0) zo)) (zn geD (zc 0) (eC (.int 0)))))) zo)))
def Xm:=fnD 2 vy
def wh:xW
 | [.int m,d]=>if (noS d&&decide (m<=1000))=true then some (.bl (xw m d))else none
 | _=>none
def zon {d:D}(a:noS d=true):((yu [d]).bind asB).bind (λc=>if c=true then geD d (.int 0)else some (.bl false))=some (.bl (xK d)):=by
 cases d with
 | scr _=>cases a
 | obj _ _ _=>cases a
 | tup _=>simp[yu,a,ZE,asB,xK]
 | lst _=>simp[yu,a,ZE,asB,xK]
 | _=>rfl
def zaI:∀ n d,n.length=2->wh n=some d->Xm n=some d:=by
 intro n d k h
 obtain⟨a,b,rfl⟩:=zfM k
 cases a <;> try cases h
 rename_i m
 obtain⟨l,rfl⟩:=ifS h
 clear h k
 rw[j6,k7]at l
 obtain⟨l,q⟩:=l
 cases b with
 | scr _=>cases l
 | obj _ _ _=>cases l
 | tup g =>
  by_cases k:(g.length:Int)=m
  .have e:fLC (iOf (zc 1)) b1 x9 (ZK (zq 1 yu (za (zc 0) zo)) (zn geD (zc 0) (eC (.int 0)))) [some (.int m),some (.tup g)]=some (g.map λd=>.bl (xK d)):=by
    unfold fLC
    show(if lim g.length=true then _ else none)=_
    rw[t9 (Z3 (by omega))]
    have:=zac (b:=b1) (t:=x9) (f:=ZK (zq 1 yu (za (zc 0) zo)) (zn geD (zc 0) (eC (.int 0)))) (ρ:=[some (.int m),some (.tup g)]) id (λd=>.bl (xK d)) g
     (λd p=>⟨[some d],rfl,rfl,zon (by obtain⟨j,o,rfl⟩:=u09 p;exact v5 (i:=j) l (by simp[o]))⟩)
    rwa[List.map_id]at this
   show fnD 2 vy _=_
   refine Xu rfl ?_
   unfold vy
   refine vD (zh3 (c:=false) (by simp[fnD,zS,yW,Xs,sIf,xN,vR,sNo,zE,zeL,Vg,zaC,zbU,Vk,vEv,visF,visG,Sl.f,Sl.g,zc,eC,zn,ZK,eOr,zdQ,eIf,eUn,zaw,vl,xO,yy,za,zo,zq,eFn,fFn,tOf,Za,Vh,yq,asB,asI,xx,zaK,ZJ,Ya,Zh,za1,Yx,ltD,leD,gtD,geD,zbe,xk,wD,yC,wF,zeJ,xq,ixD,XQ,wv,isT,eSl,vk,wL,wo,vj,iOf,W8,Y5,zcy,zaL,zb7,wg,XB,fLC,x9,xH,v8,wZ,zaM,vH,zbA,b1,b2,k]) (λz=>by cases z) λ_=>zhV rfl (YU (d:=.bl (g.all xK)) ?_ ?_))
   .show(match (((fLC (iOf (zc 1)) b1 x9 (ZK (zq 1 yu (za (zc 0) zo)) (zn geD (zc 0) (eC (.int 0)))) [some (.int m),some (.tup g)]).map D.lst).bind λd=>(some []:Option zg).map (d::·)).bind znm with | some d=>Ctl.rt d | none=>Ctl.no)=_
    rw[e]
    show(match znm [.lst (g.map λd=>.bl (xK d))]with | some d=>Ctl.rt d | none=>Ctl.no)=_
    rw[zi3]
   .show D.bl (g.all xK)=.bl (decide ((g.length:Int)=m)&&g.all xK)
    rw[q5 k,Bool.true_and]
  .have e:xw m (.tup g)=false:=by
    show(decide ((g.length:Int)=m)&&g.all xK)=false
    rw[q4 k,u2V]
   rw[e]
   simp[Xm,vy,fnD,zS,yW,Xs,sIf,xN,vR,sNo,zE,zeL,Vg,zaC,zbU,Vk,vEv,visF,visG,Sl.f,Sl.g,zc,eC,zn,ZK,eOr,zdQ,eIf,eUn,zaw,vl,xO,yy,za,zo,zq,eFn,fFn,tOf,Za,Vh,yq,asB,asI,xx,zaK,ZJ,Ya,Zh,za1,Yx,ltD,leD,gtD,geD,zbe,xk,wD,yC,wF,zeJ,xq,ixD,XQ,wv,isT,eSl,vk,wL,wo,vj,iOf,W8,Y5,zcy,zaL,zb7,wg,XB,fLC,x9,xH,v8,wZ,zaM,vH,zbA,b1,b2,k]
 | _=>rfl
def zaD (T:Txt P w K mg base ad):T.Pr 4 2 2 wh:=by
 letI:KK:=⟨K,ad.dk⟩
 have:=X0 T
 refine vt ?_ zaI
 walk_at "p"
def wT (m:Int):D->Bool
 | .tup a=>xw m (.tup a)&&decide ((a.map zlh).sum<=300)
 | _=>false
def vL (ns:zy):(ns.map D.int).map zlh=ns:=by rw[u0V];exact(u1Y λ_ _=>rfl).trans (List.map_id _)
abbrev Ys :=yW (ZK (zq 2 wh (za (zn ixD (zc 0) (eC (.int 0))) (za (zc 1) zo))) (zn leD (eFn zqi (za (zc 1) zo)) (eC (.int 300))))
def Yk:=fnD 2 Ys
def yh:xW
 | [.tup [.int m,_],d]=>if (noS d&&decide (m<=1000))=true then some (.bl (wT m d))else none
 | _=>none
def zak:∀ g d,g.length=2->yh g=some d->Yk g=some d:=by
 intro g d j h
 obtain⟨a,b,rfl⟩:=zfM j
 unfold yh at h
 split at h
 .rename_i m t p e
  injection e with e1 e2
  injection e2 with e2 _
  subst e1 e2
  obtain⟨k,rfl⟩:=ifS h
  have f:wh [.int m,b]=some (.bl (xw m b)):=by simp only[wh];rw[t9 k]
  cases c:xw m b with
  | false =>
   rw[c]at f
   have i:wT m b=false:=by
    cases b <;> try rfl
    show(xw m _&&_)=false
    rw[c]
    rfl
   rw[i]
   simp[Yk,Ys,fnD,zS,yW,Xs,sIf,xN,vR,sNo,zE,zeL,Vg,zaC,zbU,Vk,vEv,visF,visG,Sl.f,Sl.g,zc,eC,zn,ZK,eOr,zdQ,eIf,eUn,zaw,vl,xO,yy,za,zo,zq,eFn,fFn,tOf,Za,Vh,yq,asB,asI,xx,zaK,ZJ,Ya,Zh,za1,Yx,ltD,leD,gtD,geD,zbe,xk,wD,yC,wF,zeJ,xq,ixD,XQ,wv,isT,eSl,vk,wL,wo,vj,iOf,W8,Y5,zcy,zaL,zb7,wg,XB,fLC,x9,xH,v8,wZ,zaM,vH,zbA,b1,b2,f,atI,ixN]
  | true =>
   rw[c]at f
   cases b with
   | tup o =>
    have l:o.all xK=true:=by
     unfold xw at c
     rw[j6]at c
     exact c.2
    obtain⟨ns,rfl,n⟩:=zce l
    have i:wT m (.tup (ns.map .int))=decide (ns.sum<=300):=by
     show(xw m _&&decide (((ns.map D.int).map zlh).sum<=300))=_
     rw[c,vL,Bool.true_and]
    rw[i]
    simp[Yk,Ys,fnD,zS,yW,Xs,sIf,xN,vR,sNo,zE,zeL,Vg,zaC,zbU,Vk,vEv,visF,visG,Sl.f,Sl.g,zc,eC,zn,ZK,eOr,zdQ,eIf,eUn,zaw,vl,xO,yy,za,zo,zq,eFn,fFn,tOf,Za,Vh,yq,asB,asI,xx,zaK,ZJ,Ya,Zh,za1,Yx,ltD,leD,gtD,geD,zbe,xk,wD,yC,wF,zeJ,xq,ixD,XQ,wv,isT,eSl,vk,wL,wo,vj,iOf,W8,Y5,zcy,zaL,zb7,wg,XB,fLC,x9,xH,v8,wZ,zaM,vH,zbA,b1,b2,f,zgu,atI,ixN]
   | _=>cases c
 .cases h
def wM (T:Txt P w K mg base ad):T.Pr 13 3 2 yh:=by
 letI:KK:=⟨K,ad.dk⟩
 have:=zaD T
 refine vt ?_ zak
 walk_at "q"
abbrev YV :=sIf (yq (tOf (zq 2 yh (za (zc 0) (za (zc 1) zo))))) sNo zE
def YX:=fnD 2 YV
def yg:xW
 | [.tup [.int m,_],d]=>if (noS d&&decide (m<=1000)&&wT m d)=true then some .non else none
 | _=>none
def X3:∀ c d,c.length=2->yg c=some d->YX c=some d:=by
 intro c d g h
 obtain⟨a,b,rfl⟩:=zfM g
 unfold yg at h
 split at h
 .rename_i m t j e
  injection e with e1 e2
  injection e2 with e2 _
  subst e1 e2
  obtain⟨f,rfl⟩:=ifS h
  rw[j6]at f
  have i:yh [.tup [.int m,t],b]=some (.bl true):=by simp only[yh];rw[t9 f.1,f.2]
  simp[YX,YV,fnD,zS,yW,Xs,sIf,xN,vR,sNo,zE,zeL,Vg,zaC,zbU,Vk,vEv,visF,visG,Sl.f,Sl.g,zc,eC,zn,ZK,eOr,zdQ,eIf,eUn,zaw,vl,xO,yy,za,zo,zq,eFn,fFn,tOf,Za,Vh,yq,asB,asI,xx,zaK,ZJ,Ya,Zh,za1,Yx,ltD,leD,gtD,geD,zbe,xk,wD,yC,wF,zeJ,xq,ixD,XQ,wv,isT,eSl,vk,wL,wo,vj,iOf,W8,Y5,zcy,zaL,zb7,wg,XB,fLC,x9,xH,v8,wZ,zaM,vH,zbA,b1,b2,i]
 .cases h
def wV (T:Txt P w K mg base ad):T.Pr 14 4 2 yg:=by
 letI:KK:=⟨K,ad.dk⟩
 have:=wM T
 refine vt ?_ X3
 walk_at "q"
def WL (h:wr m a):decide (m<=1000)=true:=q5 (by have:=h.hi;omega)
def X5:D->Int
 | .tup [.int m,_]=>m
 | _=>0
def zb0:D->yl
 | .tup [_,.tup l]=>(zf3 l).getD []
 | _=>[]
def W1 (m:Int)(a:yl):X5 (zT m a)=m:=rfl
def zhx (a:yl):a.map zi=a.map prD:=rfl
def Ww (m:Int)(a:yl):zb0 (zT m a)=a:=by
 show(zf3 (a.map zi)).getD []=a
 rw[zhx,zfT]
 rfl
def yj (a b:Int):Tie:=(if b<a then b else a,if b>a then b else a)
abbrev Yj :=sIf (yq (tOf (zq 2 yt (za (zn ixD (zc 0) (eC (.int 0))) (za (zc 1) zo))))) sNo zE
def Yv:=fnD 2 Yj
def zp:xW
 | [.tup [.int m,_],.int p]=>if (decide (0<=p)&&decide (p<=m-1))=true then some .non else none
 | _=>none
def Xr:∀ f d,f.length=2->zp f=some d->Yv f=some d:=by
 intro f d g h
 obtain⟨a,b,rfl⟩:=zfM g
 unfold zp at h
 split at h
 .rename_i m t c e
  injection e with e1 e2
  injection e2 with e2 _
  subst e1 e2
  obtain⟨i,rfl⟩:=ifS h
  have j:yt [.int m,.int c]=some (.bl true):=by
   show(if noS (.int c)=true then some (D.bl (yQ (.int c) 0 (m-1)))else none)=_
   rw[t9 (show noS (.int c)=true from rfl),zcO]
   unfold inR
   rw[i]
  simp[Yv,Yj,fnD,zS,yW,Xs,sIf,xN,vR,sNo,zE,zeL,Vg,zaC,zbU,Vk,vEv,visF,visG,Sl.f,Sl.g,zc,eC,zn,ZK,eOr,zdQ,eIf,eUn,zaw,vl,xO,yy,za,zo,zq,eFn,fFn,tOf,Za,Vh,yq,asB,asI,xx,zaK,ZJ,Ya,Zh,za1,Yx,ltD,leD,gtD,geD,zbe,xk,wD,yC,wF,zeJ,xq,ixD,XQ,wv,isT,eSl,vk,wL,wo,vj,iOf,W8,Y5,zcy,zaL,zb7,wg,XB,fLC,x9,xH,v8,wZ,zaM,vH,zbA,b1,b2,j,atI,ixN]
 .cases h
def z0 (T:Txt P w K mg base ad):T.Pr 9 4 2 zp:=by
 letI:KK:=⟨K,ad.dk⟩
 have:=Y3 T
 refine vt ?_ Xr
 walk_at "q"
def yD {m:Int}{p:Int}(b:0<=p/\p<m):zp [zT m a,.int p]=some .non:=by
 show(if (decide (0<=p)&&decide (p<=m-1))=true then some D.non else none)=_
 rw[q5 b.1,q5 (by omega)]
 rfl
abbrev zaB :=yW (vl (za (eFn znC (za (zc 0) (za (zc 1) zo))) (za (eFn znM (za (zc 0) (za (zc 1) zo))) zo)))
def VO:=fnD 2 zaB
def zW:xW
 | [.int a,.int b]=>some (zi (yj a b))
 | _=>none
def Vf:∀ c d,c.length=2->zW c=some d->VO c=some d:=by
 intro c d e h
 obtain⟨a,b,rfl⟩:=zfM e
 cases a <;> try cases h
 cases b <;> try cases h
 rfl
def xr (T:Txt P w K mg base ad):T.Pr 10 1 2 zW:=by
 letI:KK:=⟨K,ad.dk⟩
 refine vt ?_ Vf
 walk_at "q"
def zfV (a:yl):(a.map zi).all (okE 20)=true:=by
 rw[u1D,m7]
 exact λt _=>rfl
def zab (s t:Tie):eqN 20 (zi s) (zi t)=decide (s=t):=by
 have:eqN 20 (zi s) (zi t)=((s.1 == t.1)&&((s.2 == t.2)&&true)&&true):=rfl
 rw[this,u2z,u2z]
 by_cases h:s=t
 .subst h
  simp
 .rw[q4 h,Bool.and_eq_false_iff]
  by_cases a:s.1=t.1
  .exact .inr (g6.mpr λb=>h (u2B a b))
  .exact .inl (g6.mpr a)
def zdM (t:Tie)(a:yl):inD (zi t) (.tup (a.map zi))=some (.bl (decide (t∈a))):=by
 show(ziT (zi t) (a.map zi)).map D.bl=_
 unfold ziT
 rw[t9 ⟨rfl,zfV a⟩]
 show some (D.bl ((a.map zi).any λe=>eqN 20 e (zi t)))=_
 rw[List.any_map]
 congr 2
 rw[u1e,List.any_eq_true,k7]
 constructor
 .rintro⟨s,b,h⟩
  have h:eqN 20 (zi s) (zi t)=true:=h
  rw[zab,k7]at h
  subst h
  exact b
 .exact λh=>⟨t,h,by show eqN 20 (zi t) (zi t)=true;rw[zab];exact q5 rfl⟩
abbrev XZ :=zS (xN false 2 (zn Zh (zn ZJ (zn wt (zn wt (zn Zh (zc 0) (eC (.int 2147483647))) (zn ZJ (eC (.int 977)) (zc 1))) (eC (.int 1))) (eC (.int 48271))) (eC (.int 2147483647))))
  (zS (xN false 2 (zn Zh (zn ZJ (zc 2) (zc 2)) (eC (.int 2147483629))))
  (zS (xN false 2 (zn Zh (zn ZJ (zn wt (zc 2) (zn ZJ (eC (.int 40692)) (zn wt (zc 1) (eC (.int 3))))) (eC (.int 69621))) (eC (.int 2147483647))))
  (yW (zn Ya (zc 2) (eC (.int 8))))))
def zcx:=fnD 3 XZ
def vT:xW
 | [.int c,.int k]=>some (.int (zqx c k))
 | _=>none
def zcQ {i:Int}(b:-(2^64)<i)(a:i<2^64):WV i j=true:=q5 (.inl ⟨b,a⟩)
def zfa {j:Int}(b:-(2^64)<j)(a:j<2^64):WV i j=true:=q5 (.inr ⟨b,a⟩)
def Wz (h:WV i j=true):ZJ (.int i) (.int j)=some (.int (i*j)):=by
 show(if WV i j=true then _ else none)=_
 rw[t9 h]
def Ze {j:Int}(h:0<j):Zh (.int i) (.int j)=some (.int (i%j)):=by
 show(if decide (0<j)=true then _ else none)=_
 rw[t9 (q5 h)]
def zdm {j:Int}(h:0<j)(a:j<1606938044258990275541962092341162602522202993782792835301376):Ya (.int i) (.int j)=some (.int (i/j)):=by
 show(if decide (0<j/\j<1606938044258990275541962092341162602522202993782792835301376)=true then _ else none)=_
 rw[t9 (q5 ⟨h,a⟩)]
def zbk:∀ e d,e.length=2->vT e=some d->zcx e=some d:=by
 intro e d o h
 obtain⟨a,b,rfl⟩:=zfM o
 cases a <;> try cases h
 cases b <;> try cases h
 rename_i c k
 have l:=u1V ((c%2147483647+977*k+1)*48271) (show(2147483647:Int)≠0 by decide)
 have j:=u1h ((c%2147483647+977*k+1)*48271) (show(0:Int)<2147483647 by decide)
 have q:WV 977 k=true:=zcQ (by decide) (by decide)
 have p:WV (c%2147483647+977*k+1) 48271=true:=zfa (by decide) (by decide)
 obtain⟨x,g⟩:∃ x,(c%2147483647+977*k+1)*48271%2147483647=x:=⟨_,rfl⟩
 rw[g]at l j
 have r:WV x x=true:=zcQ (Int.lt_of_lt_of_le (by decide) l) (Int.lt_trans j (by decide))
 have n:WV 40692 (k+3)=true:=zcQ (by decide) (by decide)
 have s:∀ x,WV x 69621=true:=λx=>zfa (by decide) (by decide)
 obtain⟨y,i⟩:∃ y,x*x%2147483629=y:=⟨_,rfl⟩
 obtain⟨z,m⟩:∃ z,(y+40692*(k+3))*69621%2147483647=z:=⟨_,rfl⟩
 have f:zqx c k=z/8:=by
  show((((c%2147483647+977*k+1)*48271%2147483647)*((c%2147483647+977*k+1)*48271%2147483647)%2147483629+40692*(k+3))*69621%2147483647/8)=_
  rw[g,i,m]
 rw[f]
 refine Xu (ρ:=[.v (.int c),.v (.int k),.no]) rfl ?_
 unfold XZ
 refine zG (ρ':=[.v (.int c),.v (.int k),.v (.int x)]) (W4 ?_) ?_
 .show(((((Zh (.int c) (.int 2147483647)).bind λa=>(ZJ (.int 977) (.int k)).bind λb=>wt a b).bind λa=>wt a (.int 1)).bind λa=>ZJ a (.int 48271)).bind λa=>Zh a (.int 2147483647))=_
  rw[Ze (by decide),Wz q]
  show((ZJ (.int (c%2147483647+977*k+1)) (.int 48271)).bind λa=>Zh a (.int 2147483647))=_
  rw[Wz p,<- g]
  exact Ze (by decide)
 refine zG (ρ':=[.v (.int c),.v (.int k),.v (.int y)]) (W4 ?_) ?_
 .show((ZJ (.int x) (.int x)).bind λa=>Zh a (.int 2147483629))=_
  rw[Wz r,<- i]
  exact Ze (by decide)
 refine zG (ρ':=[.v (.int c),.v (.int k),.v (.int z)]) (W4 ?_) ?_
 .show((((ZJ (.int 40692) (.int (k+3))).bind λb=>wt (.int y) b).bind λa=>ZJ a (.int 69621)).bind λa=>Zh a (.int 2147483647))=_
  rw[Wz n]
  show((ZJ (.int (y+40692*(k+3))) (.int 69621)).bind λa=>Zh a (.int 2147483647))=_
  rw[Wz (s _),<- m]
  exact Ze (by decide)
 exact YU (yJ (show Ya (.int z) (.int 8)=_ from zdm (by decide) (by decide))) rfl
def za5 (T:Txt P w K mg base ad):T.Pr 37 1 2 vT:=by
 letI:KK:=⟨K,ad.dk⟩
 refine vt ?_ zbk
 walk_at "p"
def YG {m:Int}{ns:zy}(c:(ns.length:Int)=m)(a:∀ n∈ns,0<=n)(b:ns.sum<=300):wT m (.tup (ns.map .int))=true:=by
 unfold wT xw
 rw[j6,j6,k7,k7,vL,t4]
 exact⟨⟨c,zfN a⟩,b⟩
def VY (ns:zy):noS (.tup (ns.map .int))=true:=by
 show zh7 (ns.map .int)=true
 induction ns with
 | nil=>rfl
 | cons n ns a=>show(noS (.int n)&&zh7 (ns.map .int))=true;rw[a];rfl
def vAt (ns:zy)(i:Int):Int:=ns.getD i.toNat 0
def XT {ns:zy}{i:Int}(h0:0<=i)(b:i<ns.length):atI (ns.map D.int) i=some (.int (vAt ns i)):=by
 unfold vAt
 obtain⟨k,a⟩:∃ k:Nat,i=k:=⟨i.toNat,by omega⟩
 subst a
 refine zgb ?_
 rw[u0H,r8,o6 (by omega),g8,o6 (by omega)]
 rfl
def Yi (T:Txt P w K mg base ad):xu P w K mg base CX0 1 ad.i_NoWeb ad.j_NoWeb ["self","at"] (spI K 1 ["at"] (gI1 "at")):=by
 refine T.fi_NoWeb.ok zhF (λb H Q E h=>zhg b H Q E h) λc A outer s H b Q E d a=>?_
 exact⟨_,(xL (zom (pv 0) (pv 1) rfl)),(zhz a)⟩
def zbX (T:Txt P w K mg base ad):xu P w K mg base CX0 1 ad.i_NoSteps ad.j_NoSteps ["self","at"] (spI K 1 ["at"] (gI1 "at")):=by
 refine T.fi_NoSteps.ok zcC (λb H Q E h=>zhg b H Q E h) λc A outer s H b Q E d a=>?_
 exact⟨_,(xL (zom (pv 0) (pv 1) rfl)),(zhz a)⟩
def zie {a:yS}{g:zz}(e:a ρ=some j):wQ a g b ρ=some j:=by
 unfold wQ
 rw[e]
def yG {b a:yS}{g:zz}(e:b ρ=none)(c:g ρ=.nx ρ')(d:a ρ'=some j):wQ b g a ρ=some j:=by
 unfold wQ
 rw[e,c]
 exact d
def zjw {a:yS}{g:zz}{h:Nat->Option D}{d:D}(e:a ρ=some j)(b:h j=some d):zl7 a g h ρ=.rt d:=by
 unfold zl7
 rw[e]
 show(match h j with | some d=>Ctl.rt d | none=>.no)=_
 rw[b]
def ziX {b:vW}{h:yS}{g:zz}(I:Nat->SE->Prop):∀ (i n:Nat) (a:zg) (ρ:SE),I n ρ->i<a.length ->
 (∀ k d ρ,k<i->a[k]?=some d->I (n+k) ρ->∃ c f,b d ρ=some c/\h c=none/\g c=.nx f/\I (n+k+1) f)->(∀ d ρ,a[i]?=some d->I (n+i) ρ->∃ c,b d ρ=some c/\h c=some j)->Wa b h g a ρ=some j:=by
 intro i
 induction i with
 | zero =>
  intro n a ρ h0 o _ l
  cases a with
  | nil=>cases o
  | cons d a =>
   obtain⟨c,q,r⟩:=l d ρ rfl h0
   unfold Wa
   rw[q]
   show(match h c with | some j=>some j | none=>_)=_
   rw[r]
 | succ i s =>
  intro n a ρ h0 o e l
  cases a with
  | nil=>cases o
  | cons d a =>
   obtain⟨c,f,q,r,t,v⟩:=e 0 d ρ (Nat.succ_pos _) rfl h0
   unfold Wa
   rw[q]
   show(match h c with | some j=>some j | none=>_)=_
   rw[r]
   show(match g c with | .nx f=>Wa b h g a f | .ct f=>Wa b h g a f | _=>none)=_
   rw[t]
   refine s (n+1) a f v (Nat.lt_of_succ_lt_succ o) (λk d ρ u p m=>?_) λd ρ p m=>?_
   .rw[show n+1+k=n+(k+1) by omega]at m ⊢
    exact e (k+1) d ρ (Nat.succ_lt_succ u) p m
   .rw[show n+1+i=n+(i+1) by omega]at m
    exact l d ρ p m
def zjk {f:yB}{b:vW}{m:yS}{g:zz}{i:Nat}{ds:zg}(I:Nat->SE->Prop)(e:f (visF ρ)=some ds)(h0:I 0 ρ)(q:i<ds.length)(c:∀ k d ρ,k<i->ds[k]?=some d->I k ρ->∃ a o,b d ρ=some a/\m a=none/\g a=.nx o/\I (k+1) o)(n:∀ d ρ,ds[i]?=some d->I i ρ->∃ a,b d ρ=some a/\m a=some j):zoO f b m g ρ=some j:=by
 unfold zoO
 rw[e]
 refine ziX I i 0 ds ρ h0 q (λk d ρ p l h=>?_) λd ρ l h=>?_
 .rw[l0]at h ⊢
  exact c k d ρ p l h
 .rw[l0]at h
  exact n d ρ l h
def zgz {t:vx}{g:yS}(e:t (visG ρ)=some true)(a:g ρ=some j):xIf t g h ρ=some j:=by
 unfold xIf
 rw[e]
 exact a
def zdt {t:vx}{g h:yS}(e:t (visG ρ)=some false)(a:h ρ=r):xIf t g h ρ=r:=by
 unfold xIf
 rw[e]
 exact a
def zfs {b a:yS}{g:zz}(e:b ρ=none)(c:g ρ=.nx ρ')(d:a ρ'=none):wQ b g a ρ=none:=by
 unfold wQ
 rw[e,c]
 exact d
def Vx {t:vx}{g:zz}(e:t (visG ρ)=some false):sIf t g zE ρ=.nx ρ:=by
 unfold sIf
 rw[e]
 rfl
def zcq {g h:zz}(e:g ρ=.nx ρ')(a:h ρ'=c):zS g h ρ=c:=by
 unfold zS
 rw[e]
 exact a
def kP (t:Tie):List Key:=[.inl t.1,.inl t.2]
def zot {t:Tie}(h:kP s=kP t):s=t:=by
 unfold kP at h
 obtain⟨b,a⟩:=List.cons.inj h
 obtain⟨a,_⟩:=List.cons.inj a
 exact u2B (Sum.inl.inj b) (Sum.inl.inj a)
def zhp (t:Tie):∀ a:yl,(WQ (a.map kP) (a.map λ_=>D.bl true) (kP t)).isSome=decide (t∈a):=by
 intro a
 induction a with
 | nil=>rfl
 | cons k a b =>
  rw[o7,o7]
  unfold WQ
  by_cases h:kP k=kP t
  .rw[t9 h]
   rw[zot h]
   exact(q5 g3).symm
  .rw[j5 h,b]
   have:(t∈k::a)↔t∈a:=⟨λz=>(j9.mp z).elim (λe=>absurd (by rw[e]) h) id,r9 _⟩
   exact(decide_eq_decide.mpr this).symm
def zb6 {t:Tie}{a:yl}:zo3 false (zi t) (.dct z true (a.map kP) (a.map λ_=>D.bl true))=some (.bl (decide (t∈a))):=by
 show some (D.bl (false != (WQ (a.map kP) (a.map λ_=>D.bl true) (kP t)).isSome))=_
 rw[zhp]
 cases decide (t∈a) <;> rfl
structure znl (m:Int) (s:Tie):Prop where
 a:0<=s.1/\s.1<m
 b:0<=s.2/\s.2<m
 ne:s.1≠s.2
def ZC (h:znl m s):z9 [.int m,zi s]=some (.bl true):=by
 have e:(inR m s.1&&inR m s.2&&!decide (s.1=s.2))=true:=by
  obtain⟨⟨a,b⟩,⟨c,d⟩,e⟩:=h
  unfold inR
  simp only[j6,k7,u0W,p6]
  omega
 show some (D.bl (inR m s.1&&inR m s.2&&!decide (s.1=s.2)))=_
 rw[e]
def Yg (m:Int)(L:D)(a:yl)(b c d:Sl):SE:=[.v (.int m),.v L,.m true (a.map kP) (a.map λ_=>.bl true),b,c,d]
def zhb (h:zc 4 ρ=some (zi s)):zq 2 zW (za (zn ixD (zc 4) (eC (.int 0))) (za (zn ixD (zc 4) (eC (.int 1))) zo)) ρ=some (zi (yj s.1 s.2)) :=
 zv (ds:=[.int s.1,.int s.2]) (zj (zH (x:=zi s) (y:=.int 0) h rfl rfl) (zj (zH (x:=zi s) (y:=.int 1) h rfl rfl) zX)) rfl
def zfE {a:yl}{t:Tie}(h:t∉a)(d:a.length<1000):zd2 false 2 (zc 5) (eC (.bl true)) (Yg m L a c b (.v (zi t)))=.nx (Yg m L (a++[t]) c b (.v (zi t))):=by
 have g:(WQ (a.map kP) (a.map λ_=>D.bl true) (kP t)).isSome=false:=by rw[zhp];exact q4 h
 have e:zne (Yg m L a c b (.v (zi t))) 2 (zi t) (.bl true)=some (Yg m L (a++[t]) c b (.v (zi t))):=by
  unfold zne
  show(zm4 true (zi t)).bind _=_
  show(if decide ((a.map kP).length<sizeLine)=true then _ else none)=_
  rw[t9 (q5 (by rw[t4];exact yR (m4 d)))]
  show some (_:SE)=_
  unfold zgd zfW Yg
  rw[show(WQ (a.map kP) (a.map λ_=>D.bl true) [Sum.inl t.1,Sum.inl t.2]).isSome=false from g]
  simp only[p4]
  rfl
 unfold zd2
 show(match zne (Yg m L a c b (.v (zi t))) 2 (zi t) (.bl true)with | some f=>Ctl.nx f | none=>Ctl.no)=_
 rw[e]
abbrev ZL :=zS (sIf (yq (tOf (zq 2 z9 (za (zc 0) (za (zc 4) zo))))) sNo zE)
  (zS (xN false 5 (zq 2 zW (za (zn ixD (zc 4) (eC (.int 0))) (za (zn ixD (zc 4) (eC (.int 1))) zo))))
  (zS (sIf (tOf (zn (zo3 false) (zc 5) (zc 2))) sNo zE)
  (zd2 false 2 (zc 5) (eC (.bl true)))))
abbrev zc8 :=zS (sIf (yq (tOf (zq 1 zV (za (zc 0) zo)))) sNo zE)
  (zS (zic true 2)
  (zS (W8 (wg (za (zc 1) zo)) (zaM 2 (vH (wZ 3) (vH (wZ 4) zbA))) ZL)
  (zpU 2 (yW (vl (za (zc 0) (za (eFn xH (za (xO (fFn zcY (za (zc 2) zo))) zo)) zo)))))))
def Zr:=fnD 6 zc8
def zgp {a:yl}{f:Sl}(h:znl m s)(d:yj s.1 s.2∉a)(e:a.length<1000):ZL (Yg m L a c (.v (zi s)) f)=.nx (Yg m L (a++[yj s.1 s.2]) c (.v (zi s)) (.v (zi (yj s.1 s.2)))):=by
 unfold ZL
 refine zcq (Vx (wl (b:=true) (y8 (zv (ds:=[.int m,zi s]) rfl (ZC h))))) ?_
 refine zcq (ρ':=Yg m L a c (.v (zi s)) (.v (zi (yj s.1 s.2)))) (vQ (zhb rfl)) ?_
 refine zcq (Vx (y8 (zH (x:=zi (yj s.1 s.2)) (y:=.dct false true (a.map kP) (a.map λ_=>.bl true)) rfl rfl ?_))) (zfE d e)
 rw[zb6,q4 d]
def pl (t:Tie):zy:=[t.1,t.2]
def ziB:∀ a:yl,zcu (a.map kP)=some (a.map pl):=by
 intro a
 induction a with
 | nil=>rfl
 | cons k a b =>
  rw[o7]
  show(zcu (a.map kP)).map (_::·)=_
  rw[b]
  rfl
def zb9 {ks c:yl}(d:ks.length<64)(e:ks.Perm c)(f:(c.map pl).Pairwise λa b=>HT.lexLt b a=false):zcY [.dct z true (ks.map kP) vs]=some (c.map zi):=by
 show(if (ks.map kP).length<64 then _ else none)=_
 rw[t9 (by rw[t4];exact d),ziB,Option.map_some,<- Wb (e.symm.map pl) f,u0V]
 rfl
def WI {m:Int}(a:1<=m/\m<=8):zV [.int m]=some (.bl true):=by
 show some (D.bl (decide (1<=m)&&decide (m<=8)))=_
 rw[q5 a.1,q5 a.2]
 rfl
def WH {S:yl}{i:Nat}(h:S[i]?=some s):(S.take (i+1)).map (λs=>yj s.1 s.2)=(S.take i).map (λs=>yj s.1 s.2)++[yj s.1 s.2]:=by
 rw[List.take_add_one,h,p4]
 rfl
def zg2 {S:yl}{i:Nat}(a:(S.map λs=>yj s.1 s.2).Nodup)(h:S[i]?=some s):yj s.1 s.2∉(S.take i).map λs=>yj s.1 s.2:=by
 have b:((S.take (i+1)).map λs=>yj s.1 s.2).Nodup:=by
  refine a.sublist ?_
  exact(List.take_sublist _ _).map _
 rw[WH h]at b
 intro z
 exact(u0J.mp b).2.2 _ z _ (t8.mpr rfl) rfl
def zeQ {m:Int}{S c:yl}(o:1<=m/\m<=8)(l:∀ s∈S,znl m s)(j:(S.map λs=>yj s.1 s.2).Nodup)(n:S.length<64)(q:(S.map λs=>yj s.1 s.2).Perm c)(r:(c.map pl).Pairwise λa b=>HT.lexLt b a=false):Zr [.int m,.lst (S.map zi)]=some (zT m c):=by
 refine Xu (ρ:=[.v (.int m),.v (.lst (S.map zi)),.no,.no,.no,.no]) rfl ?_
 unfold zc8
 refine zG (Vx (wl (b:=true) (y8 (zv (ds:=[.int m]) rfl (WI o))))) ?_
 refine zG (ρ':=Yg m (.lst (S.map zi)) [] .no .no .no) rfl ?_
 refine vD (ziR (ds:=Xv 0 (S.map zi)) (λi ρ=>∃ f g e,ρ=Yg m (.lst (S.map zi)) ((S.take i).map λs=>yj s.1 s.2) f g e) rfl ⟨_,_,_,rfl⟩ ?_ ?_)
 .rintro i d ρ k ⟨f,g,e,rfl⟩
  rw[wU,l0,r8]at k
  obtain⟨x,p,rfl⟩:=u9.mp k
  obtain⟨s,h,rfl⟩:=u9.mp p
  refine⟨Yg m (.lst (S.map zi)) ((S.take i).map λs=>yj s.1 s.2) (.v (.int (i:Int))) (.v (zi s)) e,rfl,?_⟩
  refine zhV (zgp (l s (f8 h)) (zg2 j h) (by rw[t4,u0q];omega)) ⟨.v (.int (i:Int)),.v (zi s),.v (zi (yj s.1 s.2)),?_⟩
  rw[WH h]
 .rintro ρ ⟨f,g,e,rfl⟩
  rw[xC,t4,u06]
  refine YU (d:=zT m c) ?_ rfl
  have t:=zb9 (z:=true) (ks:=S.map λs=>yj s.1 s.2) (vs:=(S.map λs=>yj s.1 s.2).map λ_=>.bl true) (by rw[t4];exact n) q r
  show yW _ [.v (.int m),.v (.lst (S.map zi)),.v (.dct true true ((S.map λs=>yj s.1 s.2).map kP) ((S.map λs=>yj s.1 s.2).map λ_=>.bl true)),f,g,e]=_
  exact yJ (Yr (zj rfl (zj (zdZ (ds:=[.lst (c.map zi)]) (zj (Y1 (zkk (ds:=[_]) rfl t)) zX) rfl) zX)) (by show 2<=1000;decide))
def Wy (T:Txt P w K mg base ad):T.Pr 11 5 2 Zr:=by
 have:=xU T
 have:=YH T
 have:=xr T
 walk_at "p"
abbrev Yo :=wQ (xIf (yq (tOf (zq 1 zV (za (zc 0) zo)))) (xRI (zib 0 1) (za (eUn zaw (eC (.int 1))) zo)) xNo) (sIf (yq (tOf (zq 1 zV (za (zc 0) zo)))) sNo zE)
  (wQ xNo (zic true 2)
  (zoO (wg (za (zc 1) zo)) (zaM 2 (vH (wZ 3) (vH (wZ 4) zbA))) (wQ (xIf (yq (tOf (zq 2 z9 (za (zc 0) (za (zc 4) zo))))) (xRI (zib 0 1) (za (zc 3) zo)) xNo) (sIf (yq (tOf (zq 2 z9 (za (zc 0) (za (zc 4) zo))))) sNo zE)
  (wQ xNo (xN false 5 (zq 2 zW (za (zn ixD (zc 4) (eC (.int 0))) (za (zn ixD (zc 4) (eC (.int 1))) zo))))
  (xIf (tOf (zn (zo3 false) (zc 5) (zc 2))) (xRI (zib 0 1) (za (zc 3) zo)) xNo)))
  (zS (sIf (yq (tOf (zq 2 z9 (za (zc 0) (za (zc 4) zo))))) sNo zE)
  (zS (xN false 5 (zq 2 zW (za (zn ixD (zc 4) (eC (.int 0))) (za (zn ixD (zc 4) (eC (.int 1))) zo))))
  (zS (sIf (tOf (zn (zo3 false) (zc 5) (zc 2))) sNo zE)
  (zd2 false 2 (zc 5) (eC (.bl true))))))))
def Zy:=fnX 6 Yo
def zlZ {α:Type}{a b:List α}{i:Nat}(h:i<a.length):(a++b)[i]?=a[i]?:=g0 h
def zhi {m:Int}{S:yl}{d:D}{rest:zg}(p:1<=m/\m<=8)(r:∀ s∈S,znl m s)(o:(S.map λs=>yj s.1 s.2).Nodup)(w:S.length<64)(l:z9 [.int m,d]=some (.bl false)\/∃ s,d=zi s/\znl m s/\yj s.1 s.2∈S.map λs=>yj s.1 s.2):Zy [.int m,.lst (S.map zi++d::rest)]=some (16+64*(S.length+1)):=by
 show Yo [.v (.int m),.v (.lst (S.map zi++d::rest)),.no,.no,.no,.no]=_
 unfold Yo
 refine yG (zdt (wl (b:=true) (y8 (zv (ds:=[.int m]) rfl (WI p)))) rfl) (Vx (wl (b:=true) (y8 (zv (ds:=[.int m]) rfl (WI p))))) ?_
 refine yG (ρ':=Yg m (.lst (S.map zi++d::rest)) [] .no .no .no) rfl rfl ?_
 refine zjk (i:=S.length) (ds:=Xv 0 (S.map zi++d::rest)) (λi ρ=>∃ k n g,ρ=Yg m (.lst (S.map zi++d::rest)) ((S.take i).map λs=>yj s.1 s.2) k n g) rfl ⟨_,_,_,rfl⟩ (by rw[xC,j7,t4,o4];omega) ?_ ?_
 .rintro i u ρ v c ⟨k,n,g,rfl⟩
  rw[wU,l0,zlZ (by rw[t4];exact v),r8]at c
  obtain⟨x,t,rfl⟩:=u9.mp c
  obtain⟨s,h,rfl⟩:=u9.mp t
  have a:=r s (f8 h)
  have f:=zg2 o h
  refine⟨Yg m (.lst (S.map zi++d::rest)) ((S.take i).map λs=>yj s.1 s.2) (.v (.int (i:Int))) (.v (zi s)) g,_,rfl,?_,zgp a f (by rw[t4,u0q];omega),.v (.int (i:Int)),.v (zi s),.v (zi (yj s.1 s.2)),?_⟩
  .refine zfs (zdt (wl (b:=true) (y8 (zv (ds:=[.int m,zi s]) rfl (ZC a)))) rfl) (Vx (wl (b:=true) (y8 (zv (ds:=[.int m,zi s]) rfl (ZC a))))) ?_
   refine zfs (ρ':=Yg m (.lst (S.map zi++d::rest)) ((S.take i).map λs=>yj s.1 s.2) (.v (.int (i:Int))) (.v (zi s)) (.v (zi (yj s.1 s.2)))) rfl (vQ (zhb rfl)) ?_
   refine zdt (y8 (zH (x:=zi (yj s.1 s.2)) (y:=.dct false true (((S.take i).map λs=>yj s.1 s.2).map kP) (((S.take i).map λs=>yj s.1 s.2).map λ_=>.bl true)) rfl rfl ?_)) rfl
   rw[zb6,q4 f]
  .rw[WH h]
 .rintro u ρ c ⟨k,n,g,rfl⟩
  rw[wU,l0,g9 (by rw[t4];exact t6 _),t4,Nat.sub_self]at c
  cases c
  rw[u06]
  refine⟨Yg m (.lst (S.map zi++d::rest)) (S.map λs=>yj s.1 s.2) (.v (.int (S.length:Int))) (.v d) g,rfl,?_⟩
  have q:∀ ρ:SE,zc 3 (visG ρ)=some (.int (S.length:Int))->xRI (zib 0 1) (za (zc 3) zo) ρ=some (16+64*(S.length+1)):=fun ρ e=>by
   unfold xRI
   rw[show za (zc 3) zo (visG ρ)=some [.int (S.length:Int)]from zj e zX,k6]
   show(if -1<=(S.length:Int)then some (0+16*1+64*((S.length:Int)+1).toNat)else none)=_
   rw[t9 (by omega)]
   congr 1
  rcases l with l | ⟨s,rfl,a,j⟩
  .exact zie (zgz (wl (b:=false) (y8 (zv (ds:=[.int m,d]) rfl l))) (q _ rfl))
  .refine yG (zdt (wl (b:=true) (y8 (zv (ds:=[.int m,zi s]) rfl (ZC a)))) rfl) (Vx (wl (b:=true) (y8 (zv (ds:=[.int m,zi s]) rfl (ZC a))))) ?_
   refine yG (ρ':=Yg m (.lst (S.map zi++zi s::rest)) (S.map λs=>yj s.1 s.2) (.v (.int (S.length:Int))) (.v (zi s)) (.v (zi (yj s.1 s.2)))) rfl (vQ (zhb rfl)) ?_
   refine zgz (y8 (zH (x:=zi (yj s.1 s.2)) (y:=.dct false true ((S.map λs=>yj s.1 s.2).map kP) ((S.map λs=>yj s.1 s.2).map λ_=>.bl true)) rfl rfl ?_)) (q _ rfl)
   rw[zb6,q5 j]
def VH (T:Txt P w K mg base ad):T.Px 11 5 2 Zy:=by
 letI:KK:=⟨K,ad.dk⟩
 have G_is_place_count:=xU T
 have G_is_pair:=YH T
 have G_tie_between:=xr T
 refine vI (cl:=clT ad) (N:=(Rw 11).N) (ps:=(Rw 11).ps) (T.d 11).fn (sc 11) (gx:=Yo) λb A outer s H E a=>?_
 unfold Yo
 exact(yf (Ym (wf (wI (zA G_is_place_count a rfl (T.d 2) (zb (edv 0) zh)))) (z4 (vP (cl:=clT ad) ⟨T.g_NoWeb,T.ei_NoWeb,T.ea_NoWeb,vX T.na_NoWeb⟩ (Yi T) T.bi_NoWeb (Z0 (zh6 ad) (show 0<16 by decide)) (a.mono (by decide)) rfl (zb (zbx (zt zr)) zh))) z6) (SD.nox (xR (wf (wI (zA G_is_place_count a rfl (T.d 2) (zb (edv 0) zh)))) (zR vq) z8))
  (yf vp (SD.nox (zeY (t:=true) (i:=2) (sc 11).nd rfl (Or.inl rfl)))
  (xt (znD PassesOwn.leaving rfl (zcm rfl (T.z "enumerate" (by decide)) YA (zb (edv 1) zh)) (zfK rfl (ZD (ZV (xy (i:=3) (sc 11).nd rfl (Or.inl rfl))) (ZD (ZV (xy (i:=4) (sc 11).nd rfl (Or.inl rfl))) zb3))) (yf (Ym (wf (wI (zA G_is_pair a rfl (T.d 5) (zb (edv 0) (zb (edv 4) zh))))) (z4 (vP (cl:=clT ad) ⟨T.g_NoWeb,T.ei_NoWeb,T.ea_NoWeb,vX T.na_NoWeb⟩ (Yi T) T.bi_NoWeb (Z0 (zh6 ad) (show 0<16 by decide)) (a.mono (by decide)) rfl (zb (edv 3) zh))) z6) (SD.nox (xR (wf (wI (zA G_is_pair a rfl (T.d 5) (zb (edv 0) (zb (edv 4) zh))))) (zR vq) z8))
  (yf vp (SD.nox (wK (m:=false) (i:=5) (sc 11).nd rfl (Or.inl rfl) (zA G_tie_between a rfl (T.d 10) (zb (z5 (edv 4) (zt zr) (λ_ _=>rfl)) (zb (z5 (edv 4) (zt zr) (λ_ _=>rfl)) zh)))))
  (xt (Ym (zY (zgl a) zcf (by with_unfolding_all rfl) (edv 5) (edv 2)) (z4 (vP (cl:=clT ad) ⟨T.g_NoWeb,T.ei_NoWeb,T.ea_NoWeb,vX T.na_NoWeb⟩ (Yi T) T.bi_NoWeb (Z0 (zh6 ad) (show 0<16 by decide)) (a.mono (by decide)) rfl (zb (edv 3) zh))) z6)))) (SDs.nox (zC (xR (wf (wI (zA G_is_pair a rfl (T.d 5) (zb (edv 0) (zb (edv 4) zh))))) (zR vq) z8)
  (zC (wK (m:=false) (i:=5) (sc 11).nd rfl (Or.inl rfl) (zA G_tie_between a rfl (T.d 10) (zb (z5 (edv 4) (zt zr) (λ_ _=>rfl)) (zb (z5 (edv 4) (zt zr) (λ_ _=>rfl)) zh))))
  (zC (xR (zY (zgl a) zcf (by with_unfolding_all rfl) (edv 5) (edv 2)) (zR vq) z8)
  (zR (zeS (m:=false) a (zoJ zjl) (pv 2) (edv 5)))))))))))
def XL (ok:wr m c)(h:yj a b∈c):(0<=a/\a<m)/\(0<=b/\b<m)/\a≠b:=by
 have:=ok.rng _ h
 unfold yj at this
 dsimp only at this
 split at this <;> split at this <;> omega
abbrev zbc :=yW (ZK (zq 2 z9 (za (zn ixD (zc 0) (eC (.int 0))) (za (zc 1) zo))) (zn inD (zq 2 zW (za (zn ixD (zc 1) (eC (.int 0))) (za (zn ixD (zc 1) (eC (.int 1))) zo))) (zn ixD (zc 0) (eC (.int 1)))))
def Zs:=fnD 2 zbc
def zeg {d:yl}(ok:wr m d)(a b:Int):Zs [zT m d,.tup [.int a,.int b]]=some (.bl (decide (yj a b∈d))):=by
 have f:z9 [.int m,.tup [.int a,.int b]]=some (.bl (inR m a&&inR m b&&!decide (a=b))):=rfl
 have g:zW [.int a,.int b]=some (zi (yj a b)):=rfl
 have i:=zdM (yj a b) d
 have n:ixD (zT m d) (.int 0)=some (.int m):=rfl
 have k:ixD (zT m d) (.int 1)=some (.tup (d.map zi)):=rfl
 have q:ixD (.tup [.int a,.int b]) (.int 0)=some (.int a):=rfl
 have p:ixD (.tup [.int a,.int b]) (.int 1)=some (.int b):=rfl
 refine Xu (ρ:=[.v (zT m d),.v (.tup [.int a,.int b])]) rfl ?_
 unfold zbc
 refine YU (yJ ?_) rfl
 cases e:inR m a&&inR m b&&!decide (a=b) with
 | true =>
  rw[e]at f
  show(((z9 [.int m,.tup [.int a,.int b]]).bind asB).bind λc=>if c=true then ((zW [.int a,.int b]).bind λt=>inD t (.tup (d.map zi)))else some (D.bl false))=_
  rw[f,g]
  exact i
 | false =>
  have:¬ yj a b∈d:=λh=>by
   obtain⟨o,l,j⟩:=XL ok h
   have:(inR m a&&inR m b&&!decide (a=b))=true:=by
    unfold inR
    simp only[j6,k7,u0W,p6]
    omega
   rw[this]at e
   cases e
  rw[q4 this]
  rw[e]at f
  show(((z9 [.int m,.tup [.int a,.int b]]).bind asB).bind λc=>if c=true then ((zW [.int a,.int b]).bind λt=>inD t (.tup (d.map zi)))else some (D.bl false))=_
  rw[f]
  rfl
def zeB (T:Txt P w K mg base ad):T.Pr 15 5 2 Zs:=by
 have:=YH T
 have:=xr T
 walk_at "q"
abbrev Hl:=zy
def hD (h:Hl):D:=.tup (h.map .int)
def VM (h:Hl)(i x:Int):Hl:=h.set i.toNat x
def xV (h:Hl)(s:Tie):Hl:=VM (VM h s.1 (vAt h s.1-2)) s.2 (vAt (VM h s.1 (vAt h s.1-2)) s.2+1)
def Zj (h:Hl)(i x:Int):(VM h i x).length=h.length:=by unfold VM;exact u0e
def zbC (h:Hl)(s:Tie):(xV h s).length=h.length:=by unfold xV;rw[Zj,Zj]
def zi8 {h:Hl}{i j:Int}(a:0<=i)(c:i<h.length)(b:0<=j):vAt (VM h i x) j=if j=i then x else vAt h j:=by
 unfold vAt VM
 rw[g8,u0a,g8]
 by_cases e:j=i
 .subst e
  rw[t9 rfl,t9 (by omega),t9 rfl]
  rfl
 .rw[j5 (by omega),j5 e]
def V3 {h:Hl}{i:Int}(a:0<=i)(b:i<h.length):(VM h i x).sum=h.sum-vAt h i+x:=by
 unfold VM
 rw[zhL (h:=by omega)]
 unfold vAt
 rw[Dl.getD_at (by omega)]
def VN {v:Int}(a:v∈VM h i x):v=x\/v∈h:=by
 unfold VM at a
 rcases List.mem_or_eq_of_mem_set a with e | e
 .exact .inr e
 .exact .inl e
structure Vy (n:Nat) (s:Tie):Prop where
 a0:0<=s.1
 a1:s.1<(n:Int)
 b0:0<=s.2
 b1:s.2<(n:Int)
 ne:s.1≠s.2
def zhn {h:Hl}(a:Vy h.length s):(xV h s).sum=h.sum-1:=by
 unfold xV
 rw[V3 a.b0 (by rw[Zj];exact a.b1),V3 a.a0 a.a1]
 omega
def zhH {h:Hl}{i:Int}(a:0<=i)(b:i<h.length):vAt h i∈h:=by
 unfold vAt
 exact Dl.getD_mem (by omega)
def zj5 {h:Hl}(a:Vy h.length s)(c:∀ v∈h,0<=v)(d:2<=vAt h s.1):∀ v∈xV h s,0<=v:=by
 intro v b
 unfold xV at b
 have e:vAt (VM h s.1 (vAt h s.1-2)) s.2=vAt h s.2:=by
  rw[zi8 a.a0 a.a1 a.b0,j5 (λe=>a.ne e.symm)]
 rcases VN b with rfl | b
 .rw[e]
  have:=c _ (zhH a.b0 a.b1)
  omega
 .rcases VN b with rfl | b
  .omega
  .exact c v b
def gMv:zz :=zS (Vg 2 (fFn v8 (za (zc 0) zo)))
  (zS (Vk true 2 (zn ixD (zc 1) (eC (.int 0))) (zn zaK (zn ixD (zc 2) (zn ixD (zc 1) (eC (.int 0)))) (eC (.int 2))))
  (zS (Vk true 2 (zn ixD (zc 1) (eC (.int 1))) (zn wt (zn ixD (zc 2) (zn ixD (zc 1) (eC (.int 1)))) (eC (.int 1))))
  (sFz 2 (yW (eFn xH (za (zc 2) zo))))))
def zqB {h:Hl}(j:Vy h.length s):fnD 3 gMv [hD h,zi s]=some (hD (xV h s)):=by
 obtain⟨a,b⟩:=s
 obtain⟨f,e,i,b1,l⟩:=j
 dsimp only at f e i b1 l
 refine Xu (ρ:=[.v (hD h),.v (zi (a,b)),.no]) rfl ?_
 unfold gMv
 refine zG (ρ':=[.v (hD h),.v (zi (a,b)),.o (h.map .int)]) rfl ?_
 have n:=XT (ns:=h) f e
 obtain⟨g,c⟩:∃ g,VM h a (vAt h a-2)=g:=⟨_,rfl⟩
 have gl:g.length=h.length:=by rw[<-c,Zj]
 have k:=XT (ns:=g) i (by rw[gl];exact b1)
 have m:xV h (a,b)=VM g b (vAt g b+1):=by unfold xV;rw[c]
 rw[m]
 refine vD (zpg (h.map .int) (.int (vAt h a-2)) a ?_ rfl rfl f (by rw[t4];exact e) ?_)
 .show(Option.bind ((atI (h.map D.int) a).bind λx=>zaK x (.int 2)) λd=>if noL d=true then some d else none)=_
  rw[n]
  rfl
 rw[show(h.map D.int).set a.toNat (.int (vAt h a-2))=g.map .int by rw[<-c];unfold VM;rw[List.map_set]]
 refine vD (zpg (g.map .int) (.int (vAt g b+1)) b ?_ rfl rfl i (by rw[t4,gl];exact b1) ?_)
 .show(Option.bind ((atI (g.map D.int) b).bind λx=>wt x (.int 1)) λd=>if noL d=true then some d else none)=_
  rw[k]
  rfl
 rw[show(g.map D.int).set b.toNat (.int (vAt g b+1))=(VM g b (vAt g b+1)).map .int by unfold VM;rw[List.map_set]]
 exact zqT rfl (YU rfl rfl)
abbrev ze6 :=zS (Vg 2 (fFn v8 (za (zc 0) zo)))
  (zS (Vk true 2 (zn ixD (zc 1) (eC (.int 0))) (zn zaK (zn ixD (zc 2) (zn ixD (zc 1) (eC (.int 0)))) (eC (.int 2))))
  (zS (Vk true 2 (zn ixD (zc 1) (eC (.int 1))) (zn wt (zn ixD (zc 2) (zn ixD (zc 1) (eC (.int 1)))) (eC (.int 1))))
  (sFz 2 (yW (eFn xH (za (zc 2) zo))))))
def Wl:=fnD 3 ze6
def zec {h:Hl}(a:Vy h.length s):Wl [hD h,zi s]=some (hD (xV h s)):=zqB a
def zeI (T:Txt P w K mg base ad):T.Pr 18 1 2 Wl:=by
 walk_at "p"
inductive zef:D->Prop
 | pair (a b:Int):zef (.tup [.int a,.int b])
 | lst:zef (.lst [.int 0,.int 1])
 | tru:zef (.tup [.bl true,.int 0])
 | fal:zef (.tup [.int 0,.bl false])
 | non:zef .non
 | text (s:String):zef (.str s)
 | three:zef (.tup [.int 0,.int 1,.int 1])
 | one:zef (.tup [.int 0])
 | num (n:Int):zef (.int n)
def WU (c:yl):D->Option Tie
 | .tup [.int a,.int b]=>if decide (yj a b∈c)=true then some (a,b)else none
 | _=>none
def Wv (c:yl)(a b:Int):WU c (.tup [.int a,.int b])=if decide (yj a b∈c)=true then some (a,b)else none:=rfl
def zey {d:D}(ok:wr m c)(h:zef d):Zs [zT m c,d]=some (.bl (WU c d).isSome):=by
 cases h with
 | pair a b =>
  rw[zeg ok,Wv]
  cases decide (yj a b∈c) <;> rfl
 | _=>rfl
def zhv {d:D}(ok:wr m c)(h:zef d)(e:WU c d=some s):d=zi s/\(0<=s.1/\s.1<m)/\(0<=s.2/\s.2<m)/\s.1≠s.2:=by
 cases h with
 | pair a b =>
  rw[Wv]at e
  by_cases f:decide (yj a b∈c)=true
  .rw[t9 f]at e
   cases e
   exact⟨rfl,XL ok (k8 f)⟩
  .rw[j5 f]at e
   cases e
 | _=>cases e
def zfQ {m:Int}{h:Hl}(f:(h.length:Int)=m)(r:(0<=s.1/\s.1<m)/\(0<=s.2/\s.2<m)/\s.1≠s.2):Vy h.length s:=by
 obtain⟨⟨a,b⟩,⟨c,d⟩,e⟩:=r
 exact⟨a,by omega,c,by omega,e⟩
def Z4 (a:yl):Hl->Nat->zg->D
 | _,_,[]=>.non
 | h,k,d::es=>match WU a d with
  | none=>.tup [.str "form",.int (k:Int)]
  | some s=>if decide (vAt h s.1<2)=true then .tup [.str "bare",.int (k:Int)]else Z4 a (xV h s) (k+1) es
def YY (a:yl):Hl->zg->List Hl
 | _,[]=>[]
 | h,d::es=>match WU a d with
  | none=>[]
  | some s=>if decide (vAt h s.1<2)=true then []else xV h s::YY a (xV h s) es
def X6 {k:Nat} {d:D} (e:WU a d=none):Z4 a h k (d::b)=.tup [.str "form",.int (k:Int)]:=by
 show(match WU a d with | none=>_ | some s=>_)=_
 rw[e]
def WY {k:Nat} {d:D} (e:WU a d=some s) (c:vAt h s.1<2):Z4 a h k (d::b)=.tup [.str "bare",.int (k:Int)]:=by
 show(match WU a d with | none=>_ | some s=>_)=_
 rw[e]
 show(if decide (vAt h s.1<2)=true then _ else _)=_
 rw[t9 (q5 c)]
def zbz {k:Nat}{d:D}(e:WU a d=some s)(c:¬ vAt h s.1<2):Z4 a h k (d::b)=Z4 a (xV h s) (k+1) b:=by
 show(match WU a d with | none=>_ | some s=>_)=_
 rw[e]
 show(if decide (vAt h s.1<2)=true then _ else _)=_
 rw[j5 (by rw[q4 c];exact u7)]
def Zd {d:D}(e:WU a d=none):YY a h (d::b)=[]:=by
 show(match WU a d with | none=>_ | some s=>_)=_
 rw[e]
def Y6 {d:D}(e:WU a d=some s)(c:vAt h s.1<2):YY a h (d::b)=[]:=by
 show(match WU a d with | none=>_ | some s=>_)=_
 rw[e]
 show(if decide (vAt h s.1<2)=true then _ else _)=_
 rw[t9 (q5 c)]
def WX {d:D}(e:WU a d=some s)(c:¬ vAt h s.1<2):YY a h (d::b)=xV h s::YY a (xV h s) b:=by
 show(match WU a d with | none=>_ | some s=>_)=_
 rw[e]
 show(if decide (vAt h s.1<2)=true then _ else _)=_
 rw[j5 (by rw[q4 c];exact u7)]
def zes (b:yl):∀ (a:zg) (h:Hl),(YY b h a).length<=a.length:=by
 intro a
 induction a with
 | nil=>intro h;exact t6 _
 | cons d a f =>
  intro h
  cases e:WU b d with
  | none=>rw[Zd e];exact p9 _
  | some s =>
   by_cases c:vAt h s.1<2
   .rw[Y6 e c];exact p9 _
   .rw[WX e c,o4,o4]
    exact u0C (f _)
def zls {a:zg}{i:Nat}{d:D}(h:a[i]?=some d):a.drop i=d::a.drop (i+1):=by
 obtain⟨c,b⟩:=j3.mp h
 rw[i7 c,b]
abbrev zaj :=zS (sIf (yq (tOf (zq 2 Zs (za (zc 0) (za (zc 6) zo))))) (zcd 3 (vl (za (eC (.str "form")) (za (zc 5) zo)))) zE)
  (zS (sIf (tOf (zn ltD (zn ixD (zc 4) (zn ixD (zc 6) (eC (.int 0)))) (eC (.int 2)))) (zcd 3 (vl (za (eC (.str "bare")) (za (zc 5) zo)))) zE)
  (zS (xN false 4 (zq 2 Wl (za (zc 4) (za (zc 6) zo))))
  (zaC false 3 (zc 4))))
abbrev zbg :=zS (sIf (yq (tOf (eUn (wv .list) (zc 2)))) (zmc (yy zo) (vl (za (eC (.str "list")) (za (eC (.int 0)) zo)))) zE)
  (zS (Vg 3 (yy zo))
  (zS (xN false 4 (zc 1))
  (zS (W8 (wg (za (zc 2) zo)) (zaM 2 (vH (wZ 5) (vH (wZ 6) zbA))) zaj)
  (zcd 3 (eC .non)))))
def Vn:=fnD 7 zbg
def zhA {h:Hl}{f:zg}(ok:wr m a)(B:(h.length:Int)=m)(C:∀ e∈f,zef e)(F:f.length<=900):Vn [zT m a,hD h,.lst f]=some (.tup [.lst ((YY a h f).map hD),Z4 a h 0 f]):=by
 refine Xu (ρ:=[.v (zT m a),.v (hD h),.v (.lst f),.no,.no,.no,.no]) rfl ?_
 unfold zbg
 refine vD (zh3 (c:=false) rfl (λz=>by cases z) (λ_=>zhV rfl ?_))
 refine zG (ρ':=[.v (zT m a),.v (hD h),.v (.lst f),.o [],.no,.no,.no]) rfl ?_
 refine zG (ρ':=[.v (zT m a),.v (hD h),.v (.lst f),.o [],.v (hD h),.no,.no]) rfl ?_
 refine vD (ziR (ds:=Xv 0 f) (λi ρ=>∃ (g:Hl) (j:List Hl) (u t:Sl),ρ=[.v (zT m a),.v (hD h),.v (.lst f),.o (j.map hD),.v (hD g),u,t]/\(g.length:Int)=m/\Z4 a h 0 f=Z4 a g i (f.drop i)/\YY a h f=j++YY a g (f.drop i)) rfl ⟨h,[],_,_,rfl,B,rfl,rfl⟩ ?_ ?_)
 .rintro i d ρ w ⟨g,j,u,t,rfl,gl,l,k⟩
  rw[wU,l0]at w
  obtain⟨x,v,rfl⟩:=u9.mp w
  have n:=C x (f8 v)
  have o:=zey ok n
  have A:j.length<=900:=by
   have:=zes a f h
   rw[k,j7]at this
   omega
  rw[zls v]at l k
  refine⟨[.v (zT m a),.v (hD h),.v (.lst f),.o (j.map hD),.v (hD g),.v (.int (i:Int)),.v x],rfl,?_⟩
  unfold zaj
  cases e:WU a x with
  | none =>
   rw[e]at o
   rw[l,X6 e,k,Zd e,o5]
   exact vD (zh3 (c:=true) (wl (b:=false) (y8 (zv (ds:=[_,_]) rfl o))) (λ_=>YU rfl rfl) (λz=>by cases z))
  | some s =>
   rw[e]at o
   obtain⟨rfl,r⟩:=zhv ok n e
   have p:=zfQ gl r
   refine vD (zh3 (c:=false) (wl (b:=true) (y8 (zv (ds:=[_,_]) rfl o))) (λz=>by cases z) (λ_=>zhV rfl ?_))
   have E:=XT (ns:=g) p.a0 p.a1
   refine vD (zh3 (c:=decide (vAt g s.1<2)) (y8 (zH (x:=.int (vAt g s.1)) (y:=.int 2) (zH (x:=hD g) (y:=.int s.1) rfl rfl E) rfl rfl)) (λc=>?_) (λc=>zhV rfl ?_))
   .have c:=k8 c
    rw[l,WY e c,k,Y6 e c,o5]
    exact YU rfl rfl
   .have c:=of_decide_eq_false c
    rw[zbz e c]at l
    rw[WX e c]at k
    have q:=zec p
    refine zG (ρ':=[.v (zT m a),.v (hD h),.v (.lst f),.o (j.map hD),.v (hD (xV g s)),.v (.int (i:Int)),.v (zi s)]) (zfb (ds:=[_,_]) rfl q) ?_
    refine zhV (zoF (ds:=j.map hD) (d:=hD (xV g s)) rfl rfl (by rw[t4];omega)) ⟨xV g s,j++[xV g s],.v (.int (i:Int)),.v (zi s),?_,by rw[zbC];exact gl,l,?_⟩
    .rw[p4];rfl
    .rw[k,u0X];rfl
 .rintro ρ ⟨g,j,u,t,rfl,gl,l,k⟩
  rw[xC,u0N]at l k
  rw[l,k,show YY a g []=[]from rfl,o5]
  first | exact zqT rfl (YU rfl rfl) | exact YU rfl rfl
def ziW (T:Txt P w K mg base ad):xu P w K mg base CX0 6 (ad.f 19) (ad.e 19) (Rw 19).ps (@zqH ⟨K,ad.dk⟩ false 3 Vn):=by
 letI:KK:=⟨K,ad.dk⟩
 have G_is_step:=zeB T
 have G_stepped:=zeI T
 refine znB (k:=false) (N:=(Rw 19).N) (ps:=(Rw 19).ps) (T.d 19).fn (sc 19) (g:=zbg) (λd A outer s H E c=>?_) (by unfold zbg;exact(zam (zam (zam (zam zil)))))
 unfold zbg zaj
 exact(wS (zhJ (wf (wI (Yp .list rfl (T.z "isinstance" (by decide)) (edv 2) (vY (v:=.ty "list") rfl (T.z "list" (by decide)) zfx rfl)))) (Zi (ziO (wH zh) (ve (zb (zQ zK) (zb (zt zr) zh))))) zay)
  (wS (zcT (zeZ (i:=3) (sc 19).nd rfl (Or.inl rfl) (wH zh)) zm2)
  (wS (zcT (wK (m:=false) (i:=4) (sc 19).nd rfl (Or.inl rfl) (edv 1)) zeR)
  (wS (zk9 u11 rfl (zcm rfl (T.z "enumerate" (by decide)) YA (zb (edv 2) zh)) (zfK rfl (ZD (ZV (xy (i:=5) (sc 19).nd rfl (Or.inl rfl))) (ZD (ZV (xy (i:=6) (sc 19).nd rfl (Or.inl rfl))) zb3))) (wS (zhJ (wf (wI (zA G_is_step c rfl (T.d 15) (zb (edv 0) (zb (edv 6) zh))))) (Zi (VU (pv 3) (ve (zb (zQ zK) (zb (edv 5) zh))))) zay)
  (wS (zhJ (zY zqu wa (yk _) (z5 (edv 4) (z5 (edv 6) (zt zr) (λ_ _=>rfl)) (λ_ _=>rfl)) (zt zr)) (Zi (VU (pv 3) (ve (zb (zQ zK) (zb (edv 5) zh))))) zay)
  (wS (zcT (wK (m:=false) (i:=4) (sc 19).nd rfl (Or.inl rfl) (zA G_stepped c rfl (T.d 18) (zb (edv 4) (zb (edv 6) zh)))) zeR)
  (Zi (zcT (zoW (m:=false) (pv 3) (edv 4) (λa b=>Xx p5 u0o u0p Yt a b)) zlA))))))
  (Zi (VU (pv 3) (Vu Vm)))))))
def zfU (T:Txt P w K mg base ad):T.Pr 19 6 3 Vn:=by
 letI:KK:=⟨K,ad.dk⟩
 exact zoC (ziW T)
def zkB (ok:wr m a):ye [zT m a]=some .non:=by
 have hw:Yd (zT m a)=true:=(vM _).mpr ⟨_,_,rfl,ok⟩
 simp only[ye]
 rw[t9 hw]
structure HpOk (m:Int) (h:Hl):Prop where
 len:(h.length:Int)=m
 nn:∀ v∈h,0<=v
 sum:h.sum<=300
def zgF (ok:wr m b)(a:HpOk m h):yg [zT m b,hD h]=some .non:=by
 show(if (noS (.tup (h.map .int))&&decide (m<=1000)&&wT m (.tup (h.map .int)))=true then some D.non else none)=_
 rw[VY,WL ok,YG a.len a.nn a.sum]
 rfl
abbrev xv :=xIf (yq (tOf (zq 1 vU (za (zc 0) zo)))) (xRI (zib 0 1) (za (eUn zaw (eC (.int 1))) zo)) xNo
def vB:=fnX 1 xv
def Wn (T:Txt P w K mg base ad):T.Px 8 7 1 vB:=by
 letI:KK:=⟨K,ad.dk⟩
 have G_is_web:=zbl T
 refine vI (cl:=clT ad) (N:=(Rw 8).N) (ps:=(Rw 8).ps) (T.d 8).fn (sc 8) (gx:=xv) λb A outer s H E a=>?_
 unfold xv
 exact(z4 (Ym (wf (wI (zA G_is_web a rfl (T.d 7) (zb (edv 0) zh)))) (z4 (vP (cl:=clT ad) ⟨T.g_NoWeb,T.ei_NoWeb,T.ea_NoWeb,vX T.na_NoWeb⟩ (Yi T) T.bi_NoWeb (Z0 (zh6 ad) (show 0<16 by decide)) (a.mono (by decide)) rfl (zb (zbx (zt zr)) zh))) z6))
abbrev yb :=xIf (yq (tOf (zq 2 yt (za (zn ixD (zc 0) (eC (.int 0))) (za (zc 1) zo))))) (Xo 3) xNo
def zB:=fnX 2 yb
def xf (T:Txt P w K mg base ad):T.Px 9 4 2 zB:=by
 letI:KK:=⟨K,ad.dk⟩
 have G_is_place:=Y3 T
 refine vI (cl:=clT ad) (N:=(Rw 9).N) (ps:=(Rw 9).ps) (T.d 9).fn (sc 9) (gx:=yb) λb A outer s H E a=>?_
 unfold yb
 exact(z4 (Ym (wf (wI (zA G_is_place a rfl (T.d 3) (zb (z5 (edv 0) (zt zr) (λ_ _=>rfl)) (zb (edv 1) zh))))) (z4 (Yb (cl:=clT ad) (j:=3) ⟨T.g_NoPlace,T.c_NoPlace⟩ rfl)) z6))
abbrev xb :=xIf (yq (tOf (zq 2 yh (za (zc 0) (za (zc 1) zo))))) (Xo 2) xNo
def wW:=fnX 2 xb
def XC (T:Txt P w K mg base ad):T.Px 14 4 2 wW:=by
 letI:KK:=⟨K,ad.dk⟩
 have G_are_stones:=wM T
 refine vI (cl:=clT ad) (N:=(Rw 14).N) (ps:=(Rw 14).ps) (T.d 14).fn (sc 14) (gx:=xb) λb A outer s H E a=>?_
 unfold xb
 exact(z4 (Ym (wf (wI (zA G_are_stones a rfl (T.d 13) (zb (edv 0) (zb (edv 1) zh))))) (z4 (Yb (cl:=clT ad) (j:=2) ⟨T.g_NoHeap,T.c_NoHeap⟩ rfl)) z6))
abbrev zdD :=zS (vR (zq 1 ye (za (zc 0) zo)))
  (zS (vR (zq 2 yg (za (zc 0) (za (zc 1) zo))))
  (zS (xN false 3 (zq 3 Vn (za (zc 0) (za (zc 1) (za (zc 2) zo)))))
  (zS (xN false 4 (zn ixD (zc 3) (eC (.int 1))))
  (zS (sIf (tOf (zn xq (zc 4) (eC .non))) sNo zE)
  (yW (zn ixD (zc 3) (eC (.int 0))))))))
def zat:=fnD 5 zdD
def zf2 (T:Txt P w K mg base ad):T.Pr 20 8 3 zat:=by
 have:=vC T
 have:=wV T
 have:=zfU T
 walk_at "p"
abbrev Zt :=wQ (xEx (xP 1 vB (za (zc 0) zo))) (vR (zq 1 ye (za (zc 0) zo)))
  (wQ (xEx (xP 2 wW (za (zc 0) (za (zc 1) zo)))) (vR (zq 2 yg (za (zc 0) (za (zc 1) zo))))
  (wQ xNo (xN false 3 (zq 3 Vn (za (zc 0) (za (zc 1) (za (zc 2) zo)))))
  (wQ xNo (xN false 4 (zn ixD (zc 3) (eC (.int 1))))
  (xIf (tOf (zn xq (zc 4) (eC .non))) (xRI (zib 10 1) (za (eIf (tOf (zn wP (zn ixD (zc 4) (eC (.int 0))) (eC (.str "list")))) (eUn zaw (eC (.int 1))) (zn ixD (zc 4) (eC (.int 1)))) zo)) xNo))))
def WG:=fnX 5 Zt
def zea (T:Txt P w K mg base ad):T.Px 20 8 3 WG:=by
 letI:KK:=⟨K,ad.dk⟩
 have G_must_be_web:=vC T
 have X_must_be_web:=Wn T
 have G_must_be_heap:=wV T
 have X_must_be_heap:=XC T
 have G_walk:=zfU T
 refine vI (cl:=clT ad) (N:=(Rw 20).N) (ps:=(Rw 20).ps) (T.d 20).fn (sc 20) (gx:=Zt) λb A outer s H E a=>?_
 (first | apply zka | apply z4 | apply xt) <;> walk_at "s"
 all_goals first | exact(vP (cl:=clT ad) ⟨T.g_NoSteps,T.ei_NoSteps,T.ea_NoSteps,vX T.na_NoSteps⟩ (zbX T) T.bi_NoSteps (Z0 (zh6 ad) (show 10<16 by decide)) (a.mono (by decide)) rfl (zb (zqn (zY (yF a) z3 (yk _) (z5 (edv 4) (zt zr) (λ_ _=>rfl)) (zQ zK)) (zbx (zt zr)) (z5 (edv 4) (zt zr) (λ_ _=>rfl))) zh))
abbrev zcJ :=zS (sIf (Vh (yq (tOf (eUn (wv .tuple) (zc 0)))) (tOf (zn neD (eFn XQ (za (zc 0) zo)) (eC (.int 2))))) (yW (eC (.bl false))) zE)
  (zS (xN false 1 (zn ixD (zc 0) (eC (.int 0))))
  (zS (sIf (yq (tOf (eUn (wv .str) (zc 1)))) (yW (eC (.bl false))) zE)
  (zS (sIf (tOf (zn wP (zc 1) (eC (.str "tree")))) sNo zE)
  (yW (ZK (eUn (zkQ ZB) (zc 1)) (zq 3 zP (za (zn ixD (zc 0) (eC (.int 1))) (za (eUn (zgW ZB 0) (zc 1)) (za (eUn (zgW ZB 1) (zc 1)) zo)))))))))
def Zf:=fnD 2 zcJ
def Xi (T:Txt P w K mg base ad):T.Pr 21 3 1 Zf:=by
 have G_is_whole_within:=xM T
 walk_at "p"
 all_goals first | exact(zj4 T.b_SIZES rfl T.g_SIZES (edv 1)) | exact(zif T.b_SIZES (by decide) rfl T.g_SIZES (edv 1) (λ_ _=>rfl))
abbrev zb5 :=zS (sIf (tOf (zn wP (zc 0) (eC (.str "cube")))) sNo zE)
  (zS (sIf (tOf (zn wP (zc 0) (eC (.str "star")))) sNo zE)
  (zS (sIf (tOf (zn wP (zc 0) (eC (.str "tree")))) sNo zE)
  (yW (zc 1))))
def Wg:=fnD 2 zb5
def zbI (T:Txt P w K mg base ad):T.Pr 22 1 2 Wg:=by
 walk_at "p"
abbrev zeu :=zS (sIf (tOf (zn wP (zc 0) (eC (.str "row")))) (yW (zn wP (zc 3) (zn wt (zc 2) (eC (.int 1))))) zE)
  (zS (sIf (tOf (zn wP (zc 0) (eC (.str "ring")))) sNo zE)
  (zS (sIf (tOf (zn wP (zc 0) (eC (.str "cube")))) sNo zE)
  (zS (sIf (tOf (zn wP (zc 0) (eC (.str "star")))) sNo zE)
  (zS (sIf (tOf (zn wP (zc 0) (eC (.str "tree")))) sNo zE)
  (yW (eC (.bl true)))))))
def VD:=fnD 4 zeu
def zcL (T:Txt P w K mg base ad):T.Pr 23 1 4 VD:=by
 walk_at "p"
abbrev zcE :=zbU 4 (xO (fLC (zcy zb7 (za (zn wt (zc 5) (eC (.int 1))) (za (zc 3) zo))) b1 (tOf (zq 4 VD (za (zc 2) (za (zc 3) (za (zc 6) (za (zc 0) zo)))))) (vl (za (zc 6) (za (zc 0) zo)))))
abbrev zgK :=zS (sIf (yq (tOf (zq 1 Zf (za (zc 0) zo)))) sNo zE)
  (zS (xN false 1 (zn ixD (zc 0) (eC (.int 0))))
  (zS (xN false 2 (zn ixD (zc 0) (eC (.int 1))))
  (zS (xN false 3 (zq 2 Wg (za (zc 1) (za (zc 2) zo))))
  (zS (Vg 4 (yy zo))
  (zS (Y5 zaL (za (zc 3) zo) (wZ 5) zcE)
  (sFz 4 (yW (vl (za (zc 3) (za (eFn xH (za (zc 4) zo)) zo))))))))))
def zbf:=fnD 6 zgK
def zdV (T:Txt P w K mg base ad):T.Pr 24 4 1 zbf:=by
 have:=Xi T
 have:=zbI T
 have:=zcL T
 walk_at "p"
abbrev ZW :=xIf (yq (tOf (zq 1 Zf (za (zc 0) zo)))) (Xo 1) xNo
def Vr:=fnX 6 ZW
def zcI (T:Txt P w K mg base ad):T.Px 24 4 1 Vr:=by
 letI:KK:=⟨K,ad.dk⟩
 have G_kind_good:=Xi T
 refine vI (cl:=clT ad) (N:=(Rw 24).N) (ps:=(Rw 24).ps) (T.d 24).fn (sc 24) (gx:=ZW) λb A outer s H E a=>?_
 unfold ZW
 exact(xt (Ym (wf (wI (zA G_kind_good a rfl (T.d 21) (zb (edv 0) zh)))) (z4 (Yb (cl:=clT ad) (j:=1) ⟨T.g_NoKind,T.c_NoKind⟩ rfl)) z6))
def gl (c:Nat):List (List Nat)->List Nat
 | []=>[]
 | [x]=>x
 | x::y::r=>x++c::gl c (y::r)
def zl3 (c:Nat):∀ A:zD,(Str.join ⟨#[c]⟩ A).cps.toList=gl c (A.map λa=>a.cps.toList):=by
 intro A
 induction A with
 | nil=>rfl
 | cons x r b =>
  cases r with
  | nil=>rfl
  | cons y r =>
   show((x++⟨#[c]⟩++Str.join ⟨#[c]⟩ (y::r)).cps).toList=x.cps.toList++c::gl c ((y::r).map λa=>a.cps.toList)
   rw[<-b,Str.cps_append,Str.cps_append,Array.toList_append,Array.toList_append,u0X]
   rfl
def ziF:Str.ofString " "=⟨#[32]⟩:=by decide
def nS (n:Int):Str:=Str.ofString (toString n)
def okS (n:Nat):Bool:=(nS (n:Int)).cps.toList.all (λc=>decide (48<=c)&&decide (c<=57))&&decide ((nS (n:Int)).length<=3)
def zm8:(List.range 301).all okS=true:=by decide +kernel
def zoH {n:Int}(h0:0<=n)(b:n<=300):(∀ c∈(nS n).cps.toList,48<=c/\c<=57)/\(nS n).length<=3:=by
 have h:=m7.mp zm8 n.toNat (u02.mpr (by omega))
 unfold okS at h
 rw[show((n.toNat:Nat):Int)=n by omega,j6]at h
 refine⟨λc a=>?_,k8 h.2⟩
 have:=m7.mp h.1 c a
 rw[j6]at this
 exact⟨k8 this.1,k8 this.2⟩
def X1 (w:Str) (ns:zy):Str:=Txt.join (Str.ofString " ") (w::ns.map nS)
structure Z2 (w:Str):Prop where
 len:w.length<=4
 asc:∀ c∈w.cps.toList,97<=c/\c<=122
structure Zv (ns:zy):Prop where
 few:ns.length<=8
 rng:∀ n∈ns,0<=n/\n<=300
def zbi {w:Str}{ns:zy}(hw:Z2 w)(c:Zv ns):∀ y∈w::ns.map nS,y.length<=4:=λy b=>by
 rcases j9.mp b with rfl | b
 .exact hw.len
 .obtain⟨n,a,rfl⟩:=u0D.mp b
  have:=(zoH (c.rng n a).1 (c.rng n a).2).2
  omega
def zaE {w:Str}(hw:Z2 w)(a:Zv ns):(X1 w ns).length<=45:=by
 have c:X1 w ns=Str.join (Str.ofString " ") (w::ns.map nS):=u1G _ _
 have b:=StrLaws.join_length_le (Str.ofString " ") (w::ns.map nS)
 have f:=StrLaws.sumLen_le (w::ns.map nS) (zbi hw a)
 have e:(w::ns.map nS).length<=9:=by rw[o4,t4];have:=a.few;omega
 have d:(Str.ofString " ").length=1:=by decide
 rw[c]
 rw[d]at b
 omega
def ZM {w:Str}(hw:Z2 w)(g:Zv ns):∀ c∈(X1 w ns).cps.toList,32<=c/\c<=122:=by
 have j:X1 w ns=Str.join (Str.ofString " ") (w::ns.map nS):=u1G _ _
 rw[j,ziF,zl3]
 have key:∀ A:List (List Nat),(∀ a∈A,∀ c∈a,32<=c/\c<=122)->∀ c∈gl 32 A,32<=c/\c<=122:=λA=>by
  induction A with
  | nil=>intro _ c b;cases b
  | cons x r i =>
   intro h c b
   cases r with
   | nil=>exact h x (.head _) c b
   | cons y r =>
    rcases i8.mp (show c∈x++32::gl 32 (y::r)from b)with b | b
    .exact h x (.head _) c b
    .rcases j9.mp b with rfl | b
     .decide
     .exact i (λa f=>h a (.tail _ f)) c b
 refine key _ λa f c b=>?_
 obtain⟨s,e,rfl⟩:=u0D.mp f
 rcases j9.mp e with rfl | e
 .have:=hw.asc c b
  omega
 .obtain⟨n,d,rfl⟩:=u0D.mp e
  have:=(zoH (g.rng n d).1 (g.rng n d).2).1 c b
  omega
def zgL {s:Str}{a:zD}{B:Nat}(b:∀ y∈a,y.length<=B)(h:a.length*B+a.length*s.length<=16777216):JoinOk s a=true:=by
 unfold JoinOk
 rw[StrLaws.joinFits b h]
 rfl
def ziQ {w:Str} {ns:zy} (hw:Z2 w) (a:Zv ns):zee (.str (Str.ofString " ")) (.lst ((w::ns.map nS).map .str))=some (.str (X1 w ns)):=by
 show(Wd ((w::ns.map nS).map .str)).bind _=_
 rw[VA,k6,t9 (zgL (zbi hw a) ?_)]
 .rfl
 .have c:(w::ns.map nS).length<=9:=by rw[o4,t4];have:=a.few;omega
  have b:(Str.ofString " ").length=1:=by decide
  rw[b]
  omega
def zlc:Z2 (Str.ofString "web"):=⟨by decide,by decide⟩
def zmT:Z2 (Str.ofString "tie"):=⟨by decide,by decide⟩
def zfq:Z2 (Str.ofString "heap"):=⟨by decide,by decide⟩
def zcK {n:Int}(h0:0<=n)(a:n<=300):zkJ [.int n]=some (.str (nS n)):=by
 show(if 0<=n/\n<1000000 then _ else _)=_
 rw[t9 ⟨h0,by omega⟩]
 rfl
def zl1 {ns:zy}{i:yB}(b:i ρ=some (ns.map .int))(a:Zv ns):fLC i b1 x9 (eFn zkJ (za (zc 0) zo)) ρ=some ((ns.map nS).map .str):=by
 unfold fLC
 rw[b,k6,t9 (Z3 (by rw[t4];have:=a.few;omega)),u0V]
 refine zac D.int (D.str∘nS) ns λn h=>⟨[some (.int n)],rfl,rfl,?_⟩
 exact zdZ (ds:=[.int n]) rfl (zcK (a.rng n h).1 (a.rng n h).2)
abbrev Zo :=yW (zf4 zee (eC (.str " ")) (za (zn wt (xO (yy (za (zc 0) zo))) (xO (fLC (iOf (zc 1)) b1 x9 (eFn zkJ (za (zc 0) zo))))) zo))
def xa:=fnD 2 Zo
def ZN {w:Str}{ns:zy}{d:D}(hw:Z2 w)(a:Zv ns)(b:vj d=some (ns.map .int)):xa [.str w,d]=some (.str (X1 w ns)):=by
 refine Xu (ρ:=[.v (.str w),.v d]) rfl ?_
 unfold Zo
 refine YU (d:=.str (X1 w ns)) (yJ ?_) rfl
 have c:zn wt (xO (yy (za (zc 0) zo))) (xO (fLC (iOf (zc 1)) b1 x9 (eFn zkJ (za (zc 0) zo)))) (visG [.v (.str w),.v d])=some (.lst ((w::ns.map nS).map .str)):=by
  refine zH (x:=.lst [.str w]) (y:=.lst ((ns.map nS).map .str)) rfl (Y1 (zl1 (zcZ (d:=d) rfl b) a)) ?_
  rw[Zk (by rw[t4,t4];have:=a.few;show 1+_<=1000;omega)]
  rfl
 unfold zf4
 rw[zj c zX]
 exact ziQ hw a
def zej (T:Txt P w K mg base ad):T.Pr 25 1 2 xa:=by
 letI:KK:=⟨K,ad.dk⟩
 refine za3 (N:=(Rw 25).N) (ps:=(Rw 25).ps) (T.d 25).fn (sc 25) (g:=Zo) λc A outer s H E d=>?_
 unfold Zo
 exact(zR (wq (zgI (zQ zK) (zb (wX (YS (wH (zb (edv 0) zh))) (YS (zhs (L:=["number"]) (M:=["word","numbers"]) rfl (Wx (by rfl) (by rfl) (by rfl) (by with_unfolding_all rfl) (by rfl) (by rfl) (by kernel_rfl) v9) (XY (edv 1)) gs1 rb1 (λ_ _ _ _=>(xy (i:=0) zqK rfl (Or.inl rfl) (.inr rfl))) (λ_ _ _ _=>(Yu Yy zcr rfl (T.z "str" (by decide)) Z5 (zb (edv 0) zh)))))) zh) (λa b=>Xx u0y PySem.F.slot_str_join PySem.F.type_str_join zgy a b))))
def Y8 (m:Int) (a:yl) (h:zy):zD:=X1 (Str.ofString "web") [m]::(a.map λt=>X1 (Str.ofString "tie") [t.1,t.2])++[X1 (Str.ofString "heap") h]
def zdY (m:Int) (a:yl) (h:zy):Str:=Txt.join (Str.ofString "\n") (Y8 m a h)
structure xF (m:Int) (ts:yl) (h:zy):Prop where
 ok:wr m ts
 few:ts.length<=28
 len:(h.length:Int)=m
 nn:∀ x∈h,0<=x
 sum:h.sum<=300
section
variable {m:Int}{ts:yl}{h:zy}(A:xF m ts h)
include A
theorem xF.nW:Zv [m]:=⟨by show 1<=8;decide,λn a=>by rw[t8.mp a];have:=A.ok.lo;have:=A.ok.hi;omega⟩
theorem xF.nT {t:Tie}(b:t∈ts):Zv [t.1,t.2]:=⟨by show 2<=8;decide,λn a=>by
 have r:=A.ok.rng t b
 have:=A.ok.hi
 rcases j9.mp a with rfl | a
 .omega
 .rw[t8.mp a];omega⟩
theorem xF.nH:Zv h:=⟨by have:=A.len;have:=A.ok.hi;omega,λn d=>⟨A.nn n d,by
 have g:=A.sum
 have key:∀ l:zy,(∀ x∈l,0<=x)->n∈l->n<=l.sum:=λl=>by
  induction l with
  | nil=>intro _ z;cases z
  | cons a l e =>
   intro c z
   rw[List.sum_cons]
   have h0:=c a (.head _)
   have f:0<=l.sum:=zkA λx b=>c x (.tail _ b)
   rcases j9.mp z with rfl | z
   .omega
   .have:=e (λx b=>c x (.tail _ b)) z;omega
 have:=key h A.nn d
 omega⟩⟩
theorem xF.rows:∀ r∈Y8 m ts h,r.length<=45/\∀ c∈r.cps.toList,32<=c/\c<=122:=λr a=>by
 unfold Y8 at a
 rcases i8.mp a with a | a
 .rcases j9.mp a with rfl | a
  .exact⟨zaE zlc A.nW,ZM zlc A.nW⟩
  .obtain⟨t,b,rfl⟩:=u0D.mp a
   exact⟨zaE zmT (A.nT b),ZM zmT (A.nT b)⟩
 .rw[t8.mp a]
  exact⟨zaE zfq A.nH,ZM zfq A.nH⟩
theorem xF.count:(Y8 m ts h).length=ts.length+2/\(Y8 m ts h).length<=30:=by
 have e:(Y8 m ts h).length=ts.length+2:=by
  unfold Y8
  rw[j7,o4,t4]
  rfl
 have:=A.few
 exact⟨e,by omega⟩
theorem xF.short:(zdY m ts h).length<=1500:=by
 have d:zdY m ts h=Str.join (Str.ofString "\n") (Y8 m ts h):=u1G _ _
 have b:=StrLaws.join_length_le (Str.ofString "\n") (Y8 m ts h)
 have e:=StrLaws.sumLen_le (Y8 m ts h) λr a=>(A.rows r a).1
 have f:=A.count.2
 have c:(Str.ofString "\n").length=1:=by decide
 rw[d]
 rw[c]at b
 omega
theorem xF.join:zee (.str (Str.ofString "\n")) (.lst ((Y8 m ts h).map .str))=some (.str (zdY m ts h)):=by
 show(Wd ((Y8 m ts h).map .str)).bind _=_
 rw[VA,k6,t9 (zgL (λr a=>(A.rows r a).1) ?_)]
 .rfl
 .have c:=A.count.2
  have b:(Str.ofString "\n").length=1:=by decide
  rw[b]
  omega
end
abbrev zau :=zS (vR (zq 1 ye (za (zc 0) zo)))
  (zS (vR (zq 2 yg (za (zc 0) (za (zc 1) zo))))
  (zS (xN false 2 (xO (fLC (iOf (zn ixD (zc 0) (eC (.int 1)))) b1 x9 (zq 2 xa (za (eC (.str "tie")) (za (zc 0) zo))))))
  (yW (zf4 zee (eC (.str "\n")) (za (zn wt (zn wt (xO (yy (za (zq 2 xa (za (eC (.str "web")) (za (xO (yy (za (zn ixD (zc 0) (eC (.int 0))) zo))) zo))) zo))) (zc 2)) (xO (yy (za (zq 2 xa (za (eC (.str "heap")) (za (zc 1) zo))) zo)))) zo)))))
def zci:=fnD 3 zau
def zix {m:Int} {a:yl}:[D.str (X1 (Str.ofString "web") [m])]++(a.map λt=>D.str (X1 (Str.ofString "tie") [t.1,t.2]))++[D.str (X1 (Str.ofString "heap") h)]=(Y8 m a h).map .str:=by
 unfold Y8
 rw[p4,o7,u0V]
 rfl
def zjx (ok:wr m a):ye [zT m a]=some .non:=by
 have hw:Yd (zT m a)=true:=(vM _).mpr ⟨_,_,rfl,ok⟩
 simp[ye,hw]
def ze2 {h:zy}(A:xF m a h):yg [zT m a,.tup (h.map .int)]=some .non:=by
 show(if (noS (.tup (h.map .int))&&decide (m<=1000)&&wT m (.tup (h.map .int)))=true then some D.non else none)=_
 rw[VY,WL A.ok,YG A.len A.nn A.sum]
 rfl
def zi7 {h:zy}(A:xF m a h):zci [zT m a,.tup (h.map .int)]=some (.str (zdY m a h)):=by
 have l:=A.few
 refine Xu (ρ:=[.v (zT m a),.v (.tup (h.map .int)),.no]) rfl ?_
 unfold zau
 refine zG (y6 (d:=.non) (zjx A.ok)) ?_
 refine zG (y6 (d:=.non) (ze2 A)) ?_
 refine zG (ρ':=[.v (zT m a),.v (.tup (h.map .int)),.v (.lst (a.map λt=>.str (X1 (Str.ofString "tie") [t.1,t.2])))]) (vQ (Y1 ?_)) ?_
 .unfold fLC
  rw[zcZ (d:=.tup (a.map zi)) rfl rfl,k6,t9 (Z3 (by rw[t4];omega))]
  refine zac zi _ a λt j=>⟨[some (zi t)],rfl,rfl,?_⟩
  exact zv (ds:=[.str (Str.ofString "tie"),zi t]) rfl (ZN zmT (A.nT j) rfl)
 refine YU (d:=.str (zdY m a h)) (yJ ?_) rfl
 have k:zn wt (zn wt (xO (yy (za (zq 2 xa (za (eC (.str "web")) (za (xO (yy (za (zn ixD (zc 0) (eC (.int 0))) zo))) zo))) zo))) (zc 2)) (xO (yy (za (zq 2 xa (za (eC (.str "heap")) (za (zc 1) zo))) zo))) (visG [.v (zT m a),.v (.tup (h.map .int)),.v (.lst (a.map λt=>.str (X1 (Str.ofString "tie") [t.1,t.2])))])=some (.lst ((Y8 m a h).map .str)):=by
  have f:zq 2 xa (za (eC (.str "web")) (za (xO (yy (za (zn ixD (zc 0) (eC (.int 0))) zo))) zo)) (visG [.v (zT m a),.v (.tup (h.map .int)),.v (.lst (a.map λt=>.str (X1 (Str.ofString "tie") [t.1,t.2])))])=some (.str (X1 (Str.ofString "web") [m])):=by
   refine zv (ds:=[.str (Str.ofString "web"),.lst [.int m]]) rfl ?_
   exact ZN zlc A.nW rfl
  have e:zq 2 xa (za (eC (.str "heap")) (za (zc 1) zo)) (visG [.v (zT m a),.v (.tup (h.map .int)),.v (.lst (a.map λt=>.str (X1 (Str.ofString "tie") [t.1,t.2])))])=some (.str (X1 (Str.ofString "heap") h)):=by
   refine zv (ds:=[.str (Str.ofString "heap"),.tup (h.map .int)]) rfl ?_
   exact ZN zfq A.nH rfl
  generalize i:visG [.v (zT m a),.v (.tup (h.map .int)),.v (.lst (a.map λt=>.str (X1 (Str.ofString "tie") [t.1,t.2])))]=E0 at f e
  have g:zc 2 E0=some (.lst (a.map λt=>.str (X1 (Str.ofString "tie") [t.1,t.2]))):=by rw[<-i];rfl
  have b:xO (yy (za (zq 2 xa (za (eC (.str "web")) (za (xO (yy (za (zn ixD (zc 0) (eC (.int 0))) zo))) zo))) zo)) E0=some (.lst [.str (X1 (Str.ofString "web") [m])]):=Y1 (Wm (zj f zX) (by show 1<=1000;decide))
  have c:xO (yy (za (zq 2 xa (za (eC (.str "heap")) (za (zc 1) zo))) zo)) E0=some (.lst [.str (X1 (Str.ofString "heap") h)]):=Y1 (Wm (zj e zX) (by show 1<=1000;decide))
  refine zH (zH b g (Zk (by rw[t4];show 1+_<=1000;omega))) c ?_
  rw[Zk (by rw[j7,t4];show 1+_+1<=1000;omega),zix]
 unfold zf4
 rw[zj k zX]
 exact A.join
def zhd (T:Txt P w K mg base ad):ziq P w K mg base CX0 8 (ad.f 26) (ad.e 26) (Rw 26).ps (@spD ⟨K,ad.dk⟩ 2 zci):=by
 letI:KK:=⟨K,ad.dk⟩
 have G_must_be_web:=vC T
 have G_must_be_heap:=wV T
 have G_written:=zej T
 refine zmv (N:=["web","heap","ties"]) (x0:="web") (pr:=["heap"]) (T.d 26).fn (sc 26) (by decide +kernel) (g:=zau) λd A outer s H E c=>?_
 unfold zau
 exact(zC (Wt (zA G_must_be_web c rfl (T.d 8) (zb (edv 0) zh)))
  (zC (Wt (zA G_must_be_heap c rfl (T.d 14) (zb (edv 0) (zb (edv 1) zh))))
  (zC (zch (m:=false) (i:=2) (zcA (L:=["tie"]) (M:=["web","heap","ties"]) (sc 26).nd rfl (Or.inl rfl) rfl (Wx (by rfl) (by rfl) (by rfl) (by with_unfolding_all rfl) (by rfl) (by rfl) (by kernel_rfl) v9) (XY (z5 (edv 0) (zt zr) (λ_ _=>rfl))) gs1 rb1 (λ_ _ _ _=>(xy (i:=0) zqN rfl (Or.inl rfl) (.inr rfl))) (λ_ _ _ _=>(zA G_written c rfl (T.d 25) (zb (zQ zK) (zb (edv 0) zh))))))
  (zR (wq (zgI (zQ zK) (zb (wX (wX (YS (wH (zb (zA G_written c rfl (T.d 25) (zb (zQ zK) (zb (YS (wH (zb (z5 (edv 0) (zt zr) (λ_ _=>rfl)) zh))) zh))) zh))) (edv 2)) (YS (wH (zb (zA G_written c rfl (T.d 25) (zb (zQ zK) (zb (edv 1) zh))) zh)))) zh) (λa b=>Xx u0y PySem.F.slot_str_join PySem.F.type_str_join zgy a b)))))))
abbrev wE :=zS (sIf (Vh (yq (tOf (wo leD leD (eC (.int 1)) (eFn ziU (za (zc 0) zo)) (eC (.int 3))))) (yq (tOf (eFn znm (za (xO (fLC (iTx (zc 0)) b1 x9 (zn zqS (zc 0) (eC (.str "0123456789"))))) zo))))) (yW (eC .non)) zE)
  (zS (sIf (Za (tOf (zn gtD (eFn ziU (za (zc 0) zo)) (eC (.int 1)))) (tOf (zn wP (zn zpO (zc 0) (eC (.int 0))) (eC (.str "0"))))) (yW (eC .non)) zE)
  (yW (eFn zmC (za (zc 0) zo))))
def wx:=fnD 1 wE
def vK (T:Txt P w K mg base ad):T.Pr 27 1 1 wx:=by
 letI:KK:=⟨K,ad.dk⟩
 refine za3 (N:=(Rw 27).N) (ps:=(Rw 27).ps) (T.d 27).fn (sc 27) (g:=wE) λe A outer s H E d=>?_
 unfold wE
 exact(zC (xR (zpr (zjK (wf (zja V6 V6 wa wa (zt zr) (xg Xe zdO rfl (T.z "len" (by decide)) Xf (zb (edv 0) zh)) (zt (yU (v:=.int 3) rfl T.g_MOST_FIGURES ⟨_,rfl⟩)) (λa b c=>ziM V6 V6 a b c))) (zdy (wf (wI (xg (zbm rfl) zhm rfl (T.z "all" (by decide)) zkH (zb (YS (zhs (L:=["sign"]) (M:=["word"]) rfl (Wx (by rfl) (by rfl) (by rfl) (by with_unfolding_all rfl) (by rfl) (by rfl) (by kernel_rfl) v9) (znX (edv 0)) gs1 rb1 (λ_ _ _ _=>(xy (i:=0) zqD rfl (Or.inl rfl) (.inr rfl))) (λ_ _ _ _=>(Z6 zh2 zlX (by with_unfolding_all rfl) (edv 0) (zQ zK))))) zh))))))) (zR (wq (Vu Vm))) z8)
  (zC (xR (zpr (zkl (zY znV wa (yk _) (xg Xe zdO rfl (T.z "len" (by decide)) Xf (zb (edv 0) zh)) (zt zr)) (zfd (zY (yF d) z3 (yk _) (zpz (edv 0) (zt zr) (λ_ _=>rfl)) (zQ zK))))) (zR (wq (Vu Vm))) z8)
  (zR (wq (Yu zbP zjr rfl (T.z "int" (by decide)) zhG (zb (edv 0) zh))))))
abbrev V9 :=zS (sIf (yq (tOf (eUn (wv .str) (zc 0)))) sNo zE)
  (zS (xN false 1 (xO (zmL zdn (zc 0) (za (eC (.str " ")) zo))))
  (zS (xN false 2 (xO (fLC (iOf (eSl slD (zc 1) (wL (eC (.int 1))) vk)) b1 x9 (zq 1 wx (za (zc 0) zo)))))
  (zS (xN false 3 (zoe (ZZ Wc) (za (zn ixD (zc 1) (eC (.int 0))) (za (zoe (ZZ zI) (za (zn ixD (zc 1) (eC (.int 0))) (za (eUn zaw (eC (.int 1))) zo))) zo))))
  (zS (sIf (Vh (tOf (zn inD (eC .non) (zc 2))) (tOf (zn neD (eFn XQ (za (zc 2) zo)) (zc 3)))) sNo zE)
  (yW (vl (za (zn ixD (zc 1) (eC (.int 0))) (za (zc 2) zo))))))))
def xm:=fnD 4 V9
def Wk (T:Txt P w K mg base ad):T.Pr 28 2 1 xm:=by
 letI:KK:=⟨K,ad.dk⟩
 have G_number_written:=vK T
 refine za3 (N:=(Rw 28).N) (ps:=(Rw 28).ps) (T.d 28).fn (sc 28) (g:=V9) λd A outer s H E c=>?_
 unfold V9
 exact(zC (xR (wf (wI (Yp .str rfl (T.z "isinstance" (by decide)) (edv 0) (vY (v:=.ty "str") rfl (T.z "str" (by decide)) Z5 rfl)))) (zR vq) z8)
  (zC (wK (m:=false) (i:=1) (sc 28).nd rfl (Or.inl rfl) (YS (zcX (edv 0) (zb (zQ zK) zh) (λa b=>Xx u0y PySem.F.slot_str_split PySem.F.type_str_split zc9 a b))))
  (zC (zch (m:=false) (i:=2) (zcA (L:=["part"]) (M:=["row","words","numbers","wanted"]) (sc 28).nd rfl (Or.inl rfl) rfl (Wx (by rfl) (by rfl) (by rfl) (by with_unfolding_all rfl) (by rfl) (by rfl) (by kernel_rfl) v9) (XY (XW (edv 1) (V4 (zt zr)) V0)) gs1 rb1 (λ_ _ _ _=>(xy (i:=0) zpC rfl (Or.inl rfl) (.inr rfl))) (λ_ _ _ _=>(zA G_number_written c rfl (T.d 27) (zb (edv 0) zh)))))
  (zC (wK (m:=false) (i:=3) (sc 28).nd rfl (Or.inl rfl) (YL T.b_DEEDS (zb (z5 (edv 1) (zt zr) (λ_ _=>rfl)) (zb (YL T.b_QUESTIONS (zb (z5 (edv 1) (zt zr) (λ_ _=>rfl)) (zb (zbx (zt zr)) zh)) (λa=>VS T.b_QUESTIONS rfl T.g_QUESTIONS a)) zh)) (λa=>VS T.b_DEEDS rfl T.g_DEEDS a)))
  (zC (xR (zpr (zjK (zY (zdT c) zdC (by with_unfolding_all rfl) (Vu Vm) (edv 2)) (zdy (zY zgH zc7 (yk _) (xg xB ZO rfl (T.z "len" (by decide)) Xf (zb (edv 2) zh)) (edv 3))))) (zR vq) z8)
  (zR (wq (ve (zb (z5 (edv 1) (zt zr) (λ_ _=>rfl)) (zb (edv 2) zh))))))))))
abbrev Wq :=wQ (xIf (yq (tOf (eUn (wv .str) (zc 0)))) (Xo 9) xNo) (sIf (yq (tOf (eUn (wv .str) (zc 0)))) sNo zE)
  (wQ xNo (xN false 1 (xO (zmL zdn (zc 0) (za (eC (.str " ")) zo))))
  (wQ xNo (xN false 2 (xO (fLC (iOf (eSl slD (zc 1) (wL (eC (.int 1))) vk)) b1 x9 (zq 1 wx (za (zc 0) zo)))))
  (wQ xNo (xN false 3 (zoe (ZZ Wc) (za (zn ixD (zc 1) (eC (.int 0))) (za (zoe (ZZ zI) (za (zn ixD (zc 1) (eC (.int 0))) (za (eUn zaw (eC (.int 1))) zo))) zo))))
  (xIf (Vh (tOf (zn inD (eC .non) (zc 2))) (tOf (zn neD (eFn XQ (za (zc 2) zo)) (zc 3)))) (Xo 9) xNo))))
def vg:=fnX 4 Wq
def zez (T:Txt P w K mg base ad):T.Px 28 2 1 vg:=by
 letI:KK:=⟨K,ad.dk⟩
 have G_number_written:=vK T
 refine vI (cl:=clT ad) (N:=(Rw 28).N) (ps:=(Rw 28).ps) (T.d 28).fn (sc 28) (gx:=Wq) λd A outer s H E c=>?_
 unfold Wq
 exact(yf (Ym (wf (wI (Yp .str rfl (T.z "isinstance" (by decide)) (edv 0) (vY (v:=.ty "str") rfl (T.z "str" (by decide)) Z5 rfl)))) (z4 (Yb (cl:=clT ad) (j:=9) ⟨T.g_NoRow,T.c_NoRow⟩ rfl)) z6) (SD.nox (xR (wf (wI (Yp .str rfl (T.z "isinstance" (by decide)) (edv 0) (vY (v:=.ty "str") rfl (T.z "str" (by decide)) Z5 rfl)))) (zR vq) z8))
  (yf vp (SD.nox (wK (m:=false) (i:=1) (sc 28).nd rfl (Or.inl rfl) (YS (zcX (edv 0) (zb (zQ zK) zh) (λa b=>Xx u0y PySem.F.slot_str_split PySem.F.type_str_split zc9 a b)))))
  (yf vp (SD.nox (zch (m:=false) (i:=2) (zcA (L:=["part"]) (M:=["row","words","numbers","wanted"]) (sc 28).nd rfl (Or.inl rfl) rfl (Wx (by rfl) (by rfl) (by rfl) (by with_unfolding_all rfl) (by rfl) (by rfl) (by kernel_rfl) v9) (XY (XW (edv 1) (V4 (zt zr)) V0)) gs1 rb1 (λ_ _ _ _=>(xy (i:=0) zpC rfl (Or.inl rfl) (.inr rfl))) (λ_ _ _ _=>(zA G_number_written c rfl (T.d 27) (zb (edv 0) zh))))))
  (yf vp (SD.nox (wK (m:=false) (i:=3) (sc 28).nd rfl (Or.inl rfl) (YL T.b_DEEDS (zb (z5 (edv 1) (zt zr) (λ_ _=>rfl)) (zb (YL T.b_QUESTIONS (zb (z5 (edv 1) (zt zr) (λ_ _=>rfl)) (zb (zbx (zt zr)) zh)) (λa=>VS T.b_QUESTIONS rfl T.g_QUESTIONS a)) zh)) (λa=>VS T.b_DEEDS rfl T.g_DEEDS a))))
  (xt (Ym (zpr (zjK (zY (zdT c) zdC (by with_unfolding_all rfl) (Vu Vm) (edv 2)) (zdy (zY zgH zc7 (yk _) (xg xB ZO rfl (T.z "len" (by decide)) Xf (zb (edv 2) zh)) (edv 3))))) (z4 (Yb (cl:=clT ad) (j:=9) ⟨T.g_NoRow,T.c_NoRow⟩ rfl)) z6))))))
abbrev zpA :=yW (vl (za (zc 0) (za (zn zjp (vl (za (eC (.int 0)) zo)) (zn ixD (zc 0) (eC (.int 0)))) zo)))
def zc5:=fnD 1 zpA
def zhK (T:Txt P w K mg base ad):T.Pr 29 1 1 zc5:=by
 walk_at "q"
abbrev zkh :=zS (vR (zq 2 zp (za (zc 0) (za (zc 1) zo))))
  (zS (vR (zq 2 zp (za (zc 0) (za (zc 2) zo))))
  (yW (zq 2 Zr (za (zn ixD (zc 0) (eC (.int 0))) (za (zn wt (xO (fFn v8 (za (zn ixD (zc 0) (eC (.int 1))) zo))) (xO (yy (za (vl (za (zc 1) (za (zc 2) zo))) zo)))) zo)))))
def zbL:=fnD 3 zkh
def zgi (T:Txt P w K mg base ad):T.Pr 30 6 3 zbL:=by
 have:=z0 T
 have:=Wy T
 walk_at "p"
abbrev W2 :=wQ (xEx (xP 2 zB (za (zc 0) (za (zc 1) zo)))) (vR (zq 2 zp (za (zc 0) (za (zc 1) zo))))
  (wQ (xEx (xP 2 zB (za (zc 0) (za (zc 2) zo)))) (vR (zq 2 zp (za (zc 0) (za (zc 2) zo))))
  (xEx (xP 2 Zy (za (zn ixD (zc 0) (eC (.int 0))) (za (zn wt (xO (fFn v8 (za (zn ixD (zc 0) (eC (.int 1))) zo))) (xO (yy (za (vl (za (zc 1) (za (zc 2) zo))) zo)))) zo)))))
def zah:=fnX 3 W2
def zin (T:Txt P w K mg base ad):T.Px 30 6 3 zah:=by
 have:=z0 T
 have:=xf T
 have:=VH T
 walk_at "x"
abbrev zoN :=zS (vR (zq 2 zp (za (zc 0) (za (zc 1) zo))))
  (zS (vR (zq 2 zp (za (zc 0) (za (zc 2) zo))))
  (zS (xN false 3 (zq 2 zW (za (zc 1) (za (zc 2) zo))))
  (zS (sIf (tOf (zn zdf (zc 3) (zn ixD (zc 0) (eC (.int 1))))) sNo zE)
  (yW (vl (za (zn ixD (zc 0) (eC (.int 0))) (za (eFn xH (za (xO (fLC (iOf (zn ixD (zc 0) (eC (.int 1)))) b1 (tOf (zn zoM (zc 0) (zc 4))) (zc 0))) zo)) zo)))))))
def zhW:=fnD 4 zoN
def zkp (T:Txt P w K mg base ad):T.Pr 31 5 3 zhW:=by
 have:=z0 T
 have:=xr T
 walk_at "p"
abbrev Vp :=wQ (xEx (xP 2 zB (za (zc 0) (za (zc 1) zo)))) (vR (zq 2 zp (za (zc 0) (za (zc 1) zo))))
  (wQ (xEx (xP 2 zB (za (zc 0) (za (zc 2) zo)))) (vR (zq 2 zp (za (zc 0) (za (zc 2) zo))))
  (wQ xNo (xN false 3 (zq 2 zW (za (zc 1) (za (zc 2) zo))))
  (xIf (tOf (zn zdf (zc 3) (zn ixD (zc 0) (eC (.int 1))))) (xRI (zib 0 1) (za (eFn XQ (za (zn ixD (zc 0) (eC (.int 1))) zo)) zo)) xNo)))
def zde:=fnX 4 Vp
def zlj (T:Txt P w K mg base ad):T.Px 31 5 3 zde:=by
 letI:KK:=⟨K,ad.dk⟩
 have G_must_be_place:=z0 T
 have X_must_be_place:=xf T
 have G_tie_between:=xr T
 refine vI (cl:=clT ad) (N:=(Rw 31).N) (ps:=(Rw 31).ps) (T.d 31).fn (sc 31) (gx:=Vp) λb A outer s H E a=>?_
 (first | apply zka | apply z4 | apply xt) <;> walk_at "s"
 all_goals first | exact(vP (cl:=clT ad) ⟨T.g_NoWeb,T.ei_NoWeb,T.ea_NoWeb,vX T.na_NoWeb⟩ (Yi T) T.bi_NoWeb (Z0 (zh6 ad) (show 0<16 by decide)) (a.mono (by decide)) rfl (zb (xg xB ZO rfl (T.z "len" (by decide)) Xf (zb (z5 (edv 0) (zt zr) (λ_ _=>rfl)) zh)) zh))
abbrev zpi :=zS (vR (zq 2 zp (za (zc 0) (za (zc 2) zo))))
  (zS (xN false 4 (zn wt (zn wt (eSl slD (zc 1) vk (wL (zc 2))) (vl (za (zn wt (zn ixD (zc 1) (zc 2)) (zc 3)) zo))) (eSl slD (zc 1) (wL (zn wt (zc 2) (eC (.int 1)))) vk)))
  (zS (sIf (yq (tOf (zq 2 yh (za (zc 0) (za (zc 4) zo))))) sNo zE)
  (yW (zc 4))))
def zha:=fnD 5 zpi
def zkg (T:Txt P w K mg base ad):T.Pr 32 5 4 zha:=by
 have:=z0 T
 have:=wM T
 walk_at "p"
abbrev zga :=wQ (xEx (xP 2 zB (za (zc 0) (za (zc 2) zo)))) (vR (zq 2 zp (za (zc 0) (za (zc 2) zo))))
  (wQ xNo (xN false 4 (zn wt (zn wt (eSl slD (zc 1) vk (wL (zc 2))) (vl (za (zn wt (zn ixD (zc 1) (zc 2)) (zc 3)) zo))) (eSl slD (zc 1) (wL (zn wt (zc 2) (eC (.int 1)))) vk)))
  (xIf (yq (tOf (zq 2 yh (za (zc 0) (za (zc 4) zo))))) (Xo 2) xNo))
def zc4:=fnX 5 zga
def zk7 (T:Txt P w K mg base ad):T.Px 32 5 4 zc4:=by
 have G_must_be_place:=z0 T
 have X_must_be_place:=xf T
 have G_are_stones:=wM T
 walk_at "x"
 all_goals first | exact(Yb (cl:=clT ad) (j:=2) ⟨T.g_NoHeap,T.c_NoHeap⟩ rfl)
abbrev We :=zS (vR (zq 2 zp (za (zc 0) (za (zc 2) zo))))
  (zS (vR (zq 2 zp (za (zc 0) (za (zc 3) zo))))
  (yW (zn ixD (zq 3 zat (za (zc 0) (za (zc 1) (za (xO (yy (za (vl (za (zc 2) (za (zc 3) zo))) zo))) zo)))) (eC (.int 0)))))
def vb:=fnD 4 We
def Z8 (T:Txt P w K mg base ad):T.Pr 33 9 4 vb:=by
 have:=z0 T
 have:=zf2 T
 walk_at "p"
abbrev wj :=wQ (xEx (xP 2 zB (za (zc 0) (za (zc 2) zo)))) (vR (zq 2 zp (za (zc 0) (za (zc 2) zo))))
  (wQ (xEx (xP 2 zB (za (zc 0) (za (zc 3) zo)))) (vR (zq 2 zp (za (zc 0) (za (zc 3) zo))))
  (xEx (xP 3 WG (za (zc 0) (za (zc 1) (za (xO (yy (za (vl (za (zc 2) (za (zc 3) zo))) zo))) zo))))))
def vo:=fnX 4 wj
def zaq (T:Txt P w K mg base ad):T.Px 33 9 4 vo:=by
 letI:KK:=⟨K,ad.dk⟩
 have G_must_be_place:=z0 T
 have X_must_be_place:=xf T
 have X_walked:=zea T
 refine vI (cl:=clT ad) (N:=(Rw 33).N) (ps:=(Rw 33).ps) (T.d 33).fn (sc 33) (gx:=wj) λb A outer s H E a=>?_
 unfold wj
 exact(yf (WJ (wy (X_must_be_place.mono (by decide)) ym a rfl (T.d 9).at_ (T.d 9).kp (T.d 9).bd (zb (edv 0) (zb (edv 2) zh)))) (SD.nox (Wt (zA G_must_be_place a rfl (T.d 9) (zb (edv 0) (zb (edv 2) zh)))))
  (yf (WJ (wy (X_must_be_place.mono (by decide)) ym a rfl (T.d 9).at_ (T.d 9).kp (T.d 9).bd (zb (edv 0) (zb (edv 3) zh)))) (SD.nox (Wt (zA G_must_be_place a rfl (T.d 9) (zb (edv 0) (zb (edv 3) zh)))))
  (z4 (Xc (zqU (wy (X_walked.mono (by decide)) ym a rfl (T.d 20).at_ (T.d 20).kp (T.d 20).bd (zb (edv 0) (zb (edv 1) (zb (YS (wH (zb (ve (zb (edv 2) (zb (edv 3) zh))) zh))) zh)))) (zt zr) (λ_ _=>rfl))))))
abbrev W3 :=zS (sIf (tOf (zn wP (zc 2) (eC (.str "web")))) (yW (zq 1 zc5 (za (zq 2 Zr (za (zn ixD (zc 3) (eC (.int 0))) (za (xO (yy zo)) zo))) zo))) zE)
  (zS (sIf (tOf (zn wP (zc 2) (eC (.str "tie")))) (yW (vl (za (zq 3 zbL (za (zc 0) (za (zn ixD (zc 3) (eC (.int 0))) (za (zn ixD (zc 3) (eC (.int 1))) zo)))) (za (zc 1) zo)))) zE)
  (zS (sIf (tOf (zn wP (zc 2) (eC (.str "cut")))) (yW (vl (za (zq 3 zhW (za (zc 0) (za (zn ixD (zc 3) (eC (.int 0))) (za (zn ixD (zc 3) (eC (.int 1))) zo)))) (za (zc 1) zo)))) zE)
  (zS (sIf (tOf (zn wP (zc 2) (eC (.str "put")))) (yW (vl (za (zc 0) (za (zq 4 zha (za (zc 0) (za (zc 1) (za (zn ixD (zc 3) (eC (.int 0))) (za (zn ixD (zc 3) (eC (.int 1))) zo))))) zo)))) zE)
  (zS (sIf (tOf (zn wP (zc 2) (eC (.str "step")))) (yW (vl (za (zc 0) (za (zq 4 vb (za (zc 0) (za (zc 1) (za (zn ixD (zc 3) (eC (.int 0))) (za (zn ixD (zc 3) (eC (.int 1))) zo))))) zo)))) zE)
  (yW (zq 1 zc5 (za (zq 1 zbf (za (vl (za (zc 2) (za (zn ixD (zc 3) (eC (.int 0))) zo))) zo)) zo)))))))
def v7:=fnD 4 W3
def zjA (T:Txt P w K mg base ad):T.Pr 34 10 4 v7:=by
 have:=Wy T
 have:=zdV T
 have:=zhK T
 have:=zgi T
 have:=zkp T
 have:=zkg T
 have:=Z8 T
 walk_at "p"
abbrev xI :=wQ (xIf (tOf (zn wP (zc 2) (eC (.str "web")))) (xEx (xP 2 Zy (za (zn ixD (zc 3) (eC (.int 0))) (za (xO (yy zo)) zo)))) xNo) (sIf (tOf (zn wP (zc 2) (eC (.str "web")))) (yW (zq 1 zc5 (za (zq 2 Zr (za (zn ixD (zc 3) (eC (.int 0))) (za (xO (yy zo)) zo))) zo))) zE)
  (wQ (xIf (tOf (zn wP (zc 2) (eC (.str "tie")))) (xEx (xP 3 zah (za (zc 0) (za (zn ixD (zc 3) (eC (.int 0))) (za (zn ixD (zc 3) (eC (.int 1))) zo))))) xNo) (sIf (tOf (zn wP (zc 2) (eC (.str "tie")))) (yW (vl (za (zq 3 zbL (za (zc 0) (za (zn ixD (zc 3) (eC (.int 0))) (za (zn ixD (zc 3) (eC (.int 1))) zo)))) (za (zc 1) zo)))) zE)
  (wQ (xIf (tOf (zn wP (zc 2) (eC (.str "cut")))) (xEx (xP 3 zde (za (zc 0) (za (zn ixD (zc 3) (eC (.int 0))) (za (zn ixD (zc 3) (eC (.int 1))) zo))))) xNo) (sIf (tOf (zn wP (zc 2) (eC (.str "cut")))) (yW (vl (za (zq 3 zhW (za (zc 0) (za (zn ixD (zc 3) (eC (.int 0))) (za (zn ixD (zc 3) (eC (.int 1))) zo)))) (za (zc 1) zo)))) zE)
  (wQ (xIf (tOf (zn wP (zc 2) (eC (.str "put")))) (xEx (zi0 (zc 0) (xP 4 zc4 (za (zc 0) (za (zc 1) (za (zn ixD (zc 3) (eC (.int 0))) (za (zn ixD (zc 3) (eC (.int 1))) zo))))))) xNo) (sIf (tOf (zn wP (zc 2) (eC (.str "put")))) (yW (vl (za (zc 0) (za (zq 4 zha (za (zc 0) (za (zc 1) (za (zn ixD (zc 3) (eC (.int 0))) (za (zn ixD (zc 3) (eC (.int 1))) zo))))) zo)))) zE)
  (wQ (xIf (tOf (zn wP (zc 2) (eC (.str "step")))) (xEx (zi0 (zc 0) (xP 4 vo (za (zc 0) (za (zc 1) (za (zn ixD (zc 3) (eC (.int 0))) (za (zn ixD (zc 3) (eC (.int 1))) zo))))))) xNo) (sIf (tOf (zn wP (zc 2) (eC (.str "step")))) (yW (vl (za (zc 0) (za (zq 4 vb (za (zc 0) (za (zc 1) (za (zn ixD (zc 3) (eC (.int 0))) (za (zn ixD (zc 3) (eC (.int 1))) zo))))) zo)))) zE)
  (xEx (xP 1 Vr (za (vl (za (zc 2) (za (zn ixD (zc 3) (eC (.int 0))) zo))) zo)))))))
def vm:=fnX 4 xI
def zfF (T:Txt P w K mg base ad):T.Px 34 10 4 vm:=by
 letI:KK:=⟨K,ad.dk⟩
 have G_web_of:=Wy T
 have X_web_of:=VH T
 have X_web_for:=zcI T
 have G_bare:=zhK T
 have G_tied:=zgi T
 have X_tied:=zin T
 have G_cut:=zkp T
 have X_cut:=zlj T
 have G_put:=zkg T
 have X_put:=zk7 T
 have G_step_done:=Z8 T
 have X_step_done:=zaq T
 refine vI (cl:=clT ad) (N:=(Rw 34).N) (ps:=(Rw 34).ps) (T.d 34).fn (sc 34) (gx:=xI) λb A outer s H E a=>?_
 unfold xI
 exact(yf (Ym (zY (yF a) z3 (yk _) (edv 2) (zQ zK)) (z4 (Xc (zdb (G_bare.mono (by decide)) a rfl (T.d 29).at_ (T.d 29).kp (T.d 29).bd (Zc (wy (X_web_of.mono (by decide)) ym a rfl (T.d 11).at_ (T.d 11).kp (T.d 11).bd (zb (z5 (edv 3) (zt zr) (λ_ _=>rfl)) (zb (YS (wH zh)) zh))))))) z6) (SD.nox (xR (zY (yF a) z3 (yk _) (edv 2) (zQ zK)) (zR (wq (zA G_bare a rfl (T.d 29) (zb (zA G_web_of a rfl (T.d 11) (zb (z5 (edv 3) (zt zr) (λ_ _=>rfl)) (zb (YS (wH zh)) zh))) zh)))) z8))
  (yf (Ym (zY (yF a) z3 (yk _) (edv 2) (zQ zK)) (z4 (Xc (zdg (Zc (wy (X_tied.mono (by decide)) ym a rfl (T.d 30).at_ (T.d 30).kp (T.d 30).bd (zb (edv 0) (zb (z5 (edv 3) (zt zr) (λ_ _=>rfl)) (zb (z5 (edv 3) (zt zr) (λ_ _=>rfl)) zh)))))))) z6) (SD.nox (xR (zY (yF a) z3 (yk _) (edv 2) (zQ zK)) (zR (wq (ve (zb (zA G_tied a rfl (T.d 30) (zb (edv 0) (zb (z5 (edv 3) (zt zr) (λ_ _=>rfl)) (zb (z5 (edv 3) (zt zr) (λ_ _=>rfl)) zh)))) (zb (edv 1) zh))))) z8))
  (yf (Ym (zY (yF a) z3 (yk _) (edv 2) (zQ zK)) (z4 (Xc (zdg (Zc (wy (X_cut.mono (by decide)) ym a rfl (T.d 31).at_ (T.d 31).kp (T.d 31).bd (zb (edv 0) (zb (z5 (edv 3) (zt zr) (λ_ _=>rfl)) (zb (z5 (edv 3) (zt zr) (λ_ _=>rfl)) zh)))))))) z6) (SD.nox (xR (zY (yF a) z3 (yk _) (edv 2) (zQ zK)) (zR (wq (ve (zb (zA G_cut a rfl (T.d 31) (zb (edv 0) (zb (z5 (edv 3) (zt zr) (λ_ _=>rfl)) (zb (z5 (edv 3) (zt zr) (λ_ _=>rfl)) zh)))) (zb (edv 1) zh))))) z8))
  (yf (Ym (zY (yF a) z3 (yk _) (edv 2) (zQ zK)) (z4 (Xc (zdg (zfJ (edv 0) (Zc (wy (X_put.mono (by decide)) ym a rfl (T.d 32).at_ (T.d 32).kp (T.d 32).bd (zb (edv 0) (zb (edv 1) (zb (z5 (edv 3) (zt zr) (λ_ _=>rfl)) (zb (z5 (edv 3) (zt zr) (λ_ _=>rfl)) zh)))))))))) z6) (SD.nox (xR (zY (yF a) z3 (yk _) (edv 2) (zQ zK)) (zR (wq (ve (zb (edv 0) (zb (zA G_put a rfl (T.d 32) (zb (edv 0) (zb (edv 1) (zb (z5 (edv 3) (zt zr) (λ_ _=>rfl)) (zb (z5 (edv 3) (zt zr) (λ_ _=>rfl)) zh))))) zh))))) z8))
  (yf (Ym (zY (yF a) z3 (yk _) (edv 2) (zQ zK)) (z4 (Xc (zdg (zfJ (edv 0) (Zc (wy (X_step_done.mono (by decide)) ym a rfl (T.d 33).at_ (T.d 33).kp (T.d 33).bd (zb (edv 0) (zb (edv 1) (zb (z5 (edv 3) (zt zr) (λ_ _=>rfl)) (zb (z5 (edv 3) (zt zr) (λ_ _=>rfl)) zh)))))))))) z6) (SD.nox (xR (zY (yF a) z3 (yk _) (edv 2) (zQ zK)) (zR (wq (ve (zb (edv 0) (zb (zA G_step_done a rfl (T.d 33) (zb (edv 0) (zb (edv 1) (zb (z5 (edv 3) (zt zr) (λ_ _=>rfl)) (zb (z5 (edv 3) (zt zr) (λ_ _=>rfl)) zh))))) zh))))) z8))
  (z4 (Xc (zdb (G_bare.mono (by decide)) a rfl (T.d 29).at_ (T.d 29).kp (T.d 29).bd (Zc (wy (X_web_for.mono (by decide)) ym a rfl (T.d 24).at_ (T.d 24).kp (T.d 24).bd (zb (ve (zb (edv 2) (zb (z5 (edv 3) (zt zr) (λ_ _=>rfl)) zh))) zh)))))))))))
abbrev XM :=zS (sIf (tOf (zn wP (zc 2) (eC (.str "heap")))) sNo zE)
  (zS (sIf (tOf (zn wP (zc 2) (eC (.str "ties")))) sNo zE)
  (zS (sIf (tOf (zn wP (zc 2) (eC (.str "steps")))) sNo zE)
  (zS (sIf (tOf (zn wP (zc 2) (eC (.str "far")))) sNo zE)
  (zS (sIf (tOf (zn wP (zc 2) (eC (.str "most")))) sNo zE)
  (zS (sIf (tOf (zn wP (zc 2) (eC (.str "reached")))) sNo zE)
  (zS (sIf (tOf (zn wP (zc 2) (eC (.str "need")))) sNo zE)
  (yW (zmj 2 zci (za (zc 0) (za (zc 1) zo)) "\n" " ; "))))))))
def YK:=fnD 4 XM
def za0 (T:Txt P w K mg base ad):T.Pr 35 9 4 YK:=by
 letI:KK:=⟨K,ad.dk⟩
 have TK_shown:=zhd T
 refine za3 (N:=(Rw 35).N) (ps:=(Rw 35).ps) (T.d 35).fn (sc 35) (g:=XM) λc A outer s H E b=>?_
 unfold XM
 exact(zC (xR (zY (yF b) z3 (yk _) (edv 2) (zQ zK)) y0 z8)
  (zC (xR (zY (yF b) z3 (yk _) (edv 2) (zQ zK)) y0 z8)
  (zC (xR (zY (yF b) z3 (yk _) (edv 2) (zQ zK)) y0 z8)
  (zC (xR (zY (yF b) z3 (yk _) (edv 2) (zQ zK)) y0 z8)
  (zC (xR (zY (yF b) z3 (yk _) (edv 2) (zQ zK)) y0 z8)
  (zC (xR (zY (yF b) z3 (yk _) (edv 2) (zQ zK)) y0 z8)
  (zC (xR (zY (yF b) z3 (yk _) (edv 2) (zQ zK)) y0 z8)
  (zR (wq (zlD (TK_shown.mono (by decide)) b rfl (T.d 26).at_ (T.d 26).kp (T.d 26).bd (zb (edv 0) (zb (edv 1) zh)) (λa=>zmX (TK_shown.mono (by decide)) b rfl (T.d 26).at_ (T.d 26).kp (T.d 26).bd Zq a (by decide) (by decide))))))))))))
def zcR (T:Txt P w K mg base ad):xu P w K mg base CX0 1 ad.f_Desk___init__ ad.e_Desk___init__ ["self"] (@spI ⟨K,ad.dk⟩):=by
 letI:KK:=⟨K,ad.dk⟩
 exact zpv T.mf_Desk___init__ Xp T.dkc λa A outer s H E b=>zp2 (ve (zb (zt zr) (zb (ve zh) zh))) (ve (zb (zt zr) zh)) (wH zh) (pv 0) (pv 0) (pv 0) (λ_=>rfl) (λ_=>rfl) (λ_=>rfl)
def YB {g h:zz}(e:g ρ=.nx ρ'):zS g h ρ=h ρ':=by unfold zS;rw[e]
def vG {f:zJ}{d:D}(h:f (visG ρ)=some d)(a:noL d=true):vEv true f ρ=some d:=by
 unfold vEv
 rw[t9 rfl,h,k6,t9 a]
def zk5 {f:zJ}{ρ:SE}{i:Nat}{d w:D}{a:zg}(g:f (visG ρ)=some d)(j:noL d=true)(e:ρ[i]?=some (.k w h ⟨z,a⟩))(c:a.length<1000)(b:ρ.set i (.k w h ⟨z,a++[d]⟩)=ρ':=by rfl):zhw i f ρ=.nx ρ':=by
 unfold zhw
 rw[vG g j,e]
 dsimp only
 rw[t9 (q5 (yR (m4 c))),b]
def zny {f:zJ}{ρ:SE}{i:Nat}{d w:D}{p:Pst}(b:f (visG ρ)=some d)(c:noL d=true)(e:ρ[i]?=some (.k w h p))(a:ρ.set i (.k d h p)=ρ':=by rfl):sFW i f ρ=.nx ρ':=by
 unfold sFW
 rw[vG b c,e]
 exact u0z Ctl.nx a
def zoG {f:zJ}{ρ:SE}{i:Nat}{d w:D}{p:Pst}(c:f (visG ρ)=some d)(g:noL d=true)(e:ρ[i]?=some (.k w h p))(b:ρ.set i (.k w d p)=a:=by rfl):sFH i f ρ=.nx a:=by
 unfold sFH
 rw[vG c g,e]
 exact u0z Ctl.nx b
def zfg {i n:Nat}{R:KF}{f w:D}{ds:zg}{d:yB}{ρ g:SE}(e:ρ[i]?=some (.k w h ⟨z,b⟩))(p:d (visG ρ)=some ds)(l:zfD ds=true)(k:ds.length+1=n)(o:R w h b ds=some (j,c,a))(m:ρ.set i (.k j c ⟨z,a⟩)=g:=by rfl):kDo i n R f d ρ=some (f,g):=by
 unfold kDo
 rw[e]
 dsimp only
 rw[p,k6,t9 ⟨l,k⟩,o,<- m]
 rfl
def zoV {f:SE->Option (D × SE)}{d:D}(h:f ρ=some (d,a)):sKx f ρ=.nx a:=by unfold sKx;rw[h]
def wC {t:vx}{g h:zz}(e:t (visG ρ)=some false):sIf t g h ρ=h ρ:=by unfold sIf;rw[e]
def VB {t:vx}{g:zz}(e:t (visG ρ)=some true):sIf t g h ρ=g ρ:=by unfold sIf;rw[e]
def zgY (c:noL a=true)(d:noL b=true):noL (.tup [a,b])=true:=by
 show(noL a&&(noL b&&true))=true
 rw[c,d]
 rfl
def xn:zz :=zS (zhw 0 (vl (za (eUn zm0 (zc 0)) (za (eUn zlo (zc 0)) zo))))
  (zS (sFW 0 (zn ixD (zc 1) (eC (.int 0))))
  (sFH 0 (zn ixD (zc 1) (eC (.int 1)))))
def xj:KF:=λw h a b=>match b with
 | [.tup [w',h']]=>if noL w=true/\noL h=true/\noL w'=true/\noL h'=true/\a.length<1000 then some (w',h',a++[.tup [w,h]])else none
 | _=>none
def Xt:∀ z w h ps f a b c,xj w h ps f=some (a,b,c)->zmu 2 xn z w h ps f=some (a,b,⟨z,c⟩):=by
 intro z w h ps f a b c e
 unfold xj at e
 split at e
 .rename_i p o
  split at e <;> cases e
  rename_i m
  obtain⟨l,k,n,g,i⟩:=m
  have j:xn [.k w h ⟨z,ps⟩,.v (.tup [a,b])]=.nx [.k a b ⟨z,ps++[.tup [w,h]]⟩,.v (.tup [a,b])]:=by
   unfold xn
   rw[YB (zk5 (ρ':=[.k w h ⟨z,ps++[.tup [w,h]]⟩,.v (.tup [a,b])]) (d:=.tup [w,h]) (Yr (ds:=[w,h]) (zj (zas (x:=.obj w h ps) rfl rfl) (zj (zas (x:=.obj w h ps) rfl rfl) zX)) (by show 2<=1000;decide)) (zgY l k) rfl i)]
   rw[YB (zny (ρ':=[.k a h ⟨z,ps++[.tup [w,h]]⟩,.v (.tup [a,b])]) (zH (x:=.tup [a,b]) (y:=.int 0) rfl rfl rfl) n rfl)]
   exact zoG (zH (x:=.tup [a,b]) (y:=.int 1) rfl rfl rfl) g rfl
  show(match xn [.k w h ⟨z,ps⟩,.v (.tup [a,b])] with
   | .nx ρ=>(match (ρ:SE)[0]? with
    | some (Sl.k a b p')=>some (a,b,p')
    | _=>none)
   | _=>none)=_
  rw[j]
  rfl
 .cases e
def YZ (T:Txt P w K mg base ad):xu P w K mg base CX0 1 ad.f_Desk_go_on ad.e_Desk_go_on ["self","state"] (@spK ⟨K,ad.dk⟩ 2 xj .non):=by
 letI:KK:=⟨K,ad.dk⟩
 refine zqd (zgC (N:=["self","state"]) (ps:=["self","state"]) T.mf_Desk_go_on V5 (g:=xn) λc A outer s H E d=>?_) Xt
 unfold xn
 exact(zC (zm7 (i:=0) T.dkc (pv 0) (ve (zb (zbF T.dkc (edv 0)) (zb (W0 T.dkc (edv 0)) zh))) (λa b=>Xx p5 u0o u0p Yt a b))
  (zC (zpp (i:=0) T.dkc (pv 0) (z5 (edv 1) (zt zr) (λ_ _=>rfl)))
  (zR (znt (i:=0) T.dkc (pv 0) (z5 (edv 1) (zt zr) (λ_ _=>rfl))))))
def yE:zz :=zS (sIf (tOf (zn wP (eFn XQ (za (eUn zqt (zc 0)) zo)) (eC (.int 0)))) sNo zE)
  (zS (zmP 0 1)
  (zS (sFW 0 (zn ixD (zc 1) (eC (.int 0))))
  (sFH 0 (zn ixD (zc 1) (eC (.int 1))))))
def yI:KF:=λ_ _ a b=>match b,a.getLast? with
 | [],some (.tup [w',h'])=>if noL w'=true/\noL h'=true then some (w',h',a.dropLast)else none
 | _,_=>none
def Zz:∀ z w h ps i a c g,yI w h ps i=some (a,c,g)->zmu 2 yE z w h ps i=some (a,c,⟨z,g⟩):=by
 intro z w h ps i a c g e
 unfold yI at e
 split at e
 .rename_i n m k
  split at e <;> cases e
  rename_i j
  obtain⟨f,rfl⟩:=u2o.mp k
  have l:yE [.k w h ⟨z,f++[.tup [a,c]]⟩,.no]=.nx [.k a c ⟨z,f⟩,.v (.tup [a,c])]:=by
   unfold yE
   rw[YB (wC (h:=zE) (y8 (b:=false) (zH (x:=.int ((f++[D.tup [a,c]]).length:Nat)) (y:=.int 0) (zdZ (ds:=[.lst (f++[.tup [a,c]])]) (zj (zas (x:=.obj w h (f++[.tup [a,c]])) rfl rfl) zX) rfl) rfl ?_)))]
   .rw[YB (ρ':=[.k w h ⟨z,f⟩,.v (.tup [a,c])]) ?_]
    .rw[YB (zny (ρ':=[.k a h ⟨z,f⟩,.v (.tup [a,c])]) (zH (x:=.tup [a,c]) (y:=.int 0) rfl rfl rfl) j.1 rfl)]
     exact zoG (zH (x:=.tup [a,c]) (y:=.int 1) rfl rfl rfl) j.2 rfl
    .show(match (f++[D.tup [a,c]]).getLast? with
      | some d=>Ctl.nx (([.k w h ⟨z,(f++[D.tup [a,c]]).dropLast⟩,Sl.no]:SE).set 1 (.v d))
      | none=>.no)=_
     rw[List.getLast?_concat,u0Z]
     rfl
   .rw[xk,q4]
    rw[j7]
    show ¬ ((f.length+1:Nat):Int)=0
    omega
  show(match yE [.k w h ⟨z,f++[.tup [a,c]]⟩,.no] with
   | .nx ρ=>(match (ρ:SE)[0]? with
    | some (Sl.k a c p')=>some (a,c,p')
    | _=>none)
   | _=>none)=_
  rw[l,u0Z]
  rfl
 .cases e
def Xz (T:Txt P w K mg base ad):xu P w K mg base CX0 1 ad.f_Desk_go_back ad.e_Desk_go_back ["self"] (@spK ⟨K,ad.dk⟩ 1 yI .non):=by
 letI:KK:=⟨K,ad.dk⟩
 refine zqd (zgC (N:=["self","state"]) (ps:=["self"]) T.mf_Desk_go_back wR (g:=yE) λc A outer s H E b=>?_) Zz
 unfold yE
 exact(zC (xR (zY (yF b) z3 (yk _) (xg xB ZO rfl (T.z "len" (by decide)) Xf (zb (zf5 T.dkc (edv 0)) zh)) (zt zr)) y0 z8)
  (zC (zly (i:=0) (j:=1) T.dkc wR.nd rfl (Or.inl rfl) (pv 0) rfl (λa=>zoI p5 PySem.F.slot_list_pop PySem.F.type_list_pop zmU a))
  (zC (zpp (i:=0) T.dkc (pv 0) (z5 (edv 1) (zt zr) (λ_ _=>rfl)))
  (zR (znt (i:=0) T.dkc (pv 0) (z5 (edv 1) (zt zr) (λ_ _=>rfl)))))))
abbrev YD :=zS (xN false 2 (zq 1 xm (za (zc 1) zo)))
  (zS (xN false 3 (zn ixD (zc 2) (eC (.int 0))))
  (zS (sIf (tOf (eUn (za9 zI) (zc 3))) (yW (zq 4 YK (za (eUn zm0 (zc 0)) (za (eUn zlo (zc 0)) (za (zc 3) (za (zn ixD (zc 2) (eC (.int 1))) zo)))))) zE)
  sNo))
def yn:=fnD 4 YD
def Zb (T:Txt P w K mg base ad):xu P w K mg base CX0 11 ad.f_Desk_say ad.e_Desk_say ["self","row"] (@spD ⟨K,ad.dk⟩ 2 yn):=by
 letI:KK:=⟨K,ad.dk⟩
 have G_parsed:=Wk T
 have G_answer:=za0 T
 refine za3 (N:=["self","row","told","word"]) (ps:=["self","row"]) T.mf_Desk_say yA (g:=YD) λb A outer s H E a=>?_
 unfold YD
 exact(zC (wK (m:=false) (i:=2) yA.nd rfl (Or.inl rfl) (zA G_parsed a rfl (T.d 28) (zb (edv 1) zh)))
  (zC (wK (m:=false) (i:=3) yA.nd rfl (Or.inl rfl) (z5 (edv 2) (zt zr) (λ_ _=>rfl)))
  (zC (xR (WM T.b_QUESTIONS rfl T.g_QUESTIONS (edv 3)) (zR (wq (zA G_answer a rfl (T.d 35) (zb (zbF T.dkc (edv 0)) (zb (W0 T.dkc (edv 0)) (zb (edv 3) (zb (z5 (edv 2) (zt zr) (λ_ _=>rfl)) zh))))))) z8)
  y0)))
abbrev vc :=xIf (tOf (zn wP (eFn XQ (za (eUn zqt (zc 0)) zo)) (eC (.int 0)))) (Xo 9) xNo
def Yw:=fnX 2 vc
def Xq (T:Txt P w K mg base ad):xu P w K mg base (Air P w) 1 ad.f_Desk_go_back ad.e_Desk_go_back ["self"] (@spX ⟨K,ad.dk⟩ (clT ad) 1 Yw):=by
 letI:KK:=⟨K,ad.dk⟩
 refine vI (cl:=clT ad) (N:=["self","state"]) (ps:=["self"]) T.mf_Desk_go_back wR (gx:=vc) λb A outer s H E a=>?_
 unfold vc
 exact(xt (Ym (zY (yF a) z3 (yk _) (xg xB ZO rfl (T.z "len" (by decide)) Xf (zb (zf5 T.dkc (edv 0)) zh)) (zt zr)) (z4 (Yb (cl:=clT ad) (j:=9) ⟨T.g_NoRow,T.c_NoRow⟩ rfl)) z6))
abbrev yL :=wQ (xEx (xP 1 vg (za (zc 1) zo))) (xN false 2 (zq 1 xm (za (zc 1) zo)))
  (wQ xNo (xN false 3 (zn ixD (zc 2) (eC (.int 0))))
  (wQ xNo (sIf (tOf (eUn (za9 zI) (zc 3))) (yW (zq 4 YK (za (eUn zm0 (zc 0)) (za (eUn zlo (zc 0)) (za (zc 3) (za (zn ixD (zc 2) (eC (.int 1))) zo)))))) zE)
  (xIf (tOf (zn wP (zc 3) (eC (.str "back")))) (xEx (znk 1 Yw (zc 0) (λ_=>some []))) (xEx (ziC (zc 0) (xP 4 vm (za (eUn zm0 (zc 0)) (za (eUn zlo (zc 0)) (za (zc 3) (za (zn ixD (zc 2) (eC (.int 1))) zo))))))))))
def xc:=fnX 4 yL
def zba (T:Txt P w K mg base ad):xu P w K mg base (Air P w) 11 ad.f_Desk_say ad.e_Desk_say ["self","row"] (@spX ⟨K,ad.dk⟩ (clT ad) 2 xc):=by
 letI:KK:=⟨K,ad.dk⟩
 have G_parsed:=Wk T
 have X_parsed:=zez T
 have X_after:=zfF T
 have G_answer:=za0 T
 have K_Desk_go_on:=YZ T
 have X_Desk_go_back:=Xq T
 refine vI (cl:=clT ad) (N:=["self","row","told","word"]) (ps:=["self","row"]) T.mf_Desk_say yA (gx:=yL) λb A outer s H E a=>?_
 unfold yL
 exact(yf (zkw (i:=2) yA.nd rfl (Or.inl rfl) (wy (X_parsed.mono (by decide)) ym a rfl (T.d 28).at_ (T.d 28).kp (T.d 28).bd (zb (edv 1) zh))) (SD.nox (wK (m:=false) (i:=2) yA.nd rfl (Or.inl rfl) (zA G_parsed a rfl (T.d 28) (zb (edv 1) zh))))
  (yf vp (SD.nox (wK (m:=false) (i:=3) yA.nd rfl (Or.inl rfl) (z5 (edv 2) (zt zr) (λ_ _=>rfl))))
  (yf vp (SD.nox (xR (WM T.b_QUESTIONS rfl T.g_QUESTIONS (edv 3)) (zR (wq (zA G_answer a rfl (T.d 35) (zb (zbF T.dkc (edv 0)) (zb (W0 T.dkc (edv 0)) (zb (edv 3) (zb (z5 (edv 2) (zt zr) (λ_ _=>rfl)) zh))))))) z8))
  (xt (Ym (zY (yF a) z3 (yk _) (edv 3) (zQ zK)) (z4 (WJ (zle T.dkc.cl T.mm_Desk_go_back (X_Desk_go_back.mono (by decide)) ym a T.mb_Desk_go_back (edv 0)))) (z4 (WJ (zmV T.dkc.cl T.mm_Desk_go_on (K_Desk_go_on.mono (by decide)) a T.mb_Desk_go_on (edv 0) (Zc (wy (X_after.mono (by decide)) ym a rfl (T.d 34).at_ (T.d 34).kp (T.d 34).bd (zb (zbF T.dkc (edv 0)) (zb (W0 T.dkc (edv 0)) (zb (edv 3) (zb (z5 (edv 2) (zt zr) (λ_ _=>rfl)) zh))))))))))))))
def xQ:zz :=zS (xN false 2 (zq 1 xm (za (zc 1) zo)))
  (zS (xN false 3 (zn ixD (zc 2) (eC (.int 0))))
  (zS (sIf (tOf (eUn (za9 zI) (zc 3))) sNo zE)
  (zS (sIf (tOf (zn wP (zc 3) (eC (.str "back")))) (sKx (kDo 0 1 yI .non (λ_=>some []))) (sKx (kDo 0 2 xj .non (za (zq 4 v7 (za (eUn zm0 (zc 0)) (za (eUn zlo (zc 0)) (za (zc 3) (za (zn ixD (zc 2) (eC (.int 1))) zo))))) zo))))
  zE)))
def yo:KF:=λw h a ds=>match ds with
 | [row]=>(match xm [row] with
  | some (.tup [.str x,.lst ns])=>if (xS zI x).isSome=true then none else if x="back" then yI w h a []else match v7 [w,h,.str x,.lst ns] with
   | some s=>if noL s=true then xj w h a [s]else none
   | none=>none
  | _=>none)
 | _=>none
def Vb:∀ z w h ps g f d c,yo w h ps g=some (f,d,c)->zmu 4 xQ z w h ps g=some (f,d,⟨z,c⟩):=by
 intro z w h ps g f d c e
 unfold yo at e
 split at e
 .rename_i a
  split at e
  .rename_i x ns k
   have n:xQ [.k w h ⟨z,ps⟩,.v a,.no,.no]=.nx [.k f d ⟨z,c⟩,.v a,.v (.tup [.str x,.lst ns]),.v (.str x)]:=by
    unfold xQ
    rw[YB (vQ (σ':=[.k w h ⟨z,ps⟩,.v a,.v (.tup [.str x,.lst ns]),.no]) (zv (ds:=[a]) rfl k)),
     YB (vQ (σ':=[.k w h ⟨z,ps⟩,.v a,.v (.tup [.str x,.lst ns]),.v (.str x)]) (zH (x:=.tup [.str x,.lst ns]) (y:=.int 0) rfl rfl rfl))]
    cases j:(xS zI x).isSome with
    | true=>rw[j,t9 rfl]at e;cases e
    | false =>
     rw[j,j5 u7]at e
     rw[YB (wC (h:=zE) (y8 (b:=false) (zas (x:=.str x) rfl (by show some (D.bl _)=_;rw[j]))))]
     by_cases i:x="back"
     .rw[t9 i]at e
      refine YB ((VB (y8 (b:=true) (zH (x:=.str x) (y:=.str "back") rfl rfl (by rw[yC,q5 i])))).trans (zoV (zfg rfl rfl rfl rfl e)))
     .rw[j5 i]at e
      split at e
      .rename_i s l
       split at e
       .rename_i m
        refine YB ((wC (y8 (b:=false) (zH (x:=.str x) (y:=.str "back") rfl rfl (by rw[yC,q4 i])))).trans (zoV (zfg (ds:=[s]) rfl (zj (zv (ds:=[w,h,.str x,.lst ns]) rfl l) zX) (by show(noL s&&true)=true;rw[m];rfl) rfl e)))
       .cases e
      .cases e
   show(match xQ [.k w h ⟨z,ps⟩,.v a,.no,.no] with
    | .nx ρ=>(match (ρ:SE)[0]? with
     | some (Sl.k f d p')=>some (f,d,p')
     | _=>none)
    | _=>none)=_
   rw[n]
   rfl
  .cases e
 .cases e
def zbo (T:Txt P w K mg base ad):xu P w K mg base CX0 11 ad.f_Desk_say ad.e_Desk_say ["self","row"] (@spK ⟨K,ad.dk⟩ 2 yo (.str "ok")):=by
 letI:KK:=⟨K,ad.dk⟩
 have G_parsed:=Wk T
 have G_after:=zjA T
 have K_Desk_go_on:=YZ T
 have K_Desk_go_back:=Xz T
 refine zqd (zmg (N:=["self","row","told","word"]) (ps:=["self","row"]) T.mf_Desk_say yA (g:=xQ) λb A outer s H E a=>?_) Vb
 unfold xQ
 exact(XG (wK (m:=false) (i:=2) yA.nd rfl (Or.inl rfl) (zA G_parsed a rfl (T.d 28) (zb (edv 1) zh)))
  (XG (wK (m:=false) (i:=3) yA.nd rfl (Or.inl rfl) (z5 (edv 2) (zt zr) (λ_ _=>rfl)))
  (XG (xR (WM T.b_QUESTIONS rfl T.g_QUESTIONS (edv 3)) y0 z8)
  (XG (xR (zY (yF a) z3 (yk _) (edv 3) (zQ zK)) (zR (zoT (zl0 T.dkc.cl T.mm_Desk_go_back (K_Desk_go_back.mono (by decide)) a T.mb_Desk_go_back (pv 0)))) (zR (zoT (zkW T.dkc.cl T.mm_Desk_go_on (K_Desk_go_on.mono (by decide)) a T.mb_Desk_go_on (pv 0) (zb (zA G_after a rfl (T.d 34) (zb (zbF T.dkc (edv 0)) (zb (W0 T.dkc (edv 0)) (zb (edv 3) (zb (z5 (edv 2) (zt zr) (λ_ _=>rfl)) zh))))) zh)))))
  zmH))))
section
variable {m:Int}{ts:yl}{h:Hl}{a b:Int}
def zmF {t:vx}{g:yS}(e:t (visG ρ)=some false):xIf t g xNo ρ=none:=by
 unfold xIf
 rw[e]
 rfl
def zgr {t:vx}{g h:yS}(e:t (visG ρ)=some true)(a:g ρ=some j):xIf t g h ρ=some j:=by
 unfold xIf
 rw[e]
 exact a
def zcV {a b:yS}{g:zz}(e:a ρ=some j):wQ a g b ρ=some j:=by
 unfold wQ
 rw[e]
def vS {n:Nat}{r:zh4}{a:yB}{ds:zg}(d:a ρ=some ds)(b:r ds=j)(c:ds.length=n:=by rfl):xP n r a ρ=j:=by
 unfold xP
 rw[d,k6,t9 c]
 exact b
def zfC {p:Int}(d:decide (0<=p/\p<m)=c):yt [.int m,.int p]=some (.bl c):=by
 show some (D.bl (inR m p))=_
 unfold inR
 rw[<-d]
 congr 2
 by_cases b:0<=p/\p<m
 .rw[q5 b]
  simp only[j6,k7]
  omega
 .rw[q4 b]
  by_cases a:0<=p
  .rw[q5 a,Bool.true_and]
   exact q4 (by omega)
  .rw[q4 a,u2V]
def zcp {p:Int}(a:¬ (0<=p/\p<m)):zB [zT m ts,.int p]=some 3:=by
 show yb [.v (zT m ts),.v (.int p)]=_
 unfold yb
 exact zgr (wl (b:=false) (y8 (zv (ds:=[.int m,.int p]) rfl (zfC (q4 a))))) rfl
def zaa {p:Int}(a:0<=p/\p<m):zB [zT m ts,.int p]=none:=by
 show yb [.v (zT m ts),.v (.int p)]=_
 unfold yb
 exact zmF (wl (b:=true) (y8 (zv (ds:=[.int m,.int p]) rfl (zfC (q5 a)))))
def xF.hp (A:xF m ts h):HpOk m h:=⟨A.len,A.nn,A.sum⟩
def zqc (ok:wr m ts):vB [zT m ts]=none:=by
 have e:vU [zT m ts]=some (.bl true):=by
  show(if noS (zT m ts)=true then some (D.bl (Yd (zT m ts)))else none)=_
  rw[t9 (zgs m ts),(vM _).mpr ⟨_,_,rfl,ok⟩]
 show xv [.v (zT m ts)]=_
 unfold xv
 exact zmF (wl (b:=true) (y8 (zv (ds:=[zT m ts]) rfl e)))
def zaz (ok:wr m ts){g:Hl}(a:wT m (hD g)=c):yh [zT m ts,hD g]=some (.bl c):=by
 show(if (noS (.tup (g.map .int))&&decide (m<=1000))=true then some (D.bl (wT m (hD g)))else none)=_
 rw[VY,WL ok,a]
 rfl
def zoA (A:xF m ts h):wW [zT m ts,hD h]=none:=by
 show xb [.v (zT m ts),.v (hD h)]=_
 unfold xb
 exact zmF (wl (b:=true) (y8 (zv (ds:=[zT m ts,hD h]) rfl (zaz A.ok (YG A.len A.nn A.sum)))))
def zl9 {h:yS}(h0:zc 0 (visG ρ)=some (zT m ts))(e:zc i (visG ρ)=some (.int a))(g:zc j (visG ρ)=some (.int b))(k:¬ ((0<=a/\a<m)/\(0<=b/\b<m))) :
 wQ (xEx (xP 2 zB (za (zc 0) (za (zc i) zo)))) (vR (zq 2 zp (za (zc 0) (za (zc i) zo)))) (wQ (xEx (xP 2 zB (za (zc 0) (za (zc j) zo)))) (vR (zq 2 zp (za (zc 0) (za (zc j) zo)))) h) ρ=some 3:=by
 by_cases c:0<=a/\a<m
 .have f:¬ (0<=b/\b<m):=λf=>k ⟨c,f⟩
  refine yG (ρ':=ρ) (vS (zj h0 (zj e zX)) (zaa c)) (y6 (d:=.non) (zv (zj h0 (zj e zX)) (yD c))) ?_
  exact zcV (vS (zj h0 (zj g zX)) (zcp f))
 .exact zcV (vS (zj h0 (zj e zX)) (zcp c))
def zhe {g:yS}{k:Nat}(h0:zc 0 (visG ρ)=some (zT m ts))(c:zc i (visG ρ)=some (.int a))(f:zc j (visG ρ)=some (.int b))(l:0<=a/\a<m)(h:0<=b/\b<m)(e:g ρ=some k) :
 wQ (xEx (xP 2 zB (za (zc 0) (za (zc i) zo)))) (vR (zq 2 zp (za (zc 0) (za (zc i) zo)))) (wQ (xEx (xP 2 zB (za (zc 0) (za (zc j) zo)))) (vR (zq 2 zp (za (zc 0) (za (zc j) zo)))) g) ρ=some k :=
 yG (ρ':=ρ) (vS (zj h0 (zj c zX)) (zaa l)) (y6 (d:=.non) (zv (zj h0 (zj c zX)) (yD l)))
  (yG (ρ':=ρ) (vS (zj h0 (zj f zX)) (zaa h)) (y6 (d:=.non) (zv (zj h0 (zj f zX)) (yD h))) e)
def zaV (e:ts.length<=28)(h0:zc 0 ρ=some (zT m ts))(d:zc 1 ρ=some (.int a))(c:zc 2 ρ=some (.int b)):za (zn ixD (zc 0) (eC (.int 0))) (za (zn wt (xO (fFn v8 (za (zn ixD (zc 0) (eC (.int 1))) zo))) (xO (yy (za (vl (za (zc 1) (za (zc 2) zo))) zo)))) zo) ρ=some [.int m,.lst ((ts++[(a,b)]).map zi)]:=by
 refine zj (zH (x:=zT m ts) (y:=.int 0) h0 rfl rfl) (zj (zH (x:=.lst (ts.map zi)) (y:=.lst [zi (a,b)]) (Y1 (zkk (ds:=[.tup (ts.map zi)]) (zj (zH (x:=zT m ts) (y:=.int 1) h0 rfl rfl) zX) rfl)) (Y1 (Wm (zj (Yr (zj d (zj c zX)) (by show 2<=1000;decide)) zX) (by show 1<=1000;decide))) ?_) zX)
 rw[Zk (by rw[t4];show ts.length+1<=1000;omega),p4]
 rfl
def zo9 (ok:wr m ts):∀ s∈ts,znl m s:=λs a=>by
 have:=ok.rng s a
 exact⟨⟨this.1,by omega⟩,⟨by omega,this.2.2⟩,by omega⟩
def znb (h:s.1<s.2):yj s.1 s.2=s:=by
 unfold yj
 rw[j5 (by omega),t9 (by omega)]
def zax (ok:wr m ts):ts.map (λs=>yj s.1 s.2)=ts:=(u1Y λs a=>znb (ok.rng s a).2.1).trans (List.map_id ts)
def zdx (ok:wr m ts):ts.Nodup:=ok.srt.imp λ{a b} h e=>by
 subst e
 unfold ltP at h
 omega
def zo4 (ok:wr m ts)(g:ts.length<=28)(d:0<=a/\a<m)(c:0<=b/\b<m)(f:a=b\/yj a b∈ts):zah [zT m ts,.int a,.int b]=some (16+64*(ts.length+1)):=by
 show W2 [.v (zT m ts),.v (.int a),.v (.int b)]=_
 unfold W2
 refine zhe rfl rfl rfl d c (vS (zaV g rfl rfl rfl) ?_)
 rw[p4]
 refine zhi ⟨ok.lo,ok.hi⟩ (zo9 ok) (by rw[zax ok];exact zdx ok) (by omega) ?_
 by_cases e:a=b
 .refine .inl ?_
  show some (D.bl (inR m a&&inR m b&&!decide (a=b)))=_
  rw[q5 e]
  simp
 .refine .inr ⟨(a,b),rfl,⟨d,c,e⟩,?_⟩
  rw[zax ok]
  exact f.resolve_left e
def zpI (ts:yl)(t:Tie):yl:=zfR (ts++[t])
def zhN (ok:wr m ts)(k:0<=a/\a<m)(j:0<=b/\b<m)(l:a≠b)(f:yj a b∉ts):wr m (zpI ts (yj a b)):=by
 have i:=ZT (ts++[yj a b])
 refine⟨ok.lo,ok.hi,λt g=>?_,zbn ?_⟩
 .rcases i8.mp (i.mem_iff.mp g)with h | h
  .exact ok.rng t h
  .rw[t8.mp h]
   unfold yj
   dsimp only
   split <;> split <;> omega
 .rw[u0J]
  exact⟨zdx ok,u0f _ _,λx c y d e=>f (by rw[<-t8.mp d,<- e];exact c)⟩
def zag (ok:wr m ts):(ts.map pl).Pairwise λa b=>HT.lexLt b a=false:=by
 rw[List.pairwise_map]
 refine ok.srt.imp λ{a b} h=>?_
 unfold ltP at h
 show HT.lexLt [b.1,b.2] [a.1,a.2]=false
 unfold HT.lexLt HT.lexLt HT.lexLt
 split
 .split
  .rfl
  .exact q4 (by omega)
 .exact q4 (by omega)
def zlV (ok:wr m ts)(l:ts.length<=28)(f:0<=a/\a<m)(c:0<=b/\b<m)(j:a≠b)(g:yj a b∉ts):zbL [zT m ts,.int a,.int b]=some (zT m (zpI ts (yj a b))):=by
 refine Xu (ρ:=[.v (zT m ts),.v (.int a),.v (.int b)]) rfl ?_
 unfold zkh
 refine zG (y6 (d:=.non) (zv (ds:=[zT m ts,.int a]) rfl (yD f))) ?_
 refine zG (y6 (d:=.non) (zv (ds:=[zT m ts,.int b]) rfl (yD c))) ?_
 have i:(ts++[(a,b)]).map (λs=>yj s.1 s.2)=ts++[yj a b]:=by
  rw[p4,zax ok]
  rfl
 refine YU (d:=zT m (zpI ts (yj a b))) (yJ (zv (zaV l rfl rfl rfl) (zeQ ⟨ok.lo,ok.hi⟩ (λs k=>?_) ?_ ?_ ?_ (zag (zhN ok f c j g))))) rfl
 .rcases i8.mp k with h | h
  .exact zo9 ok s h
  .rw[t8.mp h]
   exact⟨f,c,j⟩
 .rw[i,u0J]
  exact⟨zdx ok,u0f _ _,λx n y o e=>g (by rw[<-t8.mp o,<- e];exact n)⟩
 .rw[j7]
  show ts.length+1<64
  omega
 .rw[i]
  exact(ZT _).symm
def X8 (t:Tie)(ts:yl):zdf (zi t) (.tup (ts.map zi))=some (.bl (!decide (t∈ts))):=by
 have e:=zdM t ts
 show(ziT (zi t) (ts.map zi)).map (λb=>D.bl (!b))=_
 have c:(ziT (zi t) (ts.map zi)).map D.bl=some (.bl (decide (t∈ts))):=e
 obtain⟨b,d,a⟩:=u9.mp c
 injection a with a
 rw[d,<- a]
 rfl
def zqh (e:0<=a/\a<m)(c:0<=b/\b<m)(d:yj a b∉ts):zde [zT m ts,.int a,.int b]=some (16+64*(ts.length+1)):=by
 show Vp [.v (zT m ts),.v (.int a),.v (.int b),.no]=_
 unfold Vp
 refine zhe rfl rfl rfl e c ?_
 refine yG (ρ':=[.v (zT m ts),.v (.int a),.v (.int b),.v (zi (yj a b))]) rfl (vQ (zv (ds:=[.int a,.int b]) rfl rfl)) ?_
 refine zgr (y8 (b:=true) (zH (x:=zi (yj a b)) (y:=.tup (ts.map zi)) rfl rfl (by rw[X8,q4 d];rfl))) ?_
 unfold xRI
 rw[show za (eFn XQ (za (zn ixD (zc 0) (eC (.int 1))) zo)) zo (visG [.v (zT m ts),.v (.int a),.v (.int b),.v (zi (yj a b))])=some [.int ((ts.map zi).length:Nat)]from rfl,k6,t4]
 show(if -1<=((ts.length:Nat):Int)then some (0+16*1+64*(((ts.length:Nat):Int)+1).toNat)else none)=_
 rw[t9 (by omega),show(((ts.length:Nat):Int)+1).toNat=ts.length+1 by omega]
def zlY (s t:Tie):zoM (zi s) (zi t)=some (.bl (!decide (s=t))):=by
 show(if (okE 20 (zi s)&&okE 20 (zi t))=true then some (D.bl (!eqN 20 (zi s) (zi t)))else none)=_
 rw[zab]
 rfl
def zo2 (t:Tie){a:Nat}(h0:zc a ρ=some (zT m ts))(b:zc i3 ρ=some (zi t))(e:ts.length<=28):fLC (iOf (zn ixD (zc a) (eC (.int 1)))) b1 (tOf (zn zoM (zc 0) (zc (i3+1)))) (zc 0) ρ=some ((ts.filter λs=>!decide (s=t)).map zi):=by
 unfold fLC
 rw[zcZ (ds:=ts.map zi) (d:=.tup (ts.map zi)) (zH (x:=zT m ts) (y:=.int 1) h0 rfl rfl) rfl,k6,t9 (Z3 (by rw[t4];omega))]
 refine Vs zi (λs=>!decide (s=t)) zi ts λs _=>⟨[some (zi s)],rfl,?_,λ_=>rfl⟩
 have c:zc (i3+1) ([some (zi s)]++ρ)=some (zi t):=b
 exact y8 (zH (x:=zi s) (y:=zi t) rfl c (zlY s t))
def zmN (ok:wr m ts)(t:Tie):wr m (ts.filter λs=>!decide (s=t)):=⟨ok.lo,ok.hi,λs a=>ok.rng s (u2Q.mp a).1,ok.srt.filter _⟩
def zn3 (c:ts.length<=28)(g:0<=a/\a<m)(e:0<=b/\b<m)(f:yj a b∈ts):zhW [zT m ts,.int a,.int b]=some (zT m (ts.filter λs=>!decide (s=yj a b))):=by
 refine Xu (ρ:=[.v (zT m ts),.v (.int a),.v (.int b),.no]) rfl ?_
 unfold zoN
 refine zG (y6 (d:=.non) (zv (ds:=[zT m ts,.int a]) rfl (yD g))) ?_
 refine zG (y6 (d:=.non) (zv (ds:=[zT m ts,.int b]) rfl (yD e))) ?_
 refine zG (vQ (σ':=[.v (zT m ts),.v (.int a),.v (.int b),.v (zi (yj a b))]) (zv (ds:=[.int a,.int b]) rfl rfl)) ?_
 refine zG ((wC (y8 (b:=false) (zH (x:=zi (yj a b)) (y:=.tup (ts.map zi)) rfl rfl (by rw[X8,q5 f];rfl)))).trans rfl) ?_
 exact YU (d:=zT m (ts.filter λs=>!decide (s=yj a b))) (yJ (Yr (zj rfl (zj (zdZ (ds:=[.lst ((ts.filter λs=>!decide (s=yj a b)).map zi)]) (zj (Y1 (zo2 (i3:=3) (yj a b) rfl rfl c)) zX) rfl) zX)) (by show 2<=1000;decide))) rfl
def Wu (ok:wr m ts):WU ts (zi (a,b))=if decide (yj a b∈ts)=true then some (a,b)else none:=Wv ts a b
def zkR:∀ e∈[zi (a,b)],zef e:=λe c=>by
 rw[t8.mp c]
 exact .pair a b
def zfw (A:xF m ts h)(g:yj a b∈ts)(i:2<=vAt h a):zat [zT m ts,hD h,.lst [zi (a,b)]]=some (.lst [hD (xV h (a,b))]):=by
 have f:WU ts (zi (a,b))=some (a,b):=by rw[Wu A.ok,t9 (q5 g)]
 have e:=zhA A.ok A.len (zkR (a:=a) (b:=b)) (by show 1<=900;decide)
 have c:¬ vAt h (a,b).1<2:=by show ¬ vAt h a<2;omega
 rw[zbz f c,WX f c]at e
 refine Xu (ρ:=[.v (zT m ts),.v (hD h),.v (.lst [zi (a,b)]),.no,.no]) rfl ?_
 unfold zdD
 refine zG (y6 (d:=.non) (zv (ds:=[zT m ts]) rfl (zkB A.ok))) (zG (y6 (d:=.non) (zv (ds:=[zT m ts,hD h]) rfl (zgF A.ok A.hp))) ?_)
 refine zG (vQ (σ':=[.v (zT m ts),.v (hD h),.v (.lst [zi (a,b)]),.v (.tup [.lst [hD (xV h (a,b))],.non]),.no]) (zv (ds:=[_,_,_]) rfl e)) ?_
 refine zG (vQ (σ':=[.v (zT m ts),.v (hD h),.v (.lst [zi (a,b)]),.v (.tup [.lst [hD (xV h (a,b))],.non]),.v .non]) rfl) ?_
 refine zG ((wC (y8 (b:=false) rfl)).trans rfl) ?_
 exact YU (yJ rfl) rfl
def zjs (A:xF m ts h)(k:yj a b∉ts\/vAt h a<2):WG [zT m ts,hD h,.lst [zi (a,b)]]=some 90:=by
 have e:=zhA A.ok A.len (zkR (a:=a) (b:=b)) (by show 1<=900;decide)
 obtain⟨s,i,e⟩:∃ s:Str,s≠"list"/\Vn [zT m ts,hD h,.lst [zi (a,b)]]=some (.tup [.lst [],.tup [.str s,.int ((0:Nat):Int)]]):=by
  by_cases g:yj a b∈ts
  .have f:WU ts (zi (a,b))=some (a,b):=by rw[Wu A.ok,t9 (q5 g)]
   have c:vAt h (a,b).1<2:=k.resolve_left λz=>z g
   rw[WY f c,Y6 f c]at e
   exact⟨"bare",by decide,e⟩
  .have f:WU ts (zi (a,b))=none:=by rw[Wu A.ok,j5 (by rw[q4 g];exact u7)]
   rw[X6 f,Zd f]at e
   exact⟨"form",by decide,e⟩
 show Zt [.v (zT m ts),.v (hD h),.v (.lst [zi (a,b)]),.no,.no]=_
 unfold Zt
 refine yG (ρ':=[.v (zT m ts),.v (hD h),.v (.lst [zi (a,b)]),.no,.no]) (vS (ds:=[zT m ts]) rfl (zqc A.ok)) (y6 (d:=.non) (zv (ds:=[zT m ts]) rfl (zkB A.ok))) (yG (ρ':=[.v (zT m ts),.v (hD h),.v (.lst [zi (a,b)]),.no,.no]) (vS (ds:=[zT m ts,hD h]) rfl (zoA A)) (y6 (d:=.non) (zv (ds:=[zT m ts,hD h]) rfl (zgF A.ok A.hp))) ?_)
 refine yG (ρ':=[.v (zT m ts),.v (hD h),.v (.lst [zi (a,b)]),.v (.tup [.lst [],.tup [.str s,.int ((0:Nat):Int)]]),.no]) rfl (vQ (zv (ds:=[_,_,_]) rfl e)) ?_
 refine yG (ρ':=[.v (zT m ts),.v (hD h),.v (.lst [zi (a,b)]),.v (.tup [.lst [],.tup [.str s,.int ((0:Nat):Int)]]),.v (.tup [.str s,.int ((0:Nat):Int)])]) rfl (vQ (zH (x:=.tup [.lst [],.tup [.str s,.int ((0:Nat):Int)]]) (y:=.int 1) rfl rfl rfl)) ?_
 refine zgr (y8 (zH (x:=.tup [.str s,.int ((0:Nat):Int)]) (y:=.non) rfl rfl rfl)) ?_
 have j:tOf (zn wP (zn ixD (zc 4) (eC (.int 0))) (eC (.str "list"))) (visG [.v (zT m ts),.v (hD h),.v (.lst [zi (a,b)]),.v (.tup [.lst [],.tup [.str s,.int ((0:Nat):Int)]]),.v (.tup [.str s,.int ((0:Nat):Int)])])=some false :=
  y8 (zH (x:=.str s) (y:=.str "list") (zH (x:=.tup [.str s,.int ((0:Nat):Int)]) (y:=.int 0) rfl rfl rfl) rfl (by rw[yC,q4 i]))
 have l:za (eIf (tOf (zn wP (zn ixD (zc 4) (eC (.int 0))) (eC (.str "list")))) (eUn zaw (eC (.int 1))) (zn ixD (zc 4) (eC (.int 1)))) zo (visG [.v (zT m ts),.v (hD h),.v (.lst [zi (a,b)]),.v (.tup [.lst [],.tup [.str s,.int ((0:Nat):Int)]]),.v (.tup [.str s,.int ((0:Nat):Int)])])=some [.int 0]:=by
  refine zj ?_ zX
  unfold eIf
  rw[j]
  rfl
 unfold xRI
 rw[l]
 rfl
def zbS (h:Hl)(a b:Int):Hl:=VM h a (vAt h a+b)
def zk3 {g:D->yx->yx->Option D}{f:zJ}{l h:Ev->Option yx}{b a:yx}(e:f ρ=some x)(c:l ρ=some b)(d:h ρ=some a)(i:g x b a=some z):eSl g f l h ρ=some z:=by
 unfold eSl
 rw[e,c,d]
 exact i
def zkK {f:zJ}(h:f ρ=some (.int i)):wL f ρ=some (some i):=by
 unfold wL
 rw[h]
 rfl
def zkv (A:xF m ts h)(j:0<=a/\a<m){d g:Nat}(f:zc c ρ=some (hD h))(e:zc d ρ=some (.int a))(l:zc g ρ=some (.int b)) :
 zn wt (zn wt (eSl slD (zc c) vk (wL (zc d))) (vl (za (zn wt (zn ixD (zc c) (zc d)) (zc g)) zo))) (eSl slD (zc c) (wL (zn wt (zc d) (eC (.int 1)))) vk) ρ=some (hD (zbS h a b)):=by
 have p:=A.len
 have q:=A.ok.hi
 obtain⟨k,rfl⟩:=Int.eq_ofNat_of_zero_le j.1
 have n:k<h.length:=by omega
 have o:=XT (ns:=h) (i:=(k:Int)) j.1 (by omega)
 refine zH (x:=.tup ((h.map .int).take k++[.int (vAt h k+b)])) (y:=.tup ((h.map .int).drop (k+1))) (zH (x:=.tup ((h.map .int).take k)) (y:=.tup [.int (vAt h k+b)]) (zk3 f rfl (zkK e) ?_) (Yr (zj (zH (x:=.int (vAt h k)) (y:=.int b) (zH (x:=hD h) (y:=.int (k:Int)) f e o) l rfl) zX) (by show 1<=1000;decide)) (zdo ?_)) (zk3 f (zkK (i:=((k+1:Nat):Int)) (zH e rfl rfl)) rfl ?_) ?_
 .show some (D.tup (X7 (h.map .int) none (some (k:Int))))=_
  rw[zhh]
 .rw[u0q,t4]
  show min k h.length+1<=1000
  omega
 .show some (D.tup (X7 (h.map .int) (some ((k+1:Nat):Int)) none))=_
  rw[zfn]
 .rw[zdo (by rw[j7,u0q,u05,t4];show min k h.length+1+(h.length-(k+1))<=1000;omega)]
  unfold hD zbS VM
  rw[List.set_eq_take_append_cons_drop,t9 (by show k<h.length;exact n),p4,o7,List.map_take,List.map_drop,u0X]
  rfl
def zms (h:Hl)(a b:Int):(zbS h a b).length=h.length:=Zj h a _
def zfS (d:(h.length:Int)=m)(c:0<=a/\a<m):(zbS h a b).sum=h.sum+b:=by
 unfold zbS
 rw[V3 c.1 (by omega)]
 omega
def zpu (A:xF m ts h)(d:0<=a/\a<m)(e:0<=b):∀ v∈zbS h a b,0<=v:=λv c=>by
 have:=A.nn _ (zhH d.1 (show a<(h.length:Int) by rw[A.len];exact d.2))
 rcases VN c with rfl | c
 .omega
 .exact A.nn v c
def zeV (A:xF m ts h)(c:0<=a/\a<m)(e:0<=b)(d:h.sum+b<=300):xF m ts (zbS h a b):=⟨A.ok,A.few,by rw[zms];exact A.len,zpu A c e,by rw[zfS A.len c];exact d⟩
def zjv (A:xF m ts h)(d:0<=a/\a<m)(e:0<=b)(c:¬ h.sum+b<=300):wT m (hD (zbS h a b))=false:=by
 show(xw m (.tup ((zbS h a b).map .int))&&decide ((((zbS h a b).map D.int).map zlh).sum<=300))=false
 rw[vL,zfS A.len d,q4 c,u0Q]
def zmm (A:xF m ts h)(c:0<=a/\a<m)(f:0<=b)(e:h.sum+b<=300):zha [zT m ts,hD h,.int a,.int b]=some (hD (zbS h a b)):=by
 refine Xu (ρ:=[.v (zT m ts),.v (hD h),.v (.int a),.v (.int b),.no]) rfl ?_
 unfold zpi
 refine zG (y6 (d:=.non) (zv (ds:=[zT m ts,.int a]) rfl (yD c))) ?_
 refine zG (vQ (σ':=[.v (zT m ts),.v (hD h),.v (.int a),.v (.int b),.v (hD (zbS h a b))]) (zkv A c rfl rfl rfl)) ?_
 have B:=zeV A c f e
 refine zG ((wC (wl (b:=true) (y8 (zv (ds:=[zT m ts,hD (zbS h a b)]) rfl (zaz B.ok (YG B.len B.nn B.sum)))))).trans rfl) ?_
 exact YU (yJ rfl) rfl
def zqQ (A:xF m ts h)(e:0<=b)(f:¬ ((0<=a/\a<m)/\h.sum+b<=300)):∃ j,zc4 [zT m ts,hD h,.int a,.int b]=some j/\(j=2\/j=3):=by
 show ∃ j,zga [.v (zT m ts),.v (hD h),.v (.int a),.v (.int b),.no]=some j/\(j=2\/j=3)
 unfold zga
 by_cases c:0<=a/\a<m
 .refine⟨2,?_,.inl rfl⟩
  refine yG (ρ':=[.v (zT m ts),.v (hD h),.v (.int a),.v (.int b),.no]) (vS (ds:=[zT m ts,.int a]) rfl (zaa c)) (y6 (d:=.non) (zv (ds:=[zT m ts,.int a]) rfl (yD c))) ?_
  refine yG (ρ':=[.v (zT m ts),.v (hD h),.v (.int a),.v (.int b),.v (hD (zbS h a b))]) rfl (vQ (zkv A c rfl rfl rfl)) ?_
  exact zgr (wl (b:=false) (y8 (zv (ds:=[zT m ts,hD (zbS h a b)]) rfl (zaz A.ok (zjv A c e λz=>f ⟨c,z⟩))))) rfl
 .exact⟨3,zcV (vS (ds:=[zT m ts,.int a]) rfl (zcp c)),.inr rfl⟩
def zfr (A:xF m ts h)(e:yj a b∈ts)(d:2<=vAt h a):xF m ts (xV h (a,b)):=by
 have c:Vy h.length (a,b):=zfQ A.len (XL A.ok e)
 refine⟨A.ok,A.few,by rw[zbC];exact A.len,zj5 c A.nn d,?_⟩
 rw[zhn c]
 have:=A.sum
 omega
def zj0 (A:xF m ts h)(c:yj a b∈ts)(e:2<=vAt h a):vb [zT m ts,hD h,.int a,.int b]=some (hD (xV h (a,b))):=by
 obtain⟨g,f,_⟩:=XL A.ok c
 refine Xu (ρ:=[.v (zT m ts),.v (hD h),.v (.int a),.v (.int b)]) rfl ?_
 unfold We
 refine zG (y6 (d:=.non) (zv (ds:=[zT m ts,.int a]) rfl (yD g))) ?_
 refine zG (y6 (d:=.non) (zv (ds:=[zT m ts,.int b]) rfl (yD f))) ?_
 exact YU (yJ (zH (x:=.lst [hD (xV h (a,b))]) (y:=.int 0) (zv (ds:=[zT m ts,hD h,.lst [zi (a,b)]]) (zj rfl (zj rfl (zj (Y1 (Wm (zj (Yr (zj rfl (zj rfl zX)) (by show 2<=1000;decide)) zX) (by show 1<=1000;decide))) zX))) (zfw A c e)) rfl rfl)) rfl
def zlL (A:xF m ts h)(e:¬ (yj a b∈ts/\2<=vAt h a)):∃ j,vo [zT m ts,hD h,.int a,.int b]=some j/\(j=3\/j=90):=by
 show ∃ j,wj [.v (zT m ts),.v (hD h),.v (.int a),.v (.int b)]=some j/\(j=3\/j=90)
 unfold wj
 by_cases c:(0<=a/\a<m)/\(0<=b/\b<m)
 .refine⟨90,zhe rfl rfl rfl c.1 c.2 (vS (ds:=[zT m ts,hD h,.lst [zi (a,b)]]) (zj rfl (zj rfl (zj (Y1 (Wm (zj (Yr (zj rfl (zj rfl zX)) (by show 2<=1000;decide)) zX) (by show 1<=1000;decide))) zX))) (zjs A ?_)),.inr rfl⟩
  by_cases d:yj a b∈ts
  .exact .inr (Int.not_le.mp λz=>e ⟨d,z⟩)
  .exact .inl d
 .exact⟨3,zl9 rfl rfl rfl c,.inl rfl⟩
end
def zaG:bootBuiltins "ValueError"=some (.type "ValueError"):=by decide +kernel
def zji {n:Nat}(h:n<=13):n<=sizeLine:=by rw[u0G];omega
def YT (T:Txt P w K mg base ad):ze0 P w K mg base 1 (ad.f 36) (ad.e 36) (Rw 36).ps (zgU (clT ad) (λj=>j<13/\zaX K (zh5 ad) ad.x_StoneError (clT ad j) j)):=by
 letI:KK:=⟨K,ad.dk⟩
 have z:=T.z "isinstance" (by decide)
 refine znd (N:=(Rw 36).N) (ps:=(Rw 36).ps) (T.d 36).fn (sc 36) (λf H Q E h=>by obtain⟨a,j,d,rfl,_⟩:=h;rfl) λk A outer s H f Q E t u c=>?_
 obtain⟨a,j,d,rfl,g,⟨e,b⟩,q⟩:=c
 refine⟨_,(zZ (wJ (i:=1) (sc 36).nd rfl (Or.inl rfl) (vz (zl (yw yV rfl z zF (zl (pv 0) (zl (yU (v:=.ref ad.x_NoWeb) rfl T.g_NoWeb rfl) zU))) (zl (yw yV rfl z zF (zl (pv 0) (zl (yU (v:=.ref ad.x_NoKind) rfl T.g_NoKind rfl) zU))) (zl (yw yV rfl z zF (zl (pv 0) (zl (yU (v:=.ref ad.x_NoHeap) rfl T.g_NoHeap rfl) zU))) (zl (yw yV rfl z zF (zl (pv 0) (zl (yU (v:=.ref ad.x_NoPlace) rfl T.g_NoPlace rfl) zU))) zU))))))
  (zZ (wJ (i:=1) (sc 36).nd rfl (Or.inl rfl) (zjJ zdG (pv 1) (vz (zl (yw yV rfl z zF (zl (pv 0) (zl (yU (v:=.ref ad.x_NoNumber) rfl T.g_NoNumber rfl) zU))) (zl (yw yV rfl z zF (zl (pv 0) (zl (yU (v:=.ref ad.x_NoTally) rfl T.g_NoTally rfl) zU))) (zl (yw yV rfl z zF (zl (pv 0) (zl (yU (v:=.ref ad.x_NotTree) rfl T.g_NotTree rfl) zU))) (zl (yw yV rfl z zF (zl (pv 0) (zl (yU (v:=.ref ad.x_NotJoined) rfl T.g_NotJoined rfl) zU))) zU)))))))
  (zZ (wJ (i:=1) (sc 36).nd rfl (Or.inl rfl) (zjJ zdG (pv 1) (vz (zl (yw yV rfl z zF (zl (pv 0) (zl (yU (v:=.ref ad.x_NoWeights) rfl T.g_NoWeights rfl) zU))) (zl (yw yV rfl z zF (zl (pv 0) (zl (yU (v:=.ref ad.x_NoRow) rfl T.g_NoRow rfl) zU))) (zl (yw yV rfl z zF (zl (pv 0) (zl (yU (v:=.ref ad.x_NoSteps) rfl T.g_NoSteps rfl) zU))) (zl (yw yV rfl z zF (zl (pv 0) (zl (yU (v:=.ref ad.x_NoText) rfl T.g_NoText rfl) zU))) zU)))))))
  (zZ (wJ (i:=1) (sc 36).nd rfl (Or.inl rfl) (zjJ zdG (pv 1) (vz (zl (yw yV rfl z zF (zl (pv 0) (zl (yU (v:=.ref ad.x_TooGreat) rfl T.g_TooGreat rfl) zU))) zU))))
  (zZ (ziG (PW.pt (zoc (zkU (zko (yw yV rfl z zF (zl (pv 0) (zl (vY (v:=.ty "ValueError") rfl (T.z "ValueError" (by decide)) zaG rfl) zU))))) (zkZ (zb4 zgH (Xx p5 PySem.F.slot_list_count PySem.F.type_list_count zgh (pv 1) (zl zjl zU)) zr (yk _))))) (xL (Yz (znI zky zr))) zbV) (xL (Yz (Xx p5 PySem.F.slot_list_index PySem.F.type_list_index zhq (pv 1) (zl zjl zU))))))))),?_⟩
 refine zf7 (cs:=[ad.x_NoWeb,ad.x_NoKind,ad.x_NoHeap,ad.x_NoPlace]) (bs:=[0 == j,1 == j,2 == j,3 == j]) b.look (u0z (λl=>(l.drop 0).take 4) b.hot) (zji (n:=4) (by decide)) rfl rfl g λo H1 S1=>?_
 refine zal (cs:=[ad.x_NoNumber,ad.x_NoTally,ad.x_NotTree,ad.x_NotJoined]) (bs:=[4 == j,5 == j,6 == j,7 == j]) b.look (u0z (λl=>(l.drop 4).take 4) b.hot) (by exact zji (n:=8) (by decide)) S1 λm H2 S2=>?_
 refine zal (cs:=[ad.x_NoWeights,ad.x_NoRow,ad.x_NoSteps,ad.x_NoText]) (bs:=[8 == j,9 == j,10 == j,11 == j]) b.look (u0z (λl=>(l.drop 8).take 4) b.hot) (by exact zji (n:=12) (by decide)) S2 λp H3 S3=>?_
 refine zal (cs:=[ad.x_TooGreat]) (bs:=[12 == j]) b.look (u0z (λl=>(l.drop 12).take 1) b.hot) (by exact zji (n:=13) (by decide)) S3 λr H4 S4=>?_
 exact zlC b.val b.look e S4 (q _ S4.same)
abbrev v6 :=zS (zl7 (xEx (znk 2 xc (zc 0) (za (zc 1) zo))) (xN false 3 (zni 2 yn (zc 0) (za (zc 1) zo))) (zjy [0,1,2,3,9,10] (fK [0,1,2,3,9,10])))
  (yW (zc 3))
def yP:=fnD 4 v6
def Xg (T:Txt P w K mg base ad):T.Pr 38 12 2 yP:=by
 letI:KK:=⟨K,ad.dk⟩
 have H_kinds:=YT T
 have a:∀ j,j∈[0,1,2,3,9,10]->j<13/\zaX K (zh5 ad) ad.x_StoneError (clT ad j) j:=by
  intro j f
  simp only[j9,List.not_mem_nil,or_false]at f
  rcases f with rfl | rfl | rfl | rfl | rfl | rfl
  .exact⟨by decide,.of T.y_NoWeb⟩
  .exact⟨by decide,.of T.y_NoKind⟩
  .exact⟨by decide,.of T.y_NoHeap⟩
  .exact⟨by decide,.of T.y_NoPlace⟩
  .exact⟨by decide,.of T.y_NoRow⟩
  .exact⟨by decide,.of T.y_NoSteps⟩
 have b:∀ (h:Nat->Option D) j d,zjy [0,1,2,3,9,10] h j=some d->PySem.W.exmOne K (.ref (clT ad j)) (.ref ad.x_StoneError)=some true:=λh j d e=>by rw[zh6 ad j];exact(a _ (zff e)).2.exm
 have G_Desk_say:=Zb T
 have X_Desk_say:=zba T
 refine za3 (N:=(Rw 38).N) (ps:=(Rw 38).ps) (T.d 38).fn (sc 38) (g:=v6) λn A outer s H E c=>?_
 unfold v6
 exact(zC (zku (i:=2) rfl rfl rfl (sc 38).nd rfl rfl rfl T.g_StoneError (λk W E0 l=>(z4 (zkw (i:=3) (sc 38).nd rfl (Or.inl rfl) (zpB T.dkc.cl T.mm_Desk_say (X_Desk_say.mono (by decide)) l c T.mb_Desk_say (edv 0) (zb (edv 1) zh))))) (λk W=>(zR (wK (m:=false) (i:=3) (sc 38).nd rfl (Or.inl rfl) (zkE T.dkc.cl T.mm_Desk_say (G_Desk_say.mono (by decide)) c T.mb_Desk_say (edv 0) (zb (edv 1) zh))))) (b _) (λok o=>(xL (Yz (zdh (E:=λ_ _ _=>False) H_kinds (c.mono (by decide)) rfl (T.d 36).at_ (T.d 36).kp (T.d 36).bd ok (zl (pv 2) zU))))) (zkF (zkO (zcW (ok:=_) (zh6 ad) a))))
  (zR (wq (edv 3))))
def okL (x:Str) (_:zg):Bool:=!decide (x="ring")
def vA {t:vx}{c:yS}(e:t (visG ρ)=some false):wQ (xIf t a xNo) (sIf t b zE) c ρ=c ρ:=by
 unfold wQ xIf sIf
 rw[e]
 rfl
def zaA {t:vx}{a:yS}{g:zz}(e:t (visG ρ)=some true)(h:a ρ=some j):wQ (xIf t a xNo) g b ρ=some j:=zcV (zgr e h)
def tw (c:Bool)(h:zc i ρ=some (.str x))(a:decide (x=y)=c:=by decide):tOf (zn wP (zc i) (eC (.str y))) ρ=some c:=y8 (zH h rfl (by rw[yC,a]))
def zoU {f:zJ}{a:zaJ}{d:D}(h:f ρ=some d)(b:a ρ=r):zi0 f a ρ=r:=by
 unfold zi0
 rw[h]
 exact b
section
variable {w hh w' h':D}{a b:Int}{j:Nat}
def YC (c:zc 3 ρ=some (.lst [.int a,.int b])):za (zn ixD (zc 3) (eC (.int 0))) (za (zn ixD (zc 3) (eC (.int 1))) zo) ρ=some [.int a,.int b]:=zj (zH c rfl rfl) (zj (zH c rfl rfl) zX)
def za8 (e:zbL [w,.int a,.int b]=some w'):v7 [w,hh,.str "tie",.lst [.int a,.int b]]=some (.tup [w',hh]):=by
 refine Xu (ρ:=[.v w,.v hh,.v (.str "tie"),.v (.lst [.int a,.int b])]) rfl ?_
 unfold W3
 refine zG ((wC (tw false rfl)).trans rfl) ?_
 refine vD ?_
 rw[VB (tw true rfl)]
 exact YU (yJ (Yr (zj (zv (ds:=[w,.int a,.int b]) (zj rfl (YC rfl)) e) (zj rfl zX)) (by show 2<=1000;decide))) rfl
def zaN (e:zhW [w,.int a,.int b]=some w'):v7 [w,hh,.str "cut",.lst [.int a,.int b]]=some (.tup [w',hh]):=by
 refine Xu (ρ:=[.v w,.v hh,.v (.str "cut"),.v (.lst [.int a,.int b])]) rfl ?_
 unfold W3
 refine zG ((wC (tw false rfl)).trans rfl) (zG ((wC (tw false rfl)).trans rfl) (vD ?_))
 rw[VB (tw true rfl)]
 exact YU (yJ (Yr (zj (zv (ds:=[w,.int a,.int b]) (zj rfl (YC rfl)) e) (zj rfl zX)) (by show 2<=1000;decide))) rfl
def zbs (e:zha [w,hh,.int a,.int b]=some h'):v7 [w,hh,.str "put",.lst [.int a,.int b]]=some (.tup [w,h']):=by
 refine Xu (ρ:=[.v w,.v hh,.v (.str "put"),.v (.lst [.int a,.int b])]) rfl ?_
 unfold W3
 refine zG ((wC (tw false rfl)).trans rfl) (zG ((wC (tw false rfl)).trans rfl) (zG ((wC (tw false rfl)).trans rfl) (vD ?_)))
 rw[VB (tw true rfl)]
 exact YU (yJ (Yr (zj rfl (zj (zv (ds:=[w,hh,.int a,.int b]) (zj rfl (zj rfl (YC rfl))) e) zX)) (by show 2<=1000;decide))) rfl
def VZ (e:vb [w,hh,.int a,.int b]=some h'):v7 [w,hh,.str "step",.lst [.int a,.int b]]=some (.tup [w,h']):=by
 refine Xu (ρ:=[.v w,.v hh,.v (.str "step"),.v (.lst [.int a,.int b])]) rfl ?_
 unfold W3
 refine zG ((wC (tw false rfl)).trans rfl) (zG ((wC (tw false rfl)).trans rfl) (zG ((wC (tw false rfl)).trans rfl) (zG ((wC (tw false rfl)).trans rfl) (vD ?_))))
 rw[VB (tw true rfl)]
 exact YU (yJ (Yr (zj rfl (zj (zv (ds:=[w,hh,.int a,.int b]) (zj rfl (zj rfl (YC rfl))) e) zX)) (by show 2<=1000;decide))) rfl
def WN (e:zah [w,.int a,.int b]=some j):vm [w,hh,.str "tie",.lst [.int a,.int b]]=some j:=by
 show xI [.v w,.v hh,.v (.str "tie"),.v (.lst [.int a,.int b])]=_
 unfold xI
 rw[vA (tw false rfl)]
 exact zaA (tw true rfl) (vS (ds:=[w,.int a,.int b]) (zj rfl (YC rfl)) e)
def WC (e:zde [w,.int a,.int b]=some j):vm [w,hh,.str "cut",.lst [.int a,.int b]]=some j:=by
 show xI [.v w,.v hh,.v (.str "cut"),.v (.lst [.int a,.int b])]=_
 unfold xI
 rw[vA (tw false rfl),vA (tw false rfl)]
 exact zaA (tw true rfl) (vS (ds:=[w,.int a,.int b]) (zj rfl (YC rfl)) e)
def zcP (e:zc4 [w,hh,.int a,.int b]=some j):vm [w,hh,.str "put",.lst [.int a,.int b]]=some j:=by
 show xI [.v w,.v hh,.v (.str "put"),.v (.lst [.int a,.int b])]=_
 unfold xI
 rw[vA (tw false rfl),vA (tw false rfl),vA (tw false rfl)]
 exact zaA (tw true rfl) (zoU (d:=w) rfl (vS (ds:=[w,hh,.int a,.int b]) (zj rfl (zj rfl (YC rfl))) e))
def zby (e:vo [w,hh,.int a,.int b]=some j):vm [w,hh,.str "step",.lst [.int a,.int b]]=some j:=by
 show xI [.v w,.v hh,.v (.str "step"),.v (.lst [.int a,.int b])]=_
 unfold xI
 rw[vA (tw false rfl),vA (tw false rfl),vA (tw false rfl),vA (tw false rfl)]
 exact zaA (tw true rfl) (zoU (d:=w) rfl (vS (ds:=[w,hh,.int a,.int b]) (zj rfl (zj rfl (YC rfl))) e))
end
def P8:yl:=(List.range 8).flatMap λa:Nat=>(List.range a).map λb:Nat=>((b:Int),(a:Int))
def zdP {a:yl}(ok:wr m a):a.length<=28:=by
 have c:=ok.hi
 refine n0 ((zdx ok).length_le_of_subset (l₂:=P8) λt b=>?_) (by decide +kernel)
 have r:=ok.rng t b
 unfold P8
 rw[List.mem_flatMap]
 refine⟨t.2.toNat,u02.mpr (by omega),u0D.mpr ⟨t.1.toNat,u02.mpr (by omega),u2B ?_ ?_⟩⟩
 .show((t.1.toNat:Nat):Int)=t.1
  omega
 .show((t.2.toNat:Nat):Int)=t.2
  omega
structure Sta where
 m:Int
 ts:yl
 h:Hl
def Sta.wd (s:Sta):D:=zT s.m s.ts
def Sta.d (s:Sta):D:=hD s.h
def Sta.Ok (s:Sta):Prop:=xF s.m s.ts s.h
def Sta.p (s:Sta):D:=.tup [s.wd,s.d]
def zoj:D->zy
 | .tup a=>a.map zlh
 | _=>[]
def okB (w h:D)(x:Str)(ns:zg):Bool:=match ns with
 | [.int a,.int b]=>(if x="tie" then decide ((0<=a/\a<X5 w)/\(0<=b/\b<X5 w))&&!(decide (a=b)||decide (yj a b∈zb0 w))
  else if x="cut" then decide ((0<=a/\a<X5 w)/\(0<=b/\b<X5 w))&&decide (yj a b∈zb0 w)
  else if x="put" then decide ((0<=a/\a<X5 w)/\(zoj h).sum+b<=300)
  else decide (yj a b∈zb0 w/\2<=vAt (zoj h) a))
 | _=>okL x ns
section
variable {s:Sta}{a b:Int}
def zcb:okB s.wd s.d "tie" [.int a,.int b]=(decide ((0<=a/\a<s.m)/\(0<=b/\b<s.m))&&!(decide (a=b)||decide (yj a b∈s.ts))):=by
 show(decide ((0<=a/\a<X5 (zT s.m s.ts))/\(0<=b/\b<X5 (zT s.m s.ts)))&&!(decide (a=b)||decide (yj a b∈zb0 (zT s.m s.ts))))=_
 rw[W1,Ww]
def zco:okB s.wd s.d "cut" [.int a,.int b]=(decide ((0<=a/\a<s.m)/\(0<=b/\b<s.m))&&decide (yj a b∈s.ts)):=by
 show(decide ((0<=a/\a<X5 (zT s.m s.ts))/\(0<=b/\b<X5 (zT s.m s.ts)))&&decide (yj a b∈zb0 (zT s.m s.ts)))=_
 rw[W1,Ww]
def zhI:okB s.wd s.d "put" [.int a,.int b]=decide ((0<=a/\a<s.m)/\s.h.sum+b<=300):=by
 show decide ((0<=a/\a<X5 (zT s.m s.ts))/\((s.h.map D.int).map zlh).sum+b<=300)=_
 rw[W1,vL]
def zdN:okB s.wd s.d "step" [.int a,.int b]=decide (yj a b∈s.ts/\2<=vAt s.h a):=by
 show decide (yj a b∈zb0 (zT s.m s.ts)/\2<=vAt ((s.h.map D.int).map zlh) a)=_
 rw[Ww,vL]
end
def staB (m:Int)(a:yl)(h:Hl):Bool:=decide (1<=m)&&decide (m<=8)&&a.all (λt=>decide (0<=t.1)&&decide (t.1<t.2)&&decide (t.2<m))&&decide (a.Pairwise ltP)&&decide (a.length<=28)&&decide ((h.length:Int)=m)&&h.all (λx=>decide (0<=x))&&decide (h.sum<=300)
def zb1 (e:staB m c h=true):xF m c h:=by
 unfold staB at e
 simp only[j6,k7,m7]at e
 obtain⟨⟨⟨⟨⟨⟨⟨l,f⟩,b⟩,j⟩,i⟩,g⟩,d⟩,k⟩:=e
 exact⟨⟨l,f,λt a=>⟨(b t a).1.1,(b t a).1.2,(b t a).2⟩,j⟩,i,g,d,k⟩
section
variable {w hh row w' h':D}{x:Str}{ns ps:zg}{j:Nat}
def zap (ns:zy):noL (.tup (ns.map .int))=true:=by
 show zfD (ns.map .int)=true
 induction ns with
 | nil=>rfl
 | cons n ns a=>exact a
def zbW (m:Int)(a:yl):noL (zT m a)=true:=by
 have:zfD (a.map zi)=true:=by
  induction a with
  | nil=>rfl
  | cons t a b=>exact b
 show(true&&(zfD (a.map zi)&&true))=true
 rw[this]
 rfl
def zop (h:xm [row]=some (.tup [.str x,.lst ns])) (d:(xS zI x).isSome=false) (g:x≠"back") (e:v7 [w,hh,.str x,.lst ns]=some (.tup [w',h'])) (i:noL w=true) (c:noL hh=true) (b:noL w'=true) (a:noL h'=true) (f:ps.length<1000) :
 yo w hh ps [row]=some (w',h',ps++[.tup [w,hh]]):=by
 unfold yo
 dsimp only
 rw[h]
 dsimp only
 rw[d,j5 u7,j5 g,e]
 dsimp only
 rw[t9 (zgY b a)]
 unfold xj
 dsimp only
 rw[t9 ⟨i,c,b,a,f⟩]
def Y2:xm [.str "back"]=some (.tup [.str "back",.lst []]):=by kernel_rfl
def zju (b:noL w'=true) (a:noL h'=true):yo w hh (ps++[.tup [w',h']]) [.str "back"]=some (w',h',ps):=by
 unfold yo
 dsimp only
 rw[Y2]
 dsimp only
 rw[j5 (by decide +kernel),t9 rfl]
 unfold yI
 rw[List.getLast?_concat,u0Z]
 dsimp only
 rw[t9 ⟨b,a⟩]
def zpX (e:xm [row]=some (.tup [.str x,.lst ns])) (a:vg [row]=none) (d:(xS zI x).isSome=false) (c:x≠"back") (f:vm [w,hh,.str x,.lst ns]=some j):xc [.obj w hh ps,row]=some j:=by
 show yL [.v (.obj w hh ps),.v row,.no,.no]=_
 unfold yL
 refine yG (ρ':=[.v (.obj w hh ps),.v row,.v (.tup [.str x,.lst ns]),.no]) (vS (ds:=[row]) rfl a) (vQ (zv (ds:=[row]) rfl e)) ?_
 refine yG (ρ':=[.v (.obj w hh ps),.v row,.v (.tup [.str x,.lst ns]),.v (.str x)]) rfl (vQ (zH (x:=.tup [.str x,.lst ns]) (y:=.int 0) rfl rfl rfl)) ?_
 refine yG (ρ':=[.v (.obj w hh ps),.v row,.v (.tup [.str x,.lst ns]),.v (.str x)]) rfl ((wC (y8 (b:=false) (zas (x:=.str x) rfl (by show some (D.bl _)=_;rw[d])))).trans rfl) ?_
 unfold xIf
 rw[tw false rfl (q4 c)]
 show(ziC (zc 0) _ _)=_
 unfold ziC
 rw[show zc 0 (visG [.v (.obj w hh ps),.v row,.v (.tup [.str x,.lst ns]),.v (.str x)])=some (.obj w hh ps)from rfl,k6]
 exact vS (ds:=[w,hh,.str x,.lst ns]) rfl f
def zeG:xc [.obj w hh [],.str "back"]=some 9:=by
 show yL [.v (.obj w hh []),.v (.str "back"),.no,.no]=_
 unfold yL
 refine yG (ρ':=[.v (.obj w hh []),.v (.str "back"),.v (.tup [.str "back",.lst []]),.no]) (vS (ds:=[.str "back"]) rfl (by kernel_rfl)) (vQ (zv (ds:=[.str "back"]) rfl Y2)) ?_
 refine yG (ρ':=[.v (.obj w hh []),.v (.str "back"),.v (.tup [.str "back",.lst []]),.v (.str "back")]) rfl (vQ (zH (x:=.tup [.str "back",.lst []]) (y:=.int 0) rfl rfl rfl)) ?_
 refine yG (ρ':=[.v (.obj w hh []),.v (.str "back"),.v (.tup [.str "back",.lst []]),.v (.str "back")]) rfl ((wC (y8 (b:=false) (zas (x:=.str "back") rfl (by kernel_rfl)))).trans rfl) ?_
 unfold xIf
 rw[tw true rfl]
 rfl
def zp4 {t:D}(h:xm [row]=some (.tup [.str x,.lst ns]))(e:vg [row]=none)(f:(xS zI x).isSome=true)(i:YK [w,hh,.str x,.lst ns]=some t):xc [.obj w hh ps,row]=none/\yn [.obj w hh ps,row]=some t:=by
 have a:xN false 2 (zq 1 xm (za (zc 1) zo)) [.v (.obj w hh ps),.v row,.no,.no]=.nx [.v (.obj w hh ps),.v row,.v (.tup [.str x,.lst ns]),.no]:=vQ (zv (ds:=[row]) rfl h)
 have d:xN false 3 (zn ixD (zc 2) (eC (.int 0))) [.v (.obj w hh ps),.v row,.v (.tup [.str x,.lst ns]),.no]=.nx [.v (.obj w hh ps),.v row,.v (.tup [.str x,.lst ns]),.v (.str x)]:=vQ (zH (x:=.tup [.str x,.lst ns]) (y:=.int 0) rfl rfl rfl)
 have c:∀ g:zz,sIf (tOf (eUn (za9 zI) (zc 3))) (yW (zq 4 YK (za (eUn zm0 (zc 0)) (za (eUn zlo (zc 0)) (za (zc 3) (za (zn ixD (zc 2) (eC (.int 1))) zo)))))) g [.v (.obj w hh ps),.v row,.v (.tup [.str x,.lst ns]),.v (.str x)]=.rt t:=λg=>by
  rw[VB (y8 (b:=true) (zas (x:=.str x) rfl (by show some (D.bl _)=_;rw[f])))]
  exact yJ (zv (ds:=[w,hh,.str x,.lst ns]) (zj (zas (x:=.obj w hh ps) rfl rfl) (zj (zas (x:=.obj w hh ps) rfl rfl) (zj rfl (zj rfl zX)))) i)
 refine⟨?_,?_⟩
 .show yL [.v (.obj w hh ps),.v row,.no,.no]=_
  unfold yL
  have j:xEx (xP 1 vg (za (zc 1) zo)) [.v (.obj w hh ps),.v row,.no,.no]=none:=vS (ds:=[row]) rfl e
  unfold wQ
  rw[j,a]
  dsimp only
  rw[show xNo [.v (.obj w hh ps),.v row,.v (.tup [.str x,.lst ns]),.no]=none from rfl,d]
  dsimp only
  rw[show xNo [.v (.obj w hh ps),.v row,.v (.tup [.str x,.lst ns]),.v (.str x)]=none from rfl,c]
 .refine Xu (ρ:=[.v (.obj w hh ps),.v row,.no,.no]) rfl ?_
  unfold YD
  exact zG a (zG d (vD (YU (c _) rfl)))
end
def Out (s:Sta)(x:Str)(ns:zg):Prop:=(okB s.wd s.d x ns=true/\∃ a:Sta,a.Ok/\v7 [s.wd,s.d,.str x,.lst ns]=some a.p)\/(okB s.wd s.d x ns=false/\∃ j,vm [s.wd,s.d,.str x,.lst ns]=some j/\j%16∈[0,1,2,3,9,10])
section
variable {s:Sta}{a b:Int}
variable (A:s.Ok)
include A
theorem zlx:Out s "tie" [.int a,.int b]:=by
 by_cases c:(0<=a/\a<s.m)/\(0<=b/\b<s.m)
 .by_cases d:a=b\/yj a b∈s.ts
  .refine .inr ⟨?_,_,WN (zo4 A.ok A.few c.1 c.2 d),by rw[show(16+64*(s.ts.length+1))%16=0 by omega];decide⟩
   rw[zcb,<- Bool.decide_or,q5 d]
   simp
  .have f:a≠b:=λz=>d (.inl z)
   have e:yj a b∉s.ts:=λz=>d (.inr z)
   have ok:=zhN A.ok c.1 c.2 f e
   refine .inl ⟨?_,⟨s.m,zpI s.ts (yj a b),s.h⟩,⟨ok,zdP ok,A.len,A.nn,A.sum⟩,za8 (zlV A.ok A.few c.1 c.2 f e)⟩
   rw[zcb,<- Bool.decide_or,q4 d,q5 c]
   rfl
 .refine .inr ⟨?_,3,WN (by show W2 [.v (zT s.m s.ts),.v (.int a),.v (.int b)]=_;unfold W2;exact zl9 rfl rfl rfl c),by decide⟩
  rw[zcb,q4 c]
  rfl
theorem zmY:Out s "cut" [.int a,.int b]:=by
 by_cases c:(0<=a/\a<s.m)/\(0<=b/\b<s.m)
 .by_cases d:yj a b∈s.ts
  .have ok:=zmN A.ok (yj a b)
   refine .inl ⟨?_,⟨s.m,s.ts.filter λt=>!decide (t=yj a b),s.h⟩,⟨ok,zdP ok,A.len,A.nn,A.sum⟩,zaN (zn3 A.few c.1 c.2 d)⟩
   rw[zco,q5 d,q5 c]
   rfl
  .refine .inr ⟨?_,_,WC (zqh c.1 c.2 d),by rw[show(16+64*(s.ts.length+1))%16=0 by omega];decide⟩
   rw[zco,q4 d,u0Q]
 .refine .inr ⟨?_,3,WC (by show Vp [.v (zT s.m s.ts),.v (.int a),.v (.int b),.no]=_;unfold Vp;exact zl9 rfl rfl rfl c),by decide⟩
  rw[zco,q4 c]
  rfl
theorem zlS (d:0<=b):Out s "put" [.int a,.int b]:=by
 by_cases c:(0<=a/\a<s.m)/\s.h.sum+b<=300
 .exact .inl ⟨by rw[zhI,q5 c],⟨s.m,s.ts,zbS s.h a b⟩,zeV A c.1 d c.2,zbs (zmm A c.1 d c.2)⟩
 .obtain⟨j,e,f⟩:=zqQ A d c
  exact .inr ⟨by rw[zhI,q4 c],j,zcP e,by rcases f with rfl | rfl <;> decide⟩
theorem ziu:Out s "step" [.int a,.int b]:=by
 by_cases c:yj a b∈s.ts/\2<=vAt s.h a
 .exact .inl ⟨by rw[zdN,q5 c],⟨s.m,s.ts,xV s.h (a,b)⟩,zfr A c.1 c.2,VZ (zj0 A c.1 c.2)⟩
 .obtain⟨j,e,d⟩:=zlL A c
  exact .inr ⟨by rw[zdN,q4 c],j,zby e,by rcases d with rfl | rfl <;> decide⟩
end
section
variable {w hh row:D}{ps:zg}{j:Nat}
def zkI (h:xc [.obj w hh ps,row]=some j)(a:j%16∈[0,1,2,3,9,10]):yP [.obj w hh ps,row]=some (.int (j%16:Nat)):=by
 refine Xu (ρ:=[.v (.obj w hh ps),.v row,.no,.no]) rfl ?_
 unfold v6
 refine vD (YU (d:=.int (j%16:Nat)) (zjw (j:=j) ?_ ?_) rfl)
 .show znk 2 xc (zc 0) (za (zc 1) zo) _=_
  unfold znk
  rw[show zc 0 (visG [.v (.obj w hh ps),.v row,.no,.no])=some (.obj w hh ps)from rfl,k6]
  show((some [row]).bind λb=>if b.length+1=2 then xc (.obj w hh ps::b)else none)=_
  rw[k6,t9 (show [row].length+1=2 from rfl)]
  exact h
 .unfold zjy fK
  rw[t9 a,t9 a]
end
def zio (m:Int) (a:yl) (h:zy):Str:=Txt.replace (zdY m a h) "\n" " ; "
def zbd {h:zy} (A:xF m a h):YK [zT m a,.tup (h.map .int),.str "shown",.lst []]=some (.str (zio m a h)):=by
 refine Xu (ρ:=[.v (zT m a),.v (.tup (h.map .int)),.v (.str "shown"),.v (.lst [])]) rfl ?_
 unfold XM
 refine zG ((wC (tw false rfl)).trans rfl) (zG ((wC (tw false rfl)).trans rfl) (zG ((wC (tw false rfl)).trans rfl) (zG ((wC (tw false rfl)).trans rfl) (zG ((wC (tw false rfl)).trans rfl) (zG ((wC (tw false rfl)).trans rfl) (zG ((wC (tw false rfl)).trans rfl) ?_))))))
 refine YU (d:=.str (zio m a h)) (yJ ?_) rfl
 unfold zmj
 rw[zv (ds:=[zT m a,.tup (h.map .int)]) rfl (zi7 A),k6]
 dsimp only
 rw[t9 (n0 A.short (by decide))]
 rfl
def zf1 {h:zy} (A:xF m a h):yn [.obj (zT m a) (.tup (h.map .int)) b,.str "shown"]=some (.str (zio m a h)) :=
 (zp4 (x:="shown") (ns:=[]) (by kernel_rfl) (by kernel_rfl) (by kernel_rfl) (zbd A)).2
def xD:zz :=zS (zl7 xNo (sKs 3 (kDo 0 2 yo (.str "ok") (za (zc 1) zo))) (zjy [0,1,2,3,9,10] (fK [0,1,2,3,9,10]))) zE
def vn:SE->Option D:=(vEv true (zc 3))
def ya:KV:=λw h a b=>match b with
 | [row]=>if noL row=true then (yo w h a [row]).map λr=>(.str "ok",r)else none
 | _=>none
def W5:∀ z w h ps i d f c b,ya w h ps i=some (d,f,c,b)->zlb 4 xD vn z w h ps i=some (d,f,c,⟨z,b⟩):=by
 intro z w h ps i d f c b e
 unfold ya at e
 split at e
 .rename_i a
  split at e
  .rename_i m
   obtain⟨⟨q,p,j⟩,n,o⟩:=u9.mp e
   cases o
   have k:xD [.k w h ⟨z,ps⟩,.v a,.no,.no]=.nx [.k f c ⟨z,b⟩,.v a,.no,.v (.str "ok")]:=by
    unfold xD
    refine YB (g:=zl7 _ _ _) (h:=zE) ?_
    show sKs 3 _ _=_
    unfold sKs
    have l:kDo 0 2 yo (.str "ok") (za (zc 1) zo) [.k w h ⟨z,ps⟩,.v a,.no,.no]=some (.str "ok",[.k f c ⟨z,b⟩,.v a,.no,.no]):=zfg (ds:=[a]) rfl rfl (by show(noL a&&true)=true;rw[m];rfl) rfl n
    rw[l]
    rfl
   show(match xD [.k w h ⟨z,ps⟩,.v a,.no,.no] with
    | .nx ρ=>(match (ρ:SE)[0]?,vn ρ with
     | some (Sl.k f c p'),some d=>some (d,f,c,p')
     | _,_=>none)
    | _=>none)=_
   rw[k]
   rfl
  .cases e
 .cases e
def Zn (T:Txt P w K mg base ad):xu P w K mg base CX0 12 (ad.f 38) (ad.e 38) (Rw 38).ps (@zla ⟨K,ad.dk⟩ 2 ya):=by
 letI:KK:=⟨K,ad.dk⟩
 have H_kinds:=YT T
 have a:∀ j,j∈[0,1,2,3,9,10]->j<13/\zaX K (zh5 ad) ad.x_StoneError (clT ad j) j:=by
  intro j c
  simp only[j9,List.not_mem_nil,or_false]at c
  rcases c with rfl | rfl | rfl | rfl | rfl | rfl
  .exact⟨by decide,.of T.y_NoWeb⟩
  .exact⟨by decide,.of T.y_NoKind⟩
  .exact⟨by decide,.of T.y_NoHeap⟩
  .exact⟨by decide,.of T.y_NoPlace⟩
  .exact⟨by decide,.of T.y_NoRow⟩
  .exact⟨by decide,.of T.y_NoSteps⟩
 have b:∀ (h:Nat->Option D) j d,zjy [0,1,2,3,9,10] h j=some d->PySem.W.exmOne K (.ref (clT ad j)) (.ref ad.x_StoneError)=some true:=λh j d e=>by rw[zh6 ad j];exact(a _ (zff e)).2.exm
 have K_Desk_say:=zbo T
 refine zp8 (zlF (N:=(Rw 38).N) (ps:=(Rw 38).ps) (T.d 38).fn (sc 38) (g:=xD) (fv:=vn) λl A outer s H E k=>?_) W5
 unfold xD vn
 exact(zi4 (zku (i:=2) rfl rfl rfl (sc 38).nd rfl rfl rfl T.g_StoneError (λf W E0 n=>z6) (λf W=>(zR (zp7 (i:=3) (sc 38).nd rfl (Or.inl rfl) (zkW T.dkc.cl T.mm_Desk_say (K_Desk_say.mono (by decide)) k T.mb_Desk_say (pv 0) (zb (edv 1) zh))))) (b _) (λok m=>(xL (Yz (zdh (E:=λ_ _ _=>False) H_kinds (k.mono (by decide)) rfl (T.d 36).at_ (T.d 36).kp (T.d 36).bd ok (zl (pv 2) zU))))) (zkF (zkO (zcW (ok:=_) (zh6 ad) a)))) (zlN (edv 3)))
def zL (w h:D)(b a:zg):Bool:=match a with
 | [row]=>(match xm [row] with
  | some (.tup [.str x,.lst ns])=>if x="back" then !b.isEmpty else if (xS zI x).isSome=true then false else okB w h x ns
  | _=>false)
 | _=>false
def fam (x:Str)(ns:zg):Bool:=match ns with
 | [.int _,.int b]=>(decide (x="tie")||decide (x="cut")||decide (x="put")||decide (x="step"))&&decide (0<=b)
 | [.int a]=>(decide (x="web")&&decide (a=4))||(decide (x="row")&&decide (a=4))
 | []=>decide (x="back")
 | _=>false
def zlf (h:fam x [.int n]=true):Out s x [.int n]:=by
 unfold fam at h
 simp only[u1g,j6,k7]at h
 rcases h with ⟨rfl,rfl⟩ | ⟨rfl,rfl⟩
 .exact .inl ⟨by kernel_rfl,⟨4,[],[0,0,0,0]⟩,zb1 (by decide +kernel),by kernel_rfl⟩
 .exact .inl ⟨by kernel_rfl,⟨4,[(0,1),(1,2),(2,3)],[0,0,0,0]⟩,zb1 (by decide +kernel),by kernel_rfl⟩
def zmi {s:Sta}(A:s.Ok)(h:fam x [.int a,.int b]=true):Out s x [.int a,.int b]:=by
 unfold fam at h
 simp only[u1g,j6,k7]at h
 obtain⟨h,c⟩:=h
 rcases h with ((rfl | rfl) | rfl) | rfl
 .exact zlx A
 .exact zmY A
 .exact zlS A c
 .exact ziu A
structure zmf (r x:Str) (ns:zg):Prop where
 p:xm [.str r]=some (.tup [.str x,.lst ns])
 q:vg [.str r]=none
 f:fam x ns=true
 b:r="back"↔x="back"
def zkz (d:D):Bool:=match d with
 | .str r=>(match xm [.str r],vg [.str r] with
  | some (.tup [.str x,.lst ns]),none=>fam x ns&&(decide (r="back") == decide (x="back"))
  | _,_=>false)
 | _=>false
def zjm {d:D}(h:zkz d=true):∃ r x ns,d=.str r/\zmf r x ns:=by
 unfold zkz at h
 split at h
 .rename_i r
  split at h
  .rename_i x ns b a
   rw[j6,u0g]at h
   exact⟨r,x,ns,rfl,⟨b,a,h.1,by have:=h.2;constructor <;> intro z <;> simp_all⟩⟩
  .cases h
 .cases h
def txt (s:Sta):D:=.str (zio s.m s.ts s.h)
def s0:Sta:=⟨1,[],[0]⟩
def zpV:s0.Ok:=zb1 (by decide +kernel)
structure zeE (Ss:List Sta) (c:Sta):Prop where
 all:∀ s∈Ss++[c],s.Ok
 first:(Ss++[c]).head?=some s0
def zeE.now {c:Sta}(G:zeE Ss c):c.Ok:=G.all c (o8 _ (t8.mpr rfl))
def zeE.add {s:Sta}(G:zeE Ss c)(A:s.Ok):zeE (Ss++[c]) s:=by
 refine⟨λx a=>?_,?_⟩
 .rcases i8.mp a with h | h
  .exact G.all x h
  .rw[t8.mp h];exact A
 .have:=G.first
  cases Ss with
  | nil=>exact this
  | cons y r=>exact this
def zeE.less (G:zeE (Ss++[s]) c):zeE Ss s:=by
 refine⟨λx a=>G.all x (u00 _ a),?_⟩
 have:=G.first
 cases Ss with
 | nil=>exact this
 | cons y r=>exact this
def zp3 (s:Sta):noL s.d=true:=zap _
def zqe (s:Sta):noL s.wd=true:=zbW _ _
def zmG {Ss:List Sta} {s c:Sta}:yo c.wd c.d ((Ss++[s]).map Sta.p) [.str "back"]=some (s.wd,s.d,Ss.map Sta.p):=by
 rw[p4]
 exact zju (zqe s) (zp3 s)
def cOf (Ss:List Sta)(c:Sta):D × D × zg:=(c.wd,c.d,Ss.map Sta.p)
def Va:=WK zL ya yP
def zjL {Ss:List Sta}(G:zeE Ss c)(R:zmf r x ns)(A:Ss.length<1000):∃ d Ss' k,zeE Ss' k/\Ss'.length<=Ss.length+1/\wm d=true/\Va (cOf Ss c) (.str r)=some (d,cOf Ss' k):=by
 have i:∀ {d q u:D} {h:zg},zL c.wd c.d (Ss.map Sta.p) [.str r]=true->ya c.wd c.d (Ss.map Sta.p) [.str r]=some (d,q,u,h)->Va (cOf Ss c) (.str r)=some (d,q,u,h):=λ{d q u h} h1 h2=>by
  unfold Va WK
  rw[t9 (show zL (cOf Ss c).1 (cOf Ss c).2.1 (cOf Ss c).2.2 [.str r]=true from h1)]
  exact h2
 have no:∀ {d:D},zL c.wd c.d (Ss.map Sta.p) [.str r]=false->yP [.obj c.wd c.d (Ss.map Sta.p),.str r]=some d->Va (cOf Ss c) (.str r)=some (d,cOf Ss c):=λ{d} h1 h2=>by
  unfold Va WK
  rw[j5 (show ¬ zL (cOf Ss c).1 (cOf Ss c).2.1 (cOf Ss c).2.2 [.str r]=true from by rw[show zL (cOf Ss c).1 (cOf Ss c).2.1 (cOf Ss c).2.2 [.str r]=false from h1];exact u7),show yP [.obj (cOf Ss c).1 (cOf Ss c).2.1 (cOf Ss c).2.2,.str r]=some d from h2]
  rfl
 by_cases l:x="back"
 .have p:r="back":=R.b.mpr l
  subst p
  have m:zL c.wd c.d (Ss.map Sta.p) [.str "back"]=!(Ss.map Sta.p).isEmpty:=by
   unfold zL
   dsimp only
   rw[Y2]
   dsimp only
   rw[t9 rfl]
  rcases List.eq_nil_or_concat Ss with e | ⟨Sp,s,e⟩
  .subst e
   exact⟨.int 9,[],c,G,p9 _,rfl,no m (zkI zeG (by decide))⟩
  .rw[List.concat_eq_append]at e
   subst e
   have t:(!((Sp++[s]).map Sta.p).isEmpty)=true:=by
    cases Sp <;> rfl
   refine⟨.str "ok",Sp,s,G.less,by rw[j7];omega,rfl,i (m.trans t) ?_⟩
   unfold ya
   dsimp only
   rw[t9 (show noL (D.str "back")=true from rfl),zmG]
   rfl
 .have g:Out c x ns->(xS zI x).isSome=false->∃ d Ss' k,zeE Ss' k/\Ss'.length<=Ss.length+1/\wm d=true/\Va (cOf Ss c) (.str r)=some (d,cOf Ss' k):=λOo v=>by
   have z:zL c.wd c.d (Ss.map Sta.p) [.str r]=okB c.wd c.d x ns:=by
    unfold zL
    dsimp only
    rw[R.p]
    dsimp only
    rw[j5 l,j5 (by rw[v];exact u7)]
   rcases Oo with ⟨o,J,A',B⟩ | ⟨o,j,H,C⟩
   .refine⟨.str "ok",Ss++[c],J,G.add A',by rw[j7];exact t6 _,rfl,?_⟩
    have I:(Ss++[c]).map Sta.p=Ss.map Sta.p++[c.p]:=by rw[p4];rfl
    unfold cOf
    rw[I]
    refine i (by rw[z,o]) ?_
    unfold ya
    dsimp only
    rw[t9 (show noL (D.str r)=true from rfl),zop R.p v l B (zbW _ _) (zap _) (zbW _ _) (zap _) (by rw[t4];exact A)]
    rfl
   .exact⟨.int (j%16:Nat),Ss,c,G,u1w _,rfl,no (by rw[z,o]) (zkI (zpX R.p R.q v l H) C)⟩
  have f:=R.f
  cases ns with
  | nil =>
   unfold fam at f
   exact absurd (k8 f) l
  | cons w E =>
   cases E with
   | nil =>
    cases w with
    | int n =>
     refine g (zlf f) ?_
     unfold fam at f
     simp only[u1g,j6,k7]at f
     rcases f with ⟨rfl,_⟩ | ⟨rfl,_⟩ <;> kernel_rfl
    | _=>cases f
   | cons y F =>
    cases F with
    | nil =>
     cases w with
     | int a =>
      cases y with
      | int b =>
       refine g (zmi G.now f) ?_
       unfold fam at f
       simp only[u1g,j6,k7]at f
       rcases f.1 with ((rfl | rfl) | rfl) | rfl <;> kernel_rfl
      | _=>cases f
     | _=>cases f
    | cons K L=>cases w <;> first | cases f | (cases y <;> cases f)
def zdH (G:zeE Ss c):yn [.obj (cOf Ss c).1 (cOf Ss c).2.1 (cOf Ss c).2.2,.str "shown"]=some (txt c):=zf1 G.now
def Xw (s:(D × D × zg) × zg) (r:D):Option ((D × D × zg) × zg):=(Va s.1 r).bind λx=>(yn [.obj x.2.1 x.2.2.1 x.2.2.2,.str "shown"]).bind λt=>if wm x.1=true/\wm t=true/\wm r=true then some (x.2,s.2++[.lst [x.1,t]])else none
def zh8 (a:zg):Option ((D × D × zg) × zg):=a.foldlM Xw ((w0,h0,[]),[])
def WE:zh8 (a++[r])=(zh8 a).bind λs=>Xw s r:=by
 unfold zh8
 rw[List.foldlM_append]
 show(List.foldlM Xw _ a>>=λs=>Xw s r>>=λb=>pure b)=_
 cases List.foldlM Xw ((w0,h0,[]),[]) a with
 | none=>rfl
 | some s =>
  show(Xw s r>>=λb=>pure b)=Xw s r
  cases Xw s r <;> rfl
def zjd (h:zh8 (a++qs)=some s):∃ b,zh8 a=some b:=by
 unfold zh8 at h ⊢
 rw[List.foldlM_append]at h
 cases e:List.foldlM Xw ((w0,h0,[]),[]) a with
 | none=>rw[e]at h;cases h
 | some b=>exact⟨b,rfl⟩
def selT {i:Nat}{c:D->D->zg->zg->Bool}{a:yB}{f g:SE->Option (D × SE)}{w:D}{p:Pst}(e:ρ[i]?=some (.k w h p))(b:a (visG ρ)=some ds)(d:c w h p.l ds=true):zjb i c a f g ρ=f ρ:=by
 unfold zjb
 rw[e]
 dsimp only
 rw[b]
 dsimp only
 rw[t9 d]
def selF {i:Nat}{c:D->D->zg->zg->Bool}{a:yB}{f g:SE->Option (D × SE)}{w:D}{p:Pst}(e:ρ[i]?=some (.k w h p))(b:a (visG ρ)=some ds)(d:c w h p.l ds=false):zjb i c a f g ρ=g ρ:=by
 unfold zjb
 rw[e]
 dsimp only
 rw[b]
 dsimp only
 rw[j5 (by rw[d];exact u7)]
def zlt {i n:Nat}{R:KV}{d w:D}{ds:zg}{f:yB}{ρ g:SE}(e:ρ[i]?=some (.k w h ⟨z,b⟩))(p:f (visG ρ)=some ds)(l:zfD ds=true)(k:ds.length+1=n)(o:R w h b ds=some (d,j,c,a))(m:ρ.set i (.k j c ⟨z,a⟩)=g:=by rfl):zlG i n R f ρ=some (d,g):=by
 unfold zlG
 rw[e]
 dsimp only
 rw[p,k6,t9 ⟨l,k⟩,o,<- m]
 rfl
def zoS {f:zJ}{d:D}(h:f (visG ρ)=some d)(a:noL d=true):kEd f ρ=some (d,ρ):=by
 unfold kEd
 rw[vG h a]
 rfl
abbrev xA :=ze4 2 (zjP (zjb 1 zL (za (zc 3) zo) (zlG 1 2 ya (za (zc 3) zo)) (kEd (zq 2 yP (za (zc 1) (za (zc 3) zo))))) (zni 2 yn (zc 1) (za (eC (.str "shown")) zo)))
abbrev xo :=zS (zmy 1)
  (zS (Vg 2 (yy zo))
  (zS (W8 (iOf (zc 0)) (wZ 3) xA)
  (sFz 2 (yW (zc 2)))))
def xi:=fnD 4 xo
def ZG (T:Txt P w K mg base ad):T.Pr 39 13 1 xi:=by
 letI:KK:=⟨K,ad.dk⟩
 have G__law_said:=Xg T
 have V__law_said:=Zn T
 have G_Desk_say:=Zb T
 have I_init:=zcR T
 refine za3 (N:=(Rw 39).N) (ps:=(Rw 39).ps) (T.d 39).fn (sc 39) (g:=xo) λd A outer s H E c=>?_
 unfold xo xA
 exact(zC (zmB (i:=1) T.mkd (I_init.mono (by decide)) c rfl T.g_Desk T.mb_Desk___init__ (sc 39).nd rfl (Or.inl rfl))
  (zC (zeZ (i:=2) (sc 39).nd rfl (Or.inl rfl) (wH zh))
  (zC (zkM u11 rfl (XY (edv 0)) (ZV (xy (i:=3) (sc 39).nd rfl (Or.inl rfl))) (zR (zmD (i:=2) (pv 2) (zlk (zoE (ziy (V__law_said.mono (by decide)) c rfl (T.d 38).at_ (T.d 38).kp (T.d 38).bd (pv 1) (zb (edv 3) zh)) (zqm (zA G__law_said c rfl (T.d 38) (zb (edv 1) (zb (edv 3) zh))))) (zkE T.dkc.cl T.mm_Desk_say (G_Desk_say.mono (by decide)) c T.mb_Desk_say (edv 1) (zb (zQ zK) zh))) (λa b=>Xx p5 u0o u0p Yt a b))))
  (zgX 2 (zR (wq (edv 2)))))))
def zkT:yB:=(iOf (zn wt (zn wt (xO (yy (za (eC (.int 1)) (za (eC (.int 6)) zo)))) (eSl slD (zc 0) vk (wL (eC (.int 20))))) (xO (yy (za (eC (.int 0)) (za (eC (.int 1)) (za (eC (.int 2)) zo)))))))
def ze9:zJ:=(zn Zh (zc 4) (eC (.int 2)))
def zfo:zJ:=(zq 2 vT (za (zc 4) (za (eC (.int 3)) zo)))
def zg9:zJ:=(eFn zkJ (za (zn Zh (zn Ya (zc 6) (eC (.int 64))) (eC (.int 4))) zo))
def zhX:zJ:=(eFn zkJ (za (zn Zh (zn Ya (zc 6) (eC (.int 256))) (eC (.int 4))) zo))
def zds:zJ:=(xO (yy (za (eC (.str "web 4")) (za (eC (.str "row 4")) (za (zn wt (zn wt (zn wt (eC (.str "tie ")) (zc 7)) (eC (.str " "))) (zc 8)) (za (zn wt (zn wt (eC (.str "put ")) (zc 7)) (eC (.str " 4"))) (za (zn wt (zn wt (zn wt (eC (.str "step ")) (zc 7)) (eC (.str " "))) (zc 8)) (za (eC (.str "back")) zo))))))))
def zgT:zJ:=(zn ixD (zn wt (zc 9) (xO (yy (za (eC (.str "cut 0 1")) (za (eC (.str "put 0 1")) zo))))) (zn Zh (zc 6) (eC (.int 8))))
def zkS:zJ:=(ZK (zn wP (zn ixD (zc 3) (eC (.int 0))) (zq 1 xi (za (zn ixD (zc 2) (eC (.int 0))) zo))) (zn wP (zn ixD (zc 3) (eC (.int 1))) (zq 1 xi (za (zn ixD (zc 2) (eC (.int 1))) zo))))
def zg5 {w:D} {As:zg} {d t:D} (c:Va (w,h,a) r=some (d,c')) (o:yn [.obj c'.1 c'.2.1 c'.2.2,.str "shown"]=some t) (m:wm d=true) (g:wm t=true) (i:wm r=true) (j:As.length<=1000) :
 xA [.v Rs,.k w h ⟨none,a⟩,.o As,.v r]=.nx [.v Rs,.k c'.1 c'.2.1 ⟨none,c'.2.2⟩,.o (As++[.lst [d,t]]),.v r]:=by
 have e:∀ {d:D},wm d=true->noL d=true:=λ{d} h=>by cases d <;> first | rfl | cases h
 have k:zjb 1 zL (za (zc 3) zo) (zlG 1 2 ya (za (zc 3) zo)) (kEd (zq 2 yP (za (zc 1) (za (zc 3) zo)))) [.v Rs,.k w h ⟨none,a⟩,.o As,.v r]=some (d,[.v Rs,.k c'.1 c'.2.1 ⟨none,c'.2.2⟩,.o As,.v r]):=by
  unfold Va WK at c
  split at c
  .rename_i f
   exact(selT (w:=w) (h:=h) (p:=⟨none,a⟩) (ds:=[r]) rfl rfl f).trans (zlt (ds:=[r]) rfl rfl (by show(noL r&&true)=true;rw[e i];rfl) rfl c)
  .rename_i f
   obtain⟨s,n,l⟩:=u9.mp c
   cases l
   exact(selF (w:=w) (h:=h) (p:=⟨none,a⟩) (ds:=[r]) rfl rfl (Bool.eq_false_iff.mpr f)).trans (zoS (zv (ds:=[.obj w h a,r]) rfl n) (e m))
 have q:vEv true (zni 2 yn (zc 1) (za (eC (.str "shown")) zo)) [.v Rs,.k c'.1 c'.2.1 ⟨none,c'.2.2⟩,.o As,.v r]=some t:=by
  refine vG ?_ (e g)
  unfold zni
  rw[show zc 1 (visG [.v Rs,.k c'.1 c'.2.1 ⟨none,c'.2.2⟩,.o As,.v r])=some (.obj c'.1 c'.2.1 c'.2.2)from rfl,k6]
  show((some [D.str "shown"]).bind λb=>if b.length+1=2 then yn (.obj c'.1 c'.2.1 c'.2.2::b)else none)=_
  rw[k6,t9 (show [D.str "shown"].length+1=2 from rfl)]
  exact o
 show ze4 2 _ _=_
 unfold ze4
 rw[show zjP (zjb 1 zL (za (zc 3) zo) (zlG 1 2 ya (za (zc 3) zo)) (kEd (zq 2 yP (za (zc 1) (za (zc 3) zo))))) (zni 2 yn (zc 1) (za (eC (.str "shown")) zo)) [.v Rs,.k w h ⟨none,a⟩,.o As,.v r]=some (.lst [d,t],[.v Rs,.k c'.1 c'.2.1 ⟨none,c'.2.2⟩,.o As,.v r]) by
  unfold zjP
  rw[k,k6,q]
  rfl]
 show(if decide (As.length<sizeLine)=true then _ else _)=_
 rw[t9 (q5 (yR j))]
 rfl
def ziY (h:Xw s r=some a):∃ d t,Va s.1 r=some (d,a.1)/\yn [.obj a.1.1 a.1.2.1 a.1.2.2,.str "shown"]=some t/\wm d=true/\wm t=true/\wm r=true/\a.2=s.2++[.lst [d,t]]:=by
 unfold Xw at h
 obtain⟨x,c,h⟩:=u4.mp h
 obtain⟨t,e,h⟩:=u4.mp h
 split at h
 .rename_i b
  cases h
  exact⟨x.1,t,c,e,b.1,b.2.1,b.2.2,rfl⟩
 .cases h
def VG {a:zg}(h:zh8 a=some (c,As))(u:a.length<=900):xi [.lst a]=some (.lst As):=by
 refine Xu (ρ:=[.v (.lst a),.no,.no,.no]) rfl ?_
 unfold xo
 refine zG (ρ':=[.v (.lst a),.k w0 h0 ⟨none,[]⟩,.no,.no]) rfl ?_
 refine zG (ρ':=[.v (.lst a),.k w0 h0 ⟨none,[]⟩,.o [],.no]) rfl ?_
 refine vD (ziR (ds:=a) (λi ρ=>∃ s o,zh8 (a.take i)=some s/\s.2.length=i/\ρ=[.v (.lst a),.k s.1.1 s.1.2.1 ⟨none,s.1.2.2⟩,.o s.2,o]) ?_ ⟨_,_,rfl,rfl,rfl⟩ ?_ ?_)
 .rfl
 .rintro i d ρ j ⟨s,o,e,f,rfl⟩
  have v:=(j3.mp j).1
  have l:a.take (i+1)=a.take i++[d]:=by rw[List.take_add_one,j];rfl
  obtain⟨g,b⟩:∃ g,zh8 (a.take (i+1))=some g:=zjd (qs:=a.drop (i+1)) (by rw[u1E];exact h)
  rw[l,WE,e,k6]at b
  obtain⟨w,t,n,q,m,r,p,k⟩:=ziY b
  refine⟨[.v (.lst a),.k s.1.1 s.1.2.1 ⟨none,s.1.2.2⟩,.o s.2,.v d],rfl,?_⟩
  refine zhV (zg5 (c':=g.1) n q m r p (by omega)) ⟨g,_,by rw[l,WE,e,k6];exact b,by rw[k,j7,f];rfl,by rw[k]⟩
 .rintro ρ ⟨s,o,e,f,rfl⟩
  rw[u06,h]at e
  cases e
  exact zqT rfl (YU (d:=.lst As) (yJ rfl) rfl)
def zm9 {ds:zg}{i:Int}(h0:0<=i)(a:i<(ds.length:Int)):∃ d,L2.atI ds i=some d/\d∈ds:=by
 have e:L2.atI ds i=some (ds[i.toNat]'(by omega)):=znW h0 (o6 (by omega))
 exact⟨_,e,u0O _⟩
def ze1 {a b:Int}(h:zc i ρ=some (.int n))(d:0<a)(c:a<1000)(e:0<b):zn Zh (zn Ya (zc i) (eC (.int a))) (eC (.int b)) ρ=some (.int (n/a%b)) :=
 zH (x:=.int (n/a)) (y:=.int b) (zH (x:=.int n) (y:=.int a) h rfl (zdm d (by omega))) rfl (by rw[Ze e])
def zp5 {a b:zg}(h:a.length+b.length<=1000):wt (.lst a) (.lst b)=some (.lst (a++b)):=Zk h
def zlp:(List.range 4).all (λa=>(List.range 4).all λb=>match zds [none,none,none,none,none,none,none,some (.str (nS (a:Int))),some (.str (nS (b:Int))),none,none] with
 | some (.lst l)=>(l.length == 6)&&l.all zkz
 | _=>false)=true:=by kernel_rfl
def zou:zkz (.str "cut 0 1")=true/\zkz (.str "put 0 1")=true:=⟨by kernel_rfl,by kernel_rfl⟩
def znQ (z:Int):∃ i r x c,i<2/\Six ze9 zfo zg9 zhX zds zgT z i (.str r)/\zmf r x c:=by
 obtain⟨n,k⟩:∃ n,zqx z 3=n:=⟨_,rfl⟩
 obtain⟨a,g⟩:∃ a,n/64%4=a:=⟨_,rfl⟩
 obtain⟨b,f⟩:∃ b,n/256%4=b:=⟨_,rfl⟩
 obtain⟨t,w⟩:=zdw (by decide) g
 obtain⟨u,b1⟩:=zdw (by decide) f
 have h:=m7.mp (m7.mp zlp a.toNat (u02.mpr (by omega))) b.toNat (u02.mpr (by omega))
 rw[show((a.toNat:Nat):Int)=a by omega,show((b.toNat:Nat):Int)=b by omega]at h
 split at h
 .rename_i l p
  rw[j6,u0g]at h
  have j:(l++[D.str "cut 0 1",D.str "put 0 1"]).length=8:=by rw[j7,h.1];rfl
  have q:(l++[D.str "cut 0 1",D.str "put 0 1"]).all zkz=true:=by
   rw[List.all_append,h.2]
   show(true&&(zkz (.str "cut 0 1")&&(zkz (.str "put 0 1")&&true)))=true
   rw[zou.1,zou.2]
   rfl
  obtain⟨d,e,m⟩:=zm9 (ds:=l++[D.str "cut 0 1",D.str "put 0 1"]) (i:=n%8) (u1V _ (by decide)) (by rw[j];exact u1h _ (by decide))
  obtain⟨r,x,c,rfl,R⟩:=zjm (m7.mp q d m)
  have s:0<=z%2:=u1V _ (by decide)
  have o:z%2<2:=u1h _ (by decide)
  have v:vT [.int z,.int 3]=some (.int n):=by rw[<-k];rfl
  refine⟨(z%2).toNat,r,x,c,by omega,⟨.int n,.str (nS a),.str (nS b),.lst l,?_,?_,?_,?_,p,?_⟩,R⟩
  .rw[show(((z%2).toNat:Nat):Int)=z%2 by omega]
   exact zH (x:=.int z) (y:=.int 2) rfl rfl (by rw[Ze (by decide)])
  .exact zv (ds:=[.int z,.int 3]) rfl v
  .exact zdZ (ds:=[.int a]) (zj (by rw[ze1 (i:=6) rfl (by decide) (by decide) (by decide),g]) zX) (zcK t (by omega))
  .exact zdZ (ds:=[.int b]) (zj (by rw[ze1 (i:=6) rfl (by decide) (by decide) (by decide),f]) zX) (zcK u (by omega))
  .refine zH (x:=.lst (l++[D.str "cut 0 1",D.str "put 0 1"])) (y:=.int (n%8)) (zH (x:=.lst l) (y:=.lst [.str "cut 0 1",.str "put 0 1"]) rfl rfl (zp5 (by rw[h.1];decide))) (zH (x:=.int n) (y:=.int 8) rfl rfl (by rw[Ze (by decide)])) e
 .cases h
def Jn (n:Nat)(a:Nat->D × D × zg)(Rs As:Nat->zg):Prop:=∀ i,i<2->∃ Ss c,zeE Ss c/\Ss.length<=n/\(Rs i).length<=n/\(As i).length<=n/\a i=cOf Ss c/\zh8 (Rs i)=some (a i,As i)/\(As i).all (okE 19)=true
def J0:Jn 0 (λ_=>(w0,h0,[])) (λ_=>[]) (λ_=>[]):=λi b=>⟨[],s0,⟨λs a=>by rw[t8.mp a];exact zpV,rfl⟩,t6 _,t6 _,t6 _,rfl,rfl,rfl⟩
def zqf {zs:zy} (w:zs.length<=69):∀ n z b Rs As,zs[n]?=some z->Jn n b Rs As->∃ i r d t a,Six ze9 zfo zg9 zhX zds zgT z i r/\i<2/\WK zL ya yP (b i) r=some (d,a)/\wm d=true/\yn [.obj a.1 a.2.1 a.2.2,.str "shown"]=some t/\wm t=true/\(Rs i).length<=1000/\(As i).length<=1000/\Jn (n+1) (WP b i a) (WP Rs i (Rs i++[r])) (WP As i (As i++[.lst [d,t]])):=by
 intro n z b Rs As y J
 have B:=(j3.mp y).1
 obtain⟨i,r,x,A,g,S,R⟩:=znQ z
 obtain⟨Ss,c,G,D,o,l,s,m,ok⟩:=J i g
 obtain⟨d,Ss',a,G',F,e,f⟩:=zjL G R (by omega)
 rw[<-s]at f
 refine⟨i,.str r,d,txt a,cOf Ss' a,S,g,f,e,zdH G',rfl,by omega,by omega,λj p=>?_⟩
 by_cases h:j=i
 .subst h
  refine⟨Ss',a,G',by omega,by rw[y9,j7];exact u0C o,by rw[y9,j7];exact u0C l,y9,?_,?_⟩
  .rw[y9,y9,y9,WE,m,k6]
   unfold Xw
   rw[f,k6,zdH G',k6,t9 ⟨e,rfl,rfl⟩]
  .rw[y9,List.all_append,ok]
   show(true&&((okE 18 d&&(okE 18 (txt a)&&true))&&true))=true
   have:okE 18 d=true:=by cases d <;> first | rfl | cases e
   rw[this]
   rfl
 .rw[ZU h,ZU h,ZU h]
  obtain⟨S2,u,G2,H,E,C,k,q,v⟩:=J j p
  exact⟨S2,u,G2,by omega,by omega,by omega,k,q,v⟩
def zgV {l:zg}(h:l.all (okE 19)=true):wP (.lst l) (.lst l)=some (.bl true):=by
 have a:okE 20 (.lst l)=true:=h
 show(if okE 20 (.lst l)=true/\okE 20 (.lst l)=true then some (eqN 20 (.lst l) (.lst l))else none).map D.bl=_
 rw[t9 ⟨a,a⟩,zdJ 20 a]
 rfl
def zp6 {zs:zy}(h:zs.length<=69):∀ e Rs As,Jn zs.length e Rs As->zkS [none,none,some (.lst [.lst (Rs 0),.lst (Rs 1)]),some (.lst [.lst (As 0),.lst (As 1)])]=some (.bl true):=by
 intro e Rs As J
 obtain⟨S0,i,G0,j,n,k,q,g,ok⟩:=J 0 (by decide)
 obtain⟨S1,p,G1,m,l,o,f,a,d⟩:=J 1 (by decide)
 refine zpt (b:=true) (c:=true) (zH (x:=.lst (As 0)) (y:=.lst (As 0)) rfl (zv (ds:=[.lst (Rs 0)]) rfl (VG g (by omega))) (zgV ok)) (zH (x:=.lst (As 1)) (y:=.lst (As 1)) rfl (zv (ds:=[.lst (Rs 1)]) rfl (VG a (by omega))) (zgV d))
def zpF (ns:zy)(h:ns.length<=63):∃ zs:zy,zkT [some (.scr ns)]=some (zs.map .int)/\zs.length<=69:=by
 have b:=zh9 ns none (some 20)
 have a:(([1,6]++X7 ns none (some 20))++[0,1,2]).length<=69:=by
  rw[j7,j7]
  show 2+(X7 ns none (some 20)).length+3<=69
  omega
 refine⟨([1,6]++X7 ns none (some 20))++[0,1,2],?_,a⟩
 refine zcZ (d:=.lst ((([1,6]++X7 ns none (some 20))++[0,1,2]).map .int)) (zH (x:=.lst (([1,6]++X7 ns none (some 20)).map D.int)) (y:=.lst [.int 0,.int 1,.int 2]) (zH (x:=.lst [.int 1,.int 6]) (y:=.lst ((X7 ns none (some 20)).map D.int)) rfl rfl ?_) rfl ?_) rfl
 .rw[zp5 (by rw[t4];show 2+_<=1000;omega),p4]
  rfl
 .rw[zp5 (by rw[t4,j7];show 2+_+3<=1000;omega),p4 (l₁:=[1,6]++X7 ns none (some 20))]
  rfl
def zn8 (T:Txt P w K mg base ad):xu P w K mg base CX0 40 (ad.f 40) (ad.e 40) (Rw 40).ps (zit K):=by
 letI:KK:=⟨K,ad.dk⟩
 have G__law_stir:=za5 T
 have G__law_said:=Xg T
 have V__law_said:=Zn T
 have G__law_told_alone:=ZG T
 have G_Desk_say:=Zb T
 have I_init:=zcR T
 refine((T.d 40).fn.ok (k:=16) (N:=["script","desks","rows","answers","cell","which","number","a","b","some","row"]) (ps:=["script"]) (sc 40) (λe H Q E h=>?_) λg A outer s H e Q E b h=>?_).mono (by decide)
 .obtain⟨a,ns,rfl,_⟩:=h
  rfl
 obtain⟨a,ns,rfl,f,d,q⟩:=h
 obtain⟨zs,j,c⟩:=zpF ns d
 refine zk6 (f1:=ze9) (f2:=zfo) (f3:=zg9) (f4:=zhX) (f5:=zds) (f6:=zgT) (fi:=zkT) (fr:=zkS) (cv:=zL) (J:=Jn) (ns:=ns) (zs:=zs)
  (wJ (i:=1) (sc 40).nd rfl (Or.inl rfl) (vz (zl (V7 (E:=λ_ _ _=>False) T.mkd I_init (b.mono (by decide)) rfl T.g_Desk T.mb_Desk___init__ .nil Zq) (zl (V7 (E:=λ_ _ _=>False) T.mkd I_init (b.mono (by decide)) rfl T.g_Desk T.mb_Desk___init__ .nil Zq) zU))))
  (wJ (i:=2) (sc 40).nd rfl (Or.inl rfl) (vz (zl (vz zU) (zl (vz zU) zU))))
  (wJ (i:=3) (sc 40).nd rfl (Or.inl rfl) (vz (zl (vz zU) (zl (vz zU) zU))))
  u11 rfl (XY (wX (wX (YS (wH (zb (zt zr) (zb (zt zr) zh)))) (XW (edv 0) V0 (V4 (zt zr)))) (YS (wH (zb (zt zr) (zb (zt zr) (zb (zt zr) zh))))))) (xy (i:=4) (sc 40).nd rfl (Or.inl rfl))
  (Vo (i:=5) (sc 40).nd rfl (Or.inl rfl) (zaP (edv 4) (zt zr)))
  (Vo (i:=6) (sc 40).nd rfl (Or.inl rfl) (zA G__law_stir b rfl (T.d 37) (zb (edv 4) (zb (zt zr) zh))))
  (Vo (i:=7) (sc 40).nd rfl (Or.inl rfl) (Yu Yy zcr rfl (T.z "str" (by decide)) Z5 (zb (zaP (zcc (edv 6) (zt zr)) (zt zr)) zh)))
  (Vo (i:=8) (sc 40).nd rfl (Or.inl rfl) (Yu Yy zcr rfl (T.z "str" (by decide)) Z5 (zb (zaP (zcc (edv 6) (zt zr)) (zt zr)) zh)))
  (Vo (i:=9) (sc 40).nd rfl (Or.inl rfl) (YS (wH (zb (zQ zK) (zb (zQ zK) (zb (wX (wX (wX (zQ zK) (edv 7)) (zQ zK)) (edv 8)) (zb (wX (wX (zQ zK) (edv 7)) (zQ zK)) (zb (wX (wX (wX (zQ zK) (edv 7)) (zQ zK)) (edv 8)) (zb (zQ zK) zh)))))))))
  (Vo (i:=10) (sc 40).nd rfl (Or.inl rfl) (z5 (wX (edv 9) (YS (wH (zb (zQ zK) (zb (zQ zK) zh))))) (zaP (edv 6) (zt zr)) (λ_ _=>rfl)))
  (vZ (Xx p5 u0o u0p Yt (zbR WS (pv 2) (pv 5) (λ_ _=>rfl)) (zl (pv 10) zU)))
  (vZ (Xx p5 u0o u0p Yt (zbR WS (pv 3) (pv 5) (λ_ _=>rfl)) (zl (vz (zl (zlO V__law_said G__law_said (b.mono (by decide)) (b.mono (by decide)) rfl (T.d 38).at_ (T.d 38).kp (T.d 38).bd (pv 1) (pv 5) (λ_ _=>rfl) (pv 10)) (zl (Wf (E:=λ_ _ _=>False) (zbR WS (pv 1) (pv 5) (λ_ _=>rfl)) T.dkc.cl T.mm_Desk_say G_Desk_say (b.mono (by decide)) T.mb_Desk_say .nil Zq (zl zK zU)) zU))) zU)))
  (zkt (Z6 (yF b) z3 (yk _) (z5 (edv 3) (zt zr) (λ_ _=>rfl)) (zA G__law_told_alone b rfl (T.d 39) (zb (z5 (edv 2) (zt zr) (λ_ _=>rfl)) zh))) (zk2 (Z6 (yF b) z3 (yk _) (z5 (edv 3) (zt zr) (λ_ _=>rfl)) (zA G__law_told_alone b rfl (T.d 39) (zb (z5 (edv 2) (zt zr) (λ_ _=>rfl)) zh)))))
  rfl ⟨_,rfl,?_⟩ j J0 (zqf c) (zp6 c) q
 unfold At
 exact⟨a,rfl,f⟩
end
def all_mk {l:W.OpenLaw} {w:World} {K:zu} {h:Heap} {mg:wc} {fa:Addr} (X:K.In h) (G:h.Ns mainGlobals mg) (hfa:mg "law"=some (.ref fa)) {tk0:Tok} {tk1:Tok} {tk2:Tok}
 {sz0 ep0:Nat} {rr0_0 rr0_1 rr0_2 rr0_3 rr0_4:Addr} {hh0_0 hh0_1 hh0_2 hh0_3 hh0_4:Int} {tt0_0 tu0_0_0 tu0_0_1 tt0_1 tu0_1_0 tu0_1_1 tt0_2 tu0_2_0 tu0_2_1 tt0_3 tu0_3_0 tu0_3_1 tt0_4 tu0_4_0 tu0_4_1:Tok} {nn0_0 nn0_1 nn0_2 nn0_3 nn0_4:Nat} {oo0_0 oo0_1 oo0_2 oo0_3 oo0_4:yM} {ss0_0 ss0_1 ss0_2 ss0_3 ss0_4:Array (Option Value)}
 {iz0 ie0:Nat} {ih0_0 ih0_1 ih0_2 ih0_3 ih0_4 ih0_5 ih0_6 ih0_7 ih0_8 ih0_9 ih0_10:Int} {it0_0 iu0_0 it0_1 iu0_1 it0_2 iu0_2 it0_3 iu0_3 it0_4 iu0_4 it0_5 iu0_5 it0_6 iu0_6 it0_7 iu0_7 it0_8 iu0_8 it0_9 iu0_9 it0_10 iu0_10:Tok}
 (ia0:W.nsIn K mainGlobals "DEEDS"=some (some (.ref iz0))) (ib0:K.lookup iz0=some { cls:=.type "dict",data:=.dict #[{ hash:=ih0_0,key:=.str "web" it0_0,val:=.int 1 iu0_0 },{ hash:=ih0_1,key:=.str "row" it0_1,val:=.int 1 iu0_1 },{ hash:=ih0_2,key:=.str "ring" it0_2,val:=.int 1 iu0_2 },{ hash:=ih0_3,key:=.str "cube" it0_3,val:=.int 1 iu0_3 },{ hash:=ih0_4,key:=.str "full" it0_4,val:=.int 1 iu0_4 },{ hash:=ih0_5,key:=.str "star" it0_5,val:=.int 1 iu0_5 },{ hash:=ih0_6,key:=.str "tie" it0_6,val:=.int 2 iu0_6 },{ hash:=ih0_7,key:=.str "cut" it0_7,val:=.int 2 iu0_7 },{ hash:=ih0_8,key:=.str "put" it0_8,val:=.int 2 iu0_8 },{ hash:=ih0_9,key:=.str "step" it0_9,val:=.int 2 iu0_9 },{ hash:=ih0_10,key:=.str "back" it0_10,val:=.int 0 iu0_10 }] ie0 }) (id0:(iz0 == sysModules)=false)
 {iz1 ie1:Nat} {ih1_0 ih1_1 ih1_2 ih1_3 ih1_4 ih1_5 ih1_6 ih1_7:Int} {it1_0 iu1_0 it1_1 iu1_1 it1_2 iu1_2 it1_3 iu1_3 it1_4 iu1_4 it1_5 iu1_5 it1_6 iu1_6 it1_7 iu1_7:Tok}
 (ia1:W.nsIn K mainGlobals "QUESTIONS"=some (some (.ref iz1))) (ib1:K.lookup iz1=some { cls:=.type "dict",data:=.dict #[{ hash:=ih1_0,key:=.str "heap" it1_0,val:=.int 0 iu1_0 },{ hash:=ih1_1,key:=.str "ties" it1_1,val:=.int 0 iu1_1 },{ hash:=ih1_2,key:=.str "steps" it1_2,val:=.int 0 iu1_2 },{ hash:=ih1_3,key:=.str "far" it1_3,val:=.int 2 iu1_3 },{ hash:=ih1_4,key:=.str "most" it1_4,val:=.int 1 iu1_4 },{ hash:=ih1_5,key:=.str "reached" it1_5,val:=.int 0 iu1_5 },{ hash:=ih1_6,key:=.str "need" it1_6,val:=.int 1 iu1_6 },{ hash:=ih1_7,key:=.str "shown" it1_7,val:=.int 0 iu1_7 }] ie1 }) (id1:(iz1 == sysModules)=false)
 {cD:Addr} (da:W.nsIn K mainGlobals "Desk"=some (some (.ref cD))) (db1:W.plainGet K cD Str.empty=true) (db2:W.hasDictIn K cD=true) (db3:W.plainOver K cD=true) (dc:W.findIn K (.ref cD) "__setattr__"=some (some (.builtin "object.__setattr__"))) (db4:znh K cD ["web","heap","past"]=true) (db5:W.makesIn K cD=true) (db6:W.keepIn K (.ref cD)=true)
 {mi0:Addr} {mod0 man0:yM} {msl0:Array (Option Value)} {moc0 mkV0 mdc0 mpm0 mcd0 mct0:Value}
 (ma0:W.findIn K (.ref cD) "__init__"=some (some (.ref mi0))) (ml0:K.lookup mi0=some ⟨moc0,mod0,.func (W.fnOf "__init__" "Desk.__init__" (xJ yr) (z7 yr) (zk yr) .none mkV0 mdc0 mpm0 man0 mcd0 mct0),msl0⟩) (mc0:W.codeIn K mcd0 "Desk.__init__"=true) (mk0:W.keepIn K (.ref mi0)=true) (mf0:W.isFn K (.ref mi0)=true)
 {mi1:Addr} {mod1 man1:yM} {msl1:Array (Option Value)} {moc1 mkV1 mdc1 mpm1 mcd1 mct1:Value}
 (ma1:W.findIn K (.ref cD) "say"=some (some (.ref mi1))) (ml1:K.lookup mi1=some ⟨moc1,mod1,.func (W.fnOf "say" "Desk.say" (xJ xY) (z7 xY) (zk xY) .none mkV1 mdc1 mpm1 man1 mcd1 mct1),msl1⟩) (mc1:W.codeIn K mcd1 "Desk.say"=true) (mk1:W.keepIn K (.ref mi1)=true) (mf1:W.isFn K (.ref mi1)=true)
 {mi2:Addr} {mod2 man2:yM} {msl2:Array (Option Value)} {moc2 mkV2 mdc2 mpm2 mcd2 mct2:Value}
 (ma2:W.findIn K (.ref cD) "go_on"=some (some (.ref mi2))) (ml2:K.lookup mi2=some ⟨moc2,mod2,.func (W.fnOf "go_on" "Desk.go_on" (xJ xl) (z7 xl) (zk xl) .none mkV2 mdc2 mpm2 man2 mcd2 mct2),msl2⟩) (mc2:W.codeIn K mcd2 "Desk.go_on"=true) (mk2:W.keepIn K (.ref mi2)=true) (mf2:W.isFn K (.ref mi2)=true)
 {mi3:Addr} {mod3 man3:yM} {msl3:Array (Option Value)} {moc3 mkV3 mdc3 mpm3 mcd3 mct3:Value}
 (ma3:W.findIn K (.ref cD) "go_back"=some (some (.ref mi3))) (ml3:K.lookup mi3=some ⟨moc3,mod3,.func (W.fnOf "go_back" "Desk.go_back" (xJ yH) (z7 yH) (zk yH) .none mkV3 mdc3 mpm3 man3 mcd3 mct3),msl3⟩) (mc3:W.codeIn K mcd3 "Desk.go_back"=true) (mk3:W.keepIn K (.ref mi3)=true) (mf3:W.isFn K (.ref mi3)=true)
 (D:∀ r∈rows,Dx K mg ([]:Vc) r) (Z:∀ x∈zs,W.nsIn K mainGlobals x=some none)
 (gg0:W.nsIn K mainGlobals "MOST_PLACES"=some (some (.int 8 tk0)))
 (gg1:W.nsIn K mainGlobals "MOST_STONES"=some (some (.int 300 tk1)))
 (gg2:W.nsIn K mainGlobals "MOST_FIGURES"=some (some (.int 3 tk2)))
 (sa0:W.nsIn K mainGlobals "SIZES"=some (some (.ref sz0))) (sb0:K.lookup sz0=some { cls:=.type "dict",data:=.dict #[{ hash:=hh0_0,key:=.str "row" tt0_0,val:=.ref rr0_0 },{ hash:=hh0_1,key:=.str "ring" tt0_1,val:=.ref rr0_1 },{ hash:=hh0_2,key:=.str "cube" tt0_2,val:=.ref rr0_2 },{ hash:=hh0_3,key:=.str "full" tt0_3,val:=.ref rr0_3 },{ hash:=hh0_4,key:=.str "star" tt0_4,val:=.ref rr0_4 }] ep0 }) (sd0:(sz0 == sysModules)=false)
 (sc0_0:K.lookup rr0_0=some { cls:=.type "tuple",dict:=oo0_0,data:=.seq #[.int 1 tu0_0_0,.int 8 tu0_0_1] nn0_0,slots:=ss0_0 })
 (sc0_1:K.lookup rr0_1=some { cls:=.type "tuple",dict:=oo0_1,data:=.seq #[.int 3 tu0_1_0,.int 8 tu0_1_1] nn0_1,slots:=ss0_1 })
 (sc0_2:K.lookup rr0_2=some { cls:=.type "tuple",dict:=oo0_2,data:=.seq #[.int 0 tu0_2_0,.int 3 tu0_2_1] nn0_2,slots:=ss0_2 })
 (sc0_3:K.lookup rr0_3=some { cls:=.type "tuple",dict:=oo0_3,data:=.seq #[.int 1 tu0_3_0,.int 8 tu0_3_1] nn0_3,slots:=ss0_3 })
 (sc0_4:K.lookup rr0_4=some { cls:=.type "tuple",dict:=oo0_4,data:=.seq #[.int 1 tu0_4_0,.int 7 tu0_4_1] nn0_4,slots:=ss0_4 })
 {xx0 xx1 xx2 xx3 xx4 xx5 xx6 xx7 xx8 xx9 xx10 xx11 xx12 xx13:Addr}
 (xa0:W.nsIn K mainGlobals "NoWeb"=some (some (.ref xx0)))
 (xa1:W.nsIn K mainGlobals "NoKind"=some (some (.ref xx1)))
 (xa2:W.nsIn K mainGlobals "NoHeap"=some (some (.ref xx2)))
 (xa3:W.nsIn K mainGlobals "NoPlace"=some (some (.ref xx3)))
 (xa4:W.nsIn K mainGlobals "NoNumber"=some (some (.ref xx4)))
 (xa5:W.nsIn K mainGlobals "NoTally"=some (some (.ref xx5)))
 (xa6:W.nsIn K mainGlobals "NotTree"=some (some (.ref xx6)))
 (xa7:W.nsIn K mainGlobals "NotJoined"=some (some (.ref xx7)))
 (xa8:W.nsIn K mainGlobals "NoWeights"=some (some (.ref xx8)))
 (xa9:W.nsIn K mainGlobals "NoRow"=some (some (.ref xx9)))
 (xa10:W.nsIn K mainGlobals "NoSteps"=some (some (.ref xx10)))
 (xa11:W.nsIn K mainGlobals "NoText"=some (some (.ref xx11)))
 (xa12:W.nsIn K mainGlobals "TooGreat"=some (some (.ref xx12)))
 (xa13:W.nsIn K mainGlobals "StoneError"=some (some (.ref xx13)))
 (xc0:vu K [xx0,xx1,xx2,xx3,xx4,xx5,xx6,xx7,xx8,xx9,xx10,xx11,xx12] xx13 xx0 0=true)
 {yi0:Addr} {yod0 yan0:yM} {ysl0:Array (Option Value)} {yoc0 ykV0 ydc0 ypm0 ycd0 yct0:Value}
 (ya0:W.findIn K (.ref xx0) "__init__"=some (some (.ref yi0))) (yl0:K.lookup yi0=some ⟨yoc0,yod0,.func (W.fnOf "__init__" "NoWeb.__init__" (xJ YI) (z7 YI) (zk YI) .none ykV0 ydc0 ypm0 yan0 ycd0 yct0),ysl0⟩) (yc0:W.codeIn K ycd0 "NoWeb.__init__"=true) (yk0:W.keepIn K (.ref yi0)=true)
 (ye0:zmZ K xx0 yi0=true) (yf0:WW K xx0=true) (yg0:znh K xx0 ["at"]=true)
 (xc1:vu K [xx0,xx1,xx2,xx3,xx4,xx5,xx6,xx7,xx8,xx9,xx10,xx11,xx12] xx13 xx1 1=true)
 (xb1:W.excIn K xx1 bmV "ValueError.__new__"=true)
 (xc2:vu K [xx0,xx1,xx2,xx3,xx4,xx5,xx6,xx7,xx8,xx9,xx10,xx11,xx12] xx13 xx2 2=true)
 (xb2:W.excIn K xx2 bmV "ValueError.__new__"=true)
 (xc3:vu K [xx0,xx1,xx2,xx3,xx4,xx5,xx6,xx7,xx8,xx9,xx10,xx11,xx12] xx13 xx3 3=true)
 (xb3:W.excIn K xx3 bmV "ValueError.__new__"=true)
 (xc9:vu K [xx0,xx1,xx2,xx3,xx4,xx5,xx6,xx7,xx8,xx9,xx10,xx11,xx12] xx13 xx9 9=true)
 (xb9:W.excIn K xx9 bmV "ValueError.__new__"=true)
 (xc10:vu K [xx0,xx1,xx2,xx3,xx4,xx5,xx6,xx7,xx8,xx9,xx10,xx11,xx12] xx13 xx10 10=true)
 {yi10:Addr} {yod10 yan10:yM} {ysl10:Array (Option Value)} {yoc10 ykV10 ydc10 ypm10 ycd10 yct10:Value}
 (ya10:W.findIn K (.ref xx10) "__init__"=some (some (.ref yi10))) (yl10:K.lookup yi10=some ⟨yoc10,yod10,.func (W.fnOf "__init__" "NoSteps.__init__" (xJ wO) (z7 wO) (zk wO) .none ykV10 ydc10 ypm10 yan10 ycd10 yct10),ysl10⟩) (yc10:W.codeIn K ycd10 "NoSteps.__init__"=true) (yk10:W.keepIn K (.ref yi10)=true)
 (ye10:zmZ K xx10 yi10=true) (yf10:WW K xx10=true) (yg10:znh K xx10 ["at"]=true)
 : ∃ fd:FuncData,(∀ (s:zm) (v:Value),BindsTo s fd ⟨[v],[]⟩ [("script",v)])/\∀ base:Heap,K.In base->base.Ns mainGlobals mg->xu l.prog w K mg base CX0 40 fa fd ["script"] (zit K):=by
 have D':∀ i,Dx K mg ([]:Vc) (Rw i):=zcS D (D _ (f8 (i:=40) rfl))
 have e:=hfa.symm.trans (D' 40).choose_spec.choose_spec.1.at_
 cases e
 have FY0:=Xh (st:=YI) yl0 yc0 yk0
 have FY10:=Xh (st:=wO) yl10 yc10 yk10
 have FM0:=Xh (st:=yr) ml0 mc0 mk0
 have FM1:=Xh (st:=xY) ml1 mc1 mk1
 have FM2:=Xh (st:=xl) ml2 mc2 mk2
 have FM3:=Xh (st:=yH) ml3 mc3 mk3
 have T:∀ base:Heap,Txt l.prog w K mg base ⟨λi=>(D' i).choose,λi=>(D' i).choose_spec.choose,iz0,iz1,cD,mi0,_,mi1,_,mi2,_,mi3,_,tk0,tk1,tk2,sz0,xx0,xx1,xx2,xx3,xx4,xx5,xx6,xx7,xx8,xx9,xx10,xx11,xx12,xx13,_,_,_,_⟩:=λbase=>⟨λi=>(D' i).choose_spec.choose_spec.1,λx hx=>W.mg_none_of X G (Z x hx),
  o9 X G ia0,
  λh hK=>⟨id0,_,_,_,hK _ _ ib0,⟨rfl,rfl,rfl⟩,rfl,(.cons rfl (.int _ _) (.cons rfl (.int _ _) (.cons rfl (.int _ _) (.cons rfl (.int _ _) (.cons rfl (.int _ _) (.cons rfl (.int _ _) (.cons rfl (.int _ _) (.cons rfl (.int _ _) (.cons rfl (.int _ _) (.cons rfl (.int _ _) (.cons rfl (.int _ _) .nil)))))))))))⟩,
  o9 X G ia1,
  λh hK=>⟨id1,_,_,_,hK _ _ ib1,⟨rfl,rfl,rfl⟩,rfl,(.cons rfl (.int _ _) (.cons rfl (.int _ _) (.cons rfl (.int _ _) (.cons rfl (.int _ _) (.cons rfl (.int _ _) (.cons rfl (.int _ _) (.cons rfl (.int _ _) (.cons rfl (.int _ _) .nil))))))))⟩,
  o9 X G da,
  ⟨⟨db1,db2,db3,dc⟩,vX db4 _ (by decide),vX db4 _ (by decide),vX db4 _ (by decide)⟩,
  ⟨db5,ma0,mf0,db6⟩,
  FM0,
  FM0.binds (ps:=["self"]) (λ_ _ _ _ _ _ us hl=>by repeat' first | rfl | (exfalso;revert hl;simp;done) | (rcases us with _ | ⟨_,us⟩)),
  FM1,
  FM1.binds (ps:=["self","row"]) (λ_ _ _ _ _ _ us hl=>by repeat' first | rfl | (exfalso;revert hl;simp;done) | (rcases us with _ | ⟨_,us⟩)),
  ⟨ma1,mf1,mk1⟩,
  FM2,
  FM2.binds (ps:=["self","state"]) (λ_ _ _ _ _ _ us hl=>by repeat' first | rfl | (exfalso;revert hl;simp;done) | (rcases us with _ | ⟨_,us⟩)),
  ⟨ma2,mf2,mk2⟩,
  FM3,
  FM3.binds (ps:=["self"]) (λ_ _ _ _ _ _ us hl=>by repeat' first | rfl | (exfalso;revert hl;simp;done) | (rcases us with _ | ⟨_,us⟩)),
  ⟨ma3,mf3,mk3⟩
,
 o9 X G gg0,
 o9 X G gg1,
 o9 X G gg2,
 o9 X G sa0,
 λh hK=>⟨sd0,_,_,_,hK _ _ sb0,⟨rfl,rfl,rfl⟩,rfl,(.cons rfl ⟨_,_,rfl,⟨_,hK _ _ sc0_0,rfl,_,rfl⟩,(.cons (.int _ _) (.cons (.int _ _) .nil))⟩ (.cons rfl ⟨_,_,rfl,⟨_,hK _ _ sc0_1,rfl,_,rfl⟩,(.cons (.int _ _) (.cons (.int _ _) .nil))⟩ (.cons rfl ⟨_,_,rfl,⟨_,hK _ _ sc0_2,rfl,_,rfl⟩,(.cons (.int _ _) (.cons (.int _ _) .nil))⟩ (.cons rfl ⟨_,_,rfl,⟨_,hK _ _ sc0_3,rfl,_,rfl⟩,(.cons (.int _ _) (.cons (.int _ _) .nil))⟩ (.cons rfl ⟨_,_,rfl,⟨_,hK _ _ sc0_4,rfl,_,rfl⟩,(.cons (.int _ _) (.cons (.int _ _) .nil))⟩ .nil)))))⟩,
 o9 X G xa0,
 o9 X G xa1,
 o9 X G xa2,
 o9 X G xa3,
 o9 X G xa4,
 o9 X G xa5,
 o9 X G xa6,
 o9 X G xa7,
 o9 X G xa8,
 o9 X G xa9,
 o9 X G xa10,
 o9 X G xa11,
 o9 X G xa12,
 o9 X G xa13,
 xb1,
 xb2,
 xb3,
 xb9,
 xc0,
 xc1,
 xc2,
 xc3,
 xc9,
 xc10,
 FY0,
 FY0.binds (ps:=["self","at"]) (λ_ _ _ _ _ _ us hl=>by repeat' first | rfl | (exfalso;revert hl;simp;done) | (rcases us with _ | ⟨_,us⟩)),
 ye0,
 yf0,
 yg0,
 FY10,
 FY10.binds (ps:=["self","at"]) (λ_ _ _ _ _ _ us hl=>by repeat' first | rfl | (exfalso;revert hl;simp;done) | (rcases us with _ | ⟨_,us⟩)),
 ye10,
 yf10,
 yg10⟩
 exact⟨_,λs v=>zfX (D' 40).choose_spec.choose_spec.1.fn λ_ _ _ _ _ _=>rfl,λbase _ _=>zn8 (T base)⟩
theorem walk {l:W.OpenLaw}{q:zO}{loose:zD}{XP:wc->Heap->Prop}{YP:World->Heap->Prop}{d:DefRec}{K:Params->W.Frag}(hn:l.most=some 63)(hdf:d.params.defaults=[])
 (hY:∀ (w:World) (h:Heap),YP w h->(K w.params).In h)
 (F:∀ (w:World) (mg:wc) (fa:Addr) (h:Heap),(K w.params).In h->h.Ns mainGlobals mg->mg d.name=some (.ref fa) ->
  ∃ fd:FuncData,(∀ (s:zm) (u:Value),BindsTo s fd ⟨[u],[]⟩ [("script",u)])/\∀ base:Heap,(K w.params).In base->base.Ns mainGlobals mg->xu l.prog w (K w.params) mg base CX0 40 fa fd ["script"] (zit (K w.params))) :
 PySem.W.WalkO q loose XP YP l.row.toRowW d [] (λf vs=>PySem.call f vs) :=
 L2.walk_of (n:=63) (k:=40) (x:="script") (CX:=λ_=>CX0) (sp:=λw=>zit (K w.params)) hn (by decide) hdf ⟨rfl,by decide,by decide⟩ hY F (λ_ _ a ns hl _ hS=>⟨a,ns,rfl,hS,hl,λ_=>rfl⟩) λ_ _ _ _ _ z=>z
end Mz
open PySem PySem.W PyProof.Rows
namespace PySem.W.Fast
theorem tw3189441990028688587:True:=⟨⟩
theorem tw1217009119696890671:True:=⟨⟩
theorem tw2974450190438378367:True:=⟨⟩
theorem tw16133481046661698645:True:=⟨⟩
theorem tw15009238665338709832:True:=⟨⟩
theorem tw7202929798494815603:True:=⟨⟩
theorem tw3147353686743459272:True:=⟨⟩
theorem tw419392764397506614:True:=⟨⟩
theorem tw2352817640991059462:True:=⟨⟩
theorem tw15899348433225495950:True:=⟨⟩
theorem tw7863756290787078999:True:=⟨⟩
theorem tw8672246625948305669:True:=⟨⟩
theorem tw14161016671519098512:True:=⟨⟩
theorem tw13152591904960791928:True:=⟨⟩
theorem tw5192426554157236467:True:=⟨⟩
theorem tw13389612449226983347:True:=⟨⟩
theorem tw17268921757816609364:True:=⟨⟩
theorem tw703240261575909017:True:=⟨⟩
theorem tw15463501034852161261:True:=⟨⟩
theorem tw15428077033005294563:True:=⟨⟩
theorem tw3953887654664492106:True:=⟨⟩
theorem tw6400157065819110745:True:=⟨⟩
theorem tw9834959824951987220:True:=⟨⟩
theorem tw11499312140178257640:True:=⟨⟩
theorem tw3420478563782909641:True:=⟨⟩
theorem tw15587844248516495976:True:=⟨⟩
theorem tw11128451873911654098:True:=⟨⟩
theorem tw5830085891438347615:True:=⟨⟩
theorem tw44598780499835413:True:=⟨⟩
theorem tw17075954971809962328:True:=⟨⟩
theorem tw3920085416273469694:True:=⟨⟩
theorem tw13118697693217235045:True:=⟨⟩
theorem tw6117038635547502422:True:=⟨⟩
theorem tw9659132877007790609:True:=⟨⟩
theorem tw2860798224962969335:True:=⟨⟩
theorem tw9365345611517867906:True:=⟨⟩
theorem tw12311327644203594344:True:=⟨⟩
theorem tw11887944928027074924:True:=⟨⟩
theorem tw14109366726767538476:True:=⟨⟩
theorem tw2811697812155095787:True:=⟨⟩
theorem tw7206709329986719779:True:=⟨⟩
theorem tw4778256671148671958:True:=⟨⟩
theorem tw3020824253620512268:True:=⟨⟩
theorem tw9487813466315401566:True:=⟨⟩
theorem tw11557071784089049744:True:=⟨⟩
theorem tw1211185213990054527:True:=⟨⟩
theorem tw9905456847883267073:True:=⟨⟩
theorem tw17600961687982712974:True:=⟨⟩
theorem tw9079748445722804961:True:=⟨⟩
theorem tw17240083099291832502:True:=⟨⟩
theorem tw17277555049438164741:True:=⟨⟩
theorem tw12005789564057647745:True:=⟨⟩
theorem tw345510862932938155:True:=⟨⟩
theorem tw16714904711582781163:True:=⟨⟩
theorem tw3466633773317018565:True:=⟨⟩
theorem tw5881575334046107298:True:=⟨⟩
theorem tw11052859433669361628:True:=⟨⟩
theorem tw3920244097934923026:True:=⟨⟩
theorem tw17406814351863989746:True:=⟨⟩
theorem tw16264480772745255592:True:=⟨⟩
theorem tw15447369364215161209:True:=⟨⟩
theorem tw1340674145283572632:True:=⟨⟩
theorem tw17063089389845725067:True:=⟨⟩
theorem tw12713816012388264633:True:=⟨⟩
theorem tw17274181772519412846:True:=⟨⟩
theorem tw17412578144917733669:True:=⟨⟩
theorem tw6302861620968440345:True:=⟨⟩
theorem tw6201520877430592827:True:=⟨⟩
theorem tw15030794881174947402:True:=⟨⟩
theorem tw18415319211473860376:True:=⟨⟩
theorem tw7995666819064241814:True:=⟨⟩
theorem tw4216018946346988523:True:=⟨⟩
theorem tw15722514118592564490:True:=⟨⟩
theorem tw12175223314116859998:True:=⟨⟩
theorem tw7620934777898238228:True:=⟨⟩
theorem tw14716964840863285804:True:=⟨⟩
theorem tw3922333153864338969:True:=⟨⟩
theorem tw6800900873546504183:True:=⟨⟩
theorem tw12687491378059288808:True:=⟨⟩
theorem tw4037012303177344404:True:=⟨⟩
theorem tw16639367761298988679:True:=⟨⟩
theorem tw8421687615687580849:True:=⟨⟩
theorem tw8324014276493296421:True:=⟨⟩
theorem tw7173125145172213843:True:=⟨⟩
theorem tw2478852820057398049:True:=⟨⟩
theorem tw10547186318608669521:True:=⟨⟩
theorem tw10807732975434513599:True:=⟨⟩
theorem tw6426113290951321361:True:=⟨⟩
theorem tw7596377350718288495:True:=⟨⟩
theorem tw17315566194717396374:True:=⟨⟩
theorem tw10957163402650903013:True:=⟨⟩
theorem tw12866855662346532071:True:=⟨⟩
theorem tw13142890839087692099:True:=⟨⟩
theorem tw13953530910838780744:True:=⟨⟩
theorem tw8328589692474428630:True:=⟨⟩
theorem tw9900412531813963082:True:=⟨⟩
theorem tw52884967503093655:True:=⟨⟩
theorem tw9816147706674496224:True:=⟨⟩
theorem tw14255643397558019048:True:=⟨⟩
theorem tw3543967408548916977:True:=⟨⟩
theorem tw5146640046988140972:True:=⟨⟩
theorem tw8553794112002805429:True:=⟨⟩
theorem tw1173138425576906927:True:=⟨⟩
theorem tw2146401089818988479:True:=⟨⟩
theorem tw5918511917328854796:True:=⟨⟩
theorem tw9175307613258057037:True:=⟨⟩
theorem tw15020893731479272639:True:=⟨⟩
theorem tw5827772593685212934:True:=⟨⟩
theorem tw4385560123976718070:True:=⟨⟩
theorem tw8624968111182623946:True:=⟨⟩
theorem tw4526660616485698127:True:=⟨⟩
theorem tw5694104703006222341:True:=⟨⟩
theorem tw6664411899263822865:True:=⟨⟩
theorem tw13586091095246432368:True:=⟨⟩
theorem tw8286987424955915559:True:=⟨⟩
theorem tw4947482194533724789:True:=⟨⟩
theorem tw7046084492587979772:True:=⟨⟩
theorem tw3086092341625350301:True:=⟨⟩
theorem tw12548689765498343178:True:=⟨⟩
theorem tw7290499398709141519:True:=⟨⟩
theorem tw18431958853132638448:True:=⟨⟩
theorem tw17222017403446496721:True:=⟨⟩
theorem tw11820747365889163180:True:=⟨⟩
theorem tw17655265420106659148:True:=⟨⟩
theorem tw3706678255179658754:True:=⟨⟩
theorem tw13251957496268418701:True:=⟨⟩
theorem tw3380524552300029964:True:=⟨⟩
theorem tw15484718777956549243:True:=⟨⟩
theorem tw17501347840383618402:True:=⟨⟩
theorem tw3586794208671135389:True:=⟨⟩
theorem tw171568393379729977:True:=⟨⟩
theorem tw18101866909923976943:True:=⟨⟩
theorem tw9256171699846718350:True:=⟨⟩
theorem tw14062106714955110644:True:=⟨⟩
theorem tw9176893019917764077:True:=⟨⟩
theorem tw5092173315379605013:True:=⟨⟩
theorem tw11133933895589687806:True:=⟨⟩
theorem tw12494531082690069740:True:=⟨⟩
theorem tw9748883175237273358:True:=⟨⟩
theorem tw10602940562469771310:True:=⟨⟩
theorem tw853281376678841037:True:=⟨⟩
theorem tw7523767902923611829:True:=⟨⟩
theorem tw9012119906256425738:True:=⟨⟩
theorem tw3736671541169028357:True:=⟨⟩
theorem tw1739408848132507228:True:=⟨⟩
theorem tw10107713947552349304:True:=⟨⟩
theorem tw5475920768985030017:True:=⟨⟩
theorem tw14728661976667403594:True:=⟨⟩
theorem tw2042175117630097774:True:=⟨⟩
theorem tw10092467186787917311:True:=⟨⟩
theorem tw4600229327267830975:True:=⟨⟩
theorem tw18229800132108006557:True:=⟨⟩
theorem tw13582310391302064631:True:=⟨⟩
theorem tw15266904035517685951:True:=⟨⟩
theorem tw11790444871729084962:True:=⟨⟩
theorem tw15508503182435135609:True:=⟨⟩
theorem tw1363615754938716607:True:=⟨⟩
theorem tw17742455501816330464:True:=⟨⟩
theorem tw602352512357947724:True:=⟨⟩
theorem tw5306350251497677219:True:=⟨⟩
theorem tw18402129198637036502:True:=⟨⟩
theorem tw12528809776864664562:True:=⟨⟩
theorem tw10511065315062572492:True:=⟨⟩
theorem tw13413509427988743023:True:=⟨⟩
theorem tw10220041286670405547:True:=⟨⟩
theorem tw5055002854808488145:True:=⟨⟩
theorem tw16275555479603638727:True:=⟨⟩
theorem tw13320064092741187313:True:=⟨⟩
theorem tw8349128858525463173:True:=⟨⟩
theorem tw6348914075791422600:True:=⟨⟩
theorem tw6615391424255200508:True:=⟨⟩
theorem tw11330277119513878328:True:=⟨⟩
theorem tw13556161468868987134:True:=⟨⟩
theorem tw7647430518722676803:True:=⟨⟩
theorem tw13705322140868808224:True:=⟨⟩
theorem tw4157950366066448281:True:=⟨⟩
theorem tw15882972662053151497:True:=⟨⟩
theorem tw8132865670970658848:True:=⟨⟩
theorem tw6345685008065944030:True:=⟨⟩
theorem tw499230197243432898:True:=⟨⟩
theorem tw1262193893781102288:True:=⟨⟩
theorem tw8235537531879827255:True:=⟨⟩
theorem tw5367286027466507925:True:=⟨⟩
theorem tw9625015384332755102:True:=⟨⟩
theorem tw5132093096116924035:True:=⟨⟩
theorem tw5212979847875483134:True:=⟨⟩
theorem tw18278883841336156700:True:=⟨⟩
theorem tw15910120117270408790:True:=⟨⟩
theorem tw14724477125305487680:True:=⟨⟩
theorem tw8741400759432051930:True:=⟨⟩
theorem tw4842534293137828687:True:=⟨⟩
theorem tw35237877398929501:True:=⟨⟩
theorem tw15471383160728521490:True:=⟨⟩
theorem tw14783670574952274942:True:=⟨⟩
theorem tw8664318063049665354:True:=⟨⟩
theorem tw655788002725010712:True:=⟨⟩
theorem tw4829142642626678536:True:=⟨⟩
theorem tw13333350073487905791:True:=⟨⟩
theorem tw17338502776284179804:True:=⟨⟩
theorem tw11251916115184884958:True:=⟨⟩
theorem tw12967203705204479273:True:=⟨⟩
theorem tw13057874438517801582:True:=⟨⟩
theorem tw3864696987841262785:True:=⟨⟩
theorem tw9505341842055951761:True:=⟨⟩
theorem tw6513541972149982158:True:=⟨⟩
theorem tw14679204549146568312:True:=⟨⟩
theorem tw7616411163697566526:True:=⟨⟩
theorem tw13827880842127272654:True:=⟨⟩
theorem tw13737788810267516214:True:=⟨⟩
theorem tw3493691671446576525:True:=⟨⟩
theorem tw6705764153612132470:True:=⟨⟩
theorem tw10517599882482300860:True:=⟨⟩
theorem tw7341187928043238447:True:=⟨⟩
theorem tw8449209924358345178:True:=⟨⟩
theorem tw11672635493098573319:True:=⟨⟩
theorem tw14251790610014133571:True:=⟨⟩
theorem tw16612905793389113742:True:=⟨⟩
theorem tw15567814805205957374:True:=⟨⟩
theorem tw4091394040074814912:True:=⟨⟩
theorem tw3457843310185837217:True:=⟨⟩
theorem tw11539166980099384589:True:=⟨⟩
theorem tw18149681421212263395:True:=⟨⟩
theorem tw6667218717796855898:True:=⟨⟩
theorem tw6771406454702156464:True:=⟨⟩
theorem tw12856311247348143046:True:=⟨⟩
theorem tw6239049498861900853:True:=⟨⟩
theorem tw8492955381569842620:True:=⟨⟩
theorem tw11795347775671958479:True:=⟨⟩
theorem tw5575192630472097627:True:=⟨⟩
theorem tw8234017280461416126:True:=⟨⟩
theorem tw2273187871202423048:True:=⟨⟩
theorem tw16528682343179531106:True:=⟨⟩
theorem tw3175162261804993695:True:=⟨⟩
theorem tw8659361766050349892:True:=⟨⟩
theorem tw1503556906578732461:True:=⟨⟩
theorem tw2734137109287319756:True:=⟨⟩
theorem tw941175030057107359:True:=⟨⟩
theorem tw13138674994743629527:True:=⟨⟩
theorem tw1590030110741592473:True:=⟨⟩
theorem tw3542498459088205317:True:=⟨⟩
theorem tw8400806467113310006:True:=⟨⟩
theorem tw5284321114129396202:True:=⟨⟩
theorem tw16854888229399469732:True:=⟨⟩
theorem tw16063538858176893874:True:=⟨⟩
theorem tw6496018068026374025:True:=⟨⟩
theorem tw4642535326119939542:True:=⟨⟩
theorem tw16144434856781984788:True:=⟨⟩
theorem tw17095903924152931296:True:=⟨⟩
theorem tw128810522406965461:True:=⟨⟩
theorem tw15170891854051304048:True:=⟨⟩
theorem tw8238996821399041740:True:=⟨⟩
theorem tw32251533457887088:True:=⟨⟩
theorem tw13978134782393156868:True:=⟨⟩
theorem tw5926469866086856002:True:=⟨⟩
theorem tw12215883092239025454:True:=⟨⟩
theorem tw13495182237183655314:True:=⟨⟩
theorem tw1897164929655426809:True:=⟨⟩
theorem tw9547147417664246083:True:=⟨⟩
theorem tw10141396356115917793:True:=⟨⟩
theorem tw10565159280567851492:True:=⟨⟩
theorem tw73075097673854983:True:=⟨⟩
theorem tw3375456174982689059:True:=⟨⟩
theorem tw7900025259016322887:True:=⟨⟩
theorem tw2672697540083104816:True:=⟨⟩
theorem tw13015045376979497470:True:=⟨⟩
theorem tw590569671232772096:True:=⟨⟩
theorem tw4617001827356996679:True:=⟨⟩
theorem tw6448464148650057567:True:=⟨⟩
theorem tw11459048205426724271:True:=⟨⟩
theorem tw488915244439499534:True:=⟨⟩
theorem tw11030809843567397777:True:=⟨⟩
theorem tw11032643922164188709:True:=⟨⟩
theorem tw9421429237670702476:True:=⟨⟩
theorem tw17511304979534269127:True:=⟨⟩
theorem tw12968984981109337190:True:=⟨⟩
theorem tw2823010926654201827:True:=⟨⟩
theorem tw16017827600536987327:True:=⟨⟩
theorem tw532688438150811594:True:=⟨⟩
theorem tw3940431370592716248:True:=⟨⟩
theorem tw15063692452419873374:True:=⟨⟩
theorem tw5237367580557423422:True:=⟨⟩
theorem tw2892073053198018851:True:=⟨⟩
theorem tw13529310115245731294:True:=⟨⟩
theorem tw18182155733245382122:True:=⟨⟩
theorem tw13938826563526421547:True:=⟨⟩
theorem tw14314343067765354570:True:=⟨⟩
theorem tw154160146374549784:True:=⟨⟩
theorem tw4703158167493776711:True:=⟨⟩
theorem tw3086025013226847733:True:=⟨⟩
theorem tw11735282318288115840:True:=⟨⟩
theorem tw4931736773681342403:True:=⟨⟩
theorem tw1300488622291561829:True:=⟨⟩
theorem tw5475282527375250409:True:=⟨⟩
theorem tw13010342633951970954:True:=⟨⟩
theorem tw9181933831181484900:True:=⟨⟩
theorem tw4587876787988424903:True:=⟨⟩
theorem tw13947551237345012340:True:=⟨⟩
theorem tw4008486478594618129:True:=⟨⟩
theorem tw4140724276267761720:True:=⟨⟩
theorem tw8830177871295881468:True:=⟨⟩
theorem tw4962708536116573091:True:=⟨⟩
theorem tw9753613260394351542:True:=⟨⟩
theorem tw4880729288939303741:True:=⟨⟩
theorem tw5459002859008872510:True:=⟨⟩
theorem tw16521909037095053327:True:=⟨⟩
theorem tw707661147430747877:True:=⟨⟩
theorem tw2951425491685528998:True:=⟨⟩
theorem tw15886158325832971953:True:=⟨⟩
theorem tw2508962905727170215:True:=⟨⟩
theorem tw10402141043862979160:True:=⟨⟩
theorem tw4902228412362767765:True:=⟨⟩
theorem tw119449230923751636:True:=⟨⟩
theorem tw1117491421232432177:True:=⟨⟩
theorem tw14809214781655283830:True:=⟨⟩
theorem tw12018797079187435603:True:=⟨⟩
theorem tw7477782198862892818:True:=⟨⟩
theorem tw8932283569439002846:True:=⟨⟩
theorem tw17042378647307065555:True:=⟨⟩
theorem tw2968560936564348281:True:=⟨⟩
theorem tw6928136504372457127:True:=⟨⟩
theorem tw16664235311871517499:True:=⟨⟩
theorem tw788181640746319747:True:=⟨⟩
theorem tw3643687425992421329:True:=⟨⟩
theorem tw2893138641495544043:True:=⟨⟩
theorem tw12160547597928911134:True:=⟨⟩
theorem tw15427066719489911283:True:=⟨⟩
theorem tw9279877527738867418:True:=⟨⟩
theorem tw5741445882289379390:True:=⟨⟩
theorem tw5245598177630596568:True:=⟨⟩
theorem tw2479776080780727287:True:=⟨⟩
theorem tw9711125539483527872:True:=⟨⟩
theorem tw11760873390107100269:True:=⟨⟩
theorem tw5746417953850528309:True:=⟨⟩
theorem tw2174247409175913429:True:=⟨⟩
theorem tw16128326694636291407:True:=⟨⟩
theorem tw10752011067250055280:True:=⟨⟩
theorem tw4108895607106618009:True:=⟨⟩
theorem tw13303295508942428916:True:=⟨⟩
theorem tw6904814927302092151:True:=⟨⟩
theorem tw16056667477501913763:True:=⟨⟩
theorem tw11411997730867973606:True:=⟨⟩
theorem tw12402074886632424701:True:=⟨⟩
theorem tw9187630235240007604:True:=⟨⟩
theorem tw13121903433666261388:True:=⟨⟩
theorem tw5705526276557110186:True:=⟨⟩
theorem tw11948551947987240138:True:=⟨⟩
theorem tw1405729307313561190:True:=⟨⟩
theorem tw1778234349509718267:True:=⟨⟩
theorem tw17363823535084056416:True:=⟨⟩
theorem tw16880120632191187736:True:=⟨⟩
theorem tw11091759820573059405:True:=⟨⟩
theorem tw8181160154339919947:True:=⟨⟩
theorem tw14016177813816897496:True:=⟨⟩
theorem tw8027199665638320487:True:=⟨⟩
theorem tw4256751106245838618:True:=⟨⟩
theorem tw1812508953834128670:True:=⟨⟩
theorem tw9601415206122427360:True:=⟨⟩
theorem tw16639428280504524004:True:=⟨⟩
theorem tw9058380952482400879:True:=⟨⟩
theorem tw10419900873902165912:True:=⟨⟩
theorem tw9622856497861589393:True:=⟨⟩
theorem tw16616012056400204939:True:=⟨⟩
theorem tw8772386839962151771:True:=⟨⟩
theorem tw14495019648097167990:True:=⟨⟩
theorem tw12383579045844351852:True:=⟨⟩
theorem tw11113645621157818116:True:=⟨⟩
theorem tw5348263967850173971:True:=⟨⟩
theorem tw2681892872724127733:True:=⟨⟩
theorem tw4999244848089171617:True:=⟨⟩
theorem tw11157918628795909510:True:=⟨⟩
theorem tw8568786597562916649:True:=⟨⟩
theorem tw8928099146349052390:True:=⟨⟩
theorem tw3508289583741752771:True:=⟨⟩
theorem tw15065508492622320252:True:=⟨⟩
theorem tw16232506476584754605:True:=⟨⟩
theorem tw3323551526213554683:True:=⟨⟩
theorem tw1441243287408174057:True:=⟨⟩
theorem tw9402320995909781897:True:=⟨⟩
theorem tw13935873936840330400:True:=⟨⟩
theorem tw9600967269281573757:True:=⟨⟩
theorem tw8526863559352953947:True:=⟨⟩
theorem tw2587598296024734149:True:=⟨⟩
theorem tw571217081840086962:True:=⟨⟩
theorem tw16383827053717844254:True:=⟨⟩
theorem tw14914167855179876147:True:=⟨⟩
theorem tw1913797276444714838:True:=⟨⟩
theorem tw1118910765867087571:True:=⟨⟩
theorem tw12343897173546237019:True:=⟨⟩
theorem tw9215046747013430978:True:=⟨⟩
theorem tw15580761834415438356:True:=⟨⟩
theorem tw16768084204385446799:True:=⟨⟩
theorem tw17774313805455811038:True:=⟨⟩
theorem tw8735723585196679590:True:=⟨⟩
theorem tw2099096811497120689:True:=⟨⟩
theorem tw16520223836105883850:True:=⟨⟩
theorem tw2525174594080818784:True:=⟨⟩
theorem tw12776649254915881510:True:=⟨⟩
theorem tw10784520196980501729:True:=⟨⟩
theorem tw1293608840447710020:True:=⟨⟩
theorem tw4869837534735238864:True:=⟨⟩
theorem tw831700510031352649:True:=⟨⟩
theorem tw4100594269693570403:True:=⟨⟩
theorem tw6892034315006136463:True:=⟨⟩
theorem tw10443743314784505523:True:=⟨⟩
theorem tw1635118616973690006:True:=⟨⟩
theorem tw15932243991429312688:True:=⟨⟩
theorem tw10430510071083860528:True:=⟨⟩
theorem tw8137621609962540872:True:=⟨⟩
theorem tw17739123038589700979:True:=⟨⟩
theorem tw18262133136941920876:True:=⟨⟩
theorem tw16295445529285281952:True:=⟨⟩
theorem tw888052907931670554:True:=⟨⟩
theorem tw15955370977780962908:True:=⟨⟩
theorem tw3066004568627112428:True:=⟨⟩
theorem tw18292539826583831641:True:=⟨⟩
theorem tw160696722842970249:True:=⟨⟩
theorem tw7005523636142987442:True:=⟨⟩
theorem tw16978905735553047469:True:=⟨⟩
theorem tw9288237264861328002:True:=⟨⟩
theorem tw12368341522132877493:True:=⟨⟩
theorem tw10040534887573951761:True:=⟨⟩
theorem tw13144281121865979993:True:=⟨⟩
theorem tw4205417587691122451:True:=⟨⟩
theorem tw13226066308859310967:True:=⟨⟩
theorem tw11021462170205437278:True:=⟨⟩
theorem tw12287215058473265096:True:=⟨⟩
theorem tw6654121494721827128:True:=⟨⟩
theorem tw3253745350970367109:True:=⟨⟩
theorem tw16713409284689402235:True:=⟨⟩
theorem tw10566599905758076706:True:=⟨⟩
theorem tw1204459325245424582:True:=⟨⟩
theorem tw14289808420123150210:True:=⟨⟩
theorem tw13116232722041517299:True:=⟨⟩
theorem tw5903365279442184665:True:=⟨⟩
theorem tw474161675265845438:True:=⟨⟩
theorem tw12104113642277053164:True:=⟨⟩
theorem tw17248645935053496890:True:=⟨⟩
theorem tw11214199646264628608:True:=⟨⟩
theorem tw16173139310635833663:True:=⟨⟩
theorem tw12432830586117943841:True:=⟨⟩
theorem tw10462833439920224929:True:=⟨⟩
theorem tw5017239509550101592:True:=⟨⟩
theorem tw13542088952352017320:True:=⟨⟩
theorem tw4414147200571166487:True:=⟨⟩
theorem tw6554447700802839453:True:=⟨⟩
theorem tw1246737363817204246:True:=⟨⟩
theorem tw837282342182320547:True:=⟨⟩
theorem tw11206158647258875294:True:=⟨⟩
theorem tw15050585614386568155:True:=⟨⟩
theorem tw4296629210568832689:True:=⟨⟩
theorem tw4305521017932384749:True:=⟨⟩
theorem tw15305222322860163370:True:=⟨⟩
theorem tw6651096439108025573:True:=⟨⟩
theorem tw4438112040336560119:True:=⟨⟩
theorem tw17869621975011895057:True:=⟨⟩
theorem tw7788058424737548437:True:=⟨⟩
theorem tw13707762497125326288:True:=⟨⟩
theorem tw6812196270398964215:True:=⟨⟩
theorem tw8046671272802164854:True:=⟨⟩
theorem tw11533006459459541574:True:=⟨⟩
theorem tw433986458565442846:True:=⟨⟩
theorem tw7014004764676936610:True:=⟨⟩
theorem tw1491072602090291974:True:=⟨⟩
theorem tw12194218679932133088:True:=⟨⟩
theorem tw17775603387625337385:True:=⟨⟩
theorem tw1486757647669220021:True:=⟨⟩
theorem tw7582063666705856006:True:=⟨⟩
theorem tw12560576986781485256:True:=⟨⟩
theorem tw1008250725267763627:True:=⟨⟩
theorem tw6275806479898021547:True:=⟨⟩
theorem tw16235663207340879375:True:=⟨⟩
theorem tw14392424686665624595:True:=⟨⟩
theorem tw5191287983068451671:True:=⟨⟩
theorem tw14745045773773583068:True:=⟨⟩
theorem tw8809132119901644267:True:=⟨⟩
theorem tw2400884742317502721:True:=⟨⟩
theorem tw12963993142488567245:True:=⟨⟩
theorem tw17584395524279277934:True:=⟨⟩
theorem tw16324073767694066883:True:=⟨⟩
theorem tw13541425043534547941:True:=⟨⟩
theorem tw16631357101039848854:True:=⟨⟩
theorem tw12961858321757636935:True:=⟨⟩
theorem tw15894356899882583090:True:=⟨⟩
theorem tw2811883003425135396:True:=⟨⟩
theorem tw6193503218122211729:True:=⟨⟩
theorem tw8554681913407646046:True:=⟨⟩
theorem tw4051850905517042885:True:=⟨⟩
theorem tw3682697379778941742:True:=⟨⟩
theorem tw911360300382516476:True:=⟨⟩
theorem tw8380712318928592624:True:=⟨⟩
theorem tw12157964250871069506:True:=⟨⟩
theorem tw15380839611892522669:True:=⟨⟩
theorem tw828501286009113942:True:=⟨⟩
theorem tw625298947173703237:True:=⟨⟩
theorem tw3628531330235667859:True:=⟨⟩
theorem tw15970801830300740499:True:=⟨⟩
theorem tw7040454456970386437:True:=⟨⟩
theorem tw1715869828125919455:True:=⟨⟩
theorem tw7077418133082383908:True:=⟨⟩
theorem tw6915030395170159138:True:=⟨⟩
theorem tw10444255541203896000:True:=⟨⟩
theorem tw11862657886206184110:True:=⟨⟩
theorem tw6148512521744187175:True:=⟨⟩
theorem tw3738481370332366111:True:=⟨⟩
theorem tw14245538766757605393:True:=⟨⟩
theorem tw11732835818979994199:True:=⟨⟩
theorem tw7960171590754724415:True:=⟨⟩
theorem tw17022256288166523177:True:=⟨⟩
theorem tw302731778173262365:True:=⟨⟩
theorem tw17541846237661237733:True:=⟨⟩
theorem tw1280926627449197012:True:=⟨⟩
theorem tw9494951076909188184:True:=⟨⟩
theorem tw7770979879000950692:True:=⟨⟩
theorem tw8474734110332857825:True:=⟨⟩
theorem tw7599461585231714708:True:=⟨⟩
theorem tw4663103009407063027:True:=⟨⟩
theorem tw29961548497952608:True:=⟨⟩
theorem tw6819478338639380464:True:=⟨⟩
theorem tw16067667202227952054:True:=⟨⟩
theorem tw12067914216253389676:True:=⟨⟩
theorem tw16931650051700117587:True:=⟨⟩
theorem tw13026513724846012729:True:=⟨⟩
theorem tw13937050116100990489:True:=⟨⟩
theorem tw11695435356292946376:True:=⟨⟩
theorem tw18261843697877079475:True:=⟨⟩
theorem tw2272789127135671024:True:=⟨⟩
theorem tw4192324256859315361:True:=⟨⟩
theorem tw5086286157162169125:True:=⟨⟩
theorem tw6164540990050115444:True:=⟨⟩
theorem tw2429198882722262960:True:=⟨⟩
theorem tw8250431040028424061:True:=⟨⟩
theorem tw16855603501023688847:True:=⟨⟩
theorem tw9029190088366879677:True:=⟨⟩
theorem tw5715933125704164771:True:=⟨⟩
theorem tw11689832815270928865:True:=⟨⟩
theorem tw16703623834917027427:True:=⟨⟩
theorem tw6090274974259539319:True:=⟨⟩
theorem tw7723023229064995579:True:=⟨⟩
theorem tw13602675246438290471:True:=⟨⟩
theorem tw10964649827085428719:True:=⟨⟩
theorem tw7580239705945576392:True:=⟨⟩
theorem tw8079349708392554667:True:=⟨⟩
theorem tw4288358209017162521:True:=⟨⟩
theorem tw14178382596933985787:True:=⟨⟩
theorem tw8201299839131556847:True:=⟨⟩
theorem tw6366168797044688083:True:=⟨⟩
theorem tw7789813276954603098:True:=⟨⟩
theorem tw11810473766545298090:True:=⟨⟩
theorem tw16576084551500926027:True:=⟨⟩
theorem tw4804187206624597411:True:=⟨⟩
theorem tw5461453184618317209:True:=⟨⟩
theorem tw1216538401459793711:True:=⟨⟩
theorem tw2578744311949286773:True:=⟨⟩
theorem tw11658844339548823978:True:=⟨⟩
theorem tw5785252000884267228:True:=⟨⟩
theorem tw10905263539159636110:True:=⟨⟩
theorem tw4134647567011113536:True:=⟨⟩
theorem tw118903258282375920:True:=⟨⟩
theorem tw10347496775364008050:True:=⟨⟩
theorem tw17097145500207642389:True:=⟨⟩
theorem tw11781619819273144644:True:=⟨⟩
theorem tw18057065723705880571:True:=⟨⟩
theorem tw15853396047745988138:True:=⟨⟩
theorem tw1836770247056342202:True:=⟨⟩
theorem tw2645643885629175446:True:=⟨⟩
theorem tw13157757987757783499:True:=⟨⟩
theorem tw16390459067018313582:True:=⟨⟩
theorem tw14547966339576047893:True:=⟨⟩
theorem tw99190844307613281:True:=⟨⟩
theorem tw10100596178500161330:True:=⟨⟩
theorem tw10222655097161387266:True:=⟨⟩
theorem tw9657233228946900932:True:=⟨⟩
theorem tw11037117088627803894:True:=⟨⟩
theorem tw16162361157527271863:True:=⟨⟩
theorem tw5023659879058352743:True:=⟨⟩
theorem tw4388825695910612723:True:=⟨⟩
theorem tw12300211737618289017:True:=⟨⟩
theorem tw16062700856371683143:True:=⟨⟩
theorem tw10733935721329689578:True:=⟨⟩
theorem tw12183011080255605301:True:=⟨⟩
theorem tw15503319988076804261:True:=⟨⟩
theorem tw11241968113529396129:True:=⟨⟩
theorem tw1002955028895777215:True:=⟨⟩
theorem tw9340945724796947448:True:=⟨⟩
theorem tw8971982049933049482:True:=⟨⟩
theorem tw2535435010812505316:True:=⟨⟩
theorem tw9876742382065431850:True:=⟨⟩
theorem tw10414702371956194789:True:=⟨⟩
theorem tw15456170134310580119:True:=⟨⟩
theorem tw17005324295135940224:True:=⟨⟩
theorem tw14609377470173700276:True:=⟨⟩
theorem tw3916392739380995443:True:=⟨⟩
theorem tw9698005827920206703:True:=⟨⟩
theorem tw9750827828961006611:True:=⟨⟩
theorem tw2549523103589933369:True:=⟨⟩
theorem tw16632418473171527429:True:=⟨⟩
theorem tw8205507100201570056:True:=⟨⟩
theorem tw9458156292786600403:True:=⟨⟩
theorem tw13105117498107473154:True:=⟨⟩
theorem tw8494941100128076870:True:=⟨⟩
theorem tw18307080145119744283:True:=⟨⟩
theorem tw11888613418683558945:True:=⟨⟩
theorem tw16242433950344414258:True:=⟨⟩
theorem tw9206857918701791742:True:=⟨⟩
theorem tw1422763078307931304:True:=⟨⟩
theorem tw9443010003381482334:True:=⟨⟩
theorem tw901425049950071629:True:=⟨⟩
theorem tw16927605622757992694:True:=⟨⟩
theorem tw10559579512581141722:True:=⟨⟩
theorem tw362222576492118907:True:=⟨⟩
theorem tw2059646625593584827:True:=⟨⟩
theorem tw5169922401866725194:True:=⟨⟩
theorem tw7241608907083856033:True:=⟨⟩
theorem tw12173795671039544026:True:=⟨⟩
theorem tw7001069654899576110:True:=⟨⟩
theorem tw7362288560345883799:True:=⟨⟩
theorem tw13807879421061296970:True:=⟨⟩
theorem tw10913302207837891760:True:=⟨⟩
theorem tw15805684683942807965:True:=⟨⟩
theorem tw5353615093678445950:True:=⟨⟩
theorem tw3025973841374149424:True:=⟨⟩
theorem tw6580959416009463088:True:=⟨⟩
theorem tw16863391790912132294:True:=⟨⟩
theorem tw16823889512731064280:True:=⟨⟩
theorem tw14765923823487870420:True:=⟨⟩
theorem tw17795376244282967943:True:=⟨⟩
theorem tw2610802747392458576:True:=⟨⟩
theorem tw6643520302895351368:True:=⟨⟩
theorem tw7098011801535281063:True:=⟨⟩
theorem tw164260380665983374:True:=⟨⟩
theorem tw9918043261863803795:True:=⟨⟩
theorem tw5881185285447784625:True:=⟨⟩
theorem tw17343517624439505183:True:=⟨⟩
theorem tw2327668306464380159:True:=⟨⟩
theorem tw8943385007933253350:True:=⟨⟩
theorem tw7129390802556191958:True:=⟨⟩
theorem tw5341312449879793343:True:=⟨⟩
theorem tw13443496008753145825:True:=⟨⟩
theorem tw9773220849597606584:True:=⟨⟩
theorem tw5310618912188962975:True:=⟨⟩
theorem tw3443776320511254608:True:=⟨⟩
theorem tw11419297238860558589:True:=⟨⟩
theorem tw5401052366731713075:True:=⟨⟩
theorem tw8460441427497057695:True:=⟨⟩
end PySem.W.Fast
set_option maxRecDepth 100000 in
set_option maxHeartbeats 0 in
theorem PySem.Challenge.cw_twoforone_k96_two_desks_holds : PySem.Challenge.rw_twoforone_k96_two_desks.Holds := by
  w_on;o_law;k_head;(case hw=>w_witness2)
  k_fill
  refine Mz.walk (l:=PySem.Challenge.rw_twoforone_k96_two_desks) rfl rfl (fun w h Y=>PySem.W.kIn_of Y) ?F
  case F =>
    intro w mg fa h KX G hmg
    refine' Mz.all_mk KX G hmg ?ia0 ?ib0 ?id0 ?ia1 ?ib1 ?id1 ?da ?db1 ?db2 ?db3 ?dc ?db4 ?db5 ?db6 ?ma0 ?ml0 ?mc0 ?mk0 ?mf0 ?ma1 ?ml1 ?mc1 ?mk1 ?mf1 ?ma2 ?ml2 ?mc2 ?mk2 ?mf2 ?ma3 ?ml3 ?mc3 ?mk3 ?mf3 ?D ?Z ?gg0 ?gg1 ?gg2 ?sa0 ?sb0 ?sd0 ?sc0_0 ?sc0_1 ?sc0_2 ?sc0_3 ?sc0_4 ?xa0 ?xa1 ?xa2 ?xa3 ?xa4 ?xa5 ?xa6 ?xa7 ?xa8 ?xa9 ?xa10 ?xa11 ?xa12 ?xa13 ?xc0 ?ya0 ?yl0 ?yc0 ?yk0 ?ye0 ?yf0 ?yg0 ?xc1 ?xb1 ?xc2 ?xb2 ?xc3 ?xb3 ?xc9 ?xb9 ?xc10 ?ya10 ?yl10 ?yc10 ?yk10 ?ye10 ?yf10 ?yg10
    case ia0=>k_is
    case ib0=>k_is
    case id0=>decide
    case ia1=>k_is
    case ib1=>k_is
    case id1=>decide
    case da=>k_is
    case db1=>kernel_rfl
    case db2=>kernel_rfl
    case db3=>kernel_rfl
    case dc=>k_is
    case db4=>kernel_rfl
    case db5=>kernel_rfl
    case db6=>kernel_rfl
    case ma0=>k_is
    case ml0=>k_is
    case mc0=>k_is
    case mk0=>k_is
    case mf0=>k_is
    case ma1=>k_is
    case ml1=>k_is
    case mc1=>k_is
    case mk1=>k_is
    case mf1=>k_is
    case ma2=>k_is
    case ml2=>k_is
    case mc2=>k_is
    case mk2=>k_is
    case mf2=>k_is
    case ma3=>k_is
    case ml3=>k_is
    case mc3=>k_is
    case mk3=>k_is
    case mf3=>k_is
    case D =>
      repeat
        refine' Dl.Dx_cons (Dl.mkX KX G ?_ ?_ ?_ ?_ ?_ ?_) ?_
        any_goals k_is
        · intro _ _ _ _ _ _ us hl
          repeat' first | rfl | (exfalso;revert hl;simp;done) | (rcases us with _ | ⟨_,us⟩)
        · first | exact .inl rfl | exact .inr ⟨_,rfl,rfl⟩
      exact fun _ h=>nomatch h
    case Z =>
      repeat
        refine' Dl.Z_cons ?_ ?_
        · k_is
      exact fun _ h=>nomatch h
    case gg0 | gg1 | gg2 | sa0 | sb0=>k_is
    case sd0=>decide
    case sc0_0 | sc0_1 | sc0_2 | sc0_3 | sc0_4 | xa0 | xa1 | xa2 | xa3 | xa4 | xa5 | xa6 | xa7 | xa8 | xa9 | xa10 | xa11 | xa12 | xa13=>k_is
    case xc0=>kernel_rfl
    case ya0 | yl0 | yc0 | yk0=>k_is
    case ye0 | yf0 | yg0 | xc1 | xb1 | xc2 | xb2 | xc3 | xb3 | xc9 | xb9 | xc10=>kernel_rfl
    case ya10 | yl10 | yc10 | yk10=>k_is
    case ye10 | yf10 | yg10=>kernel_rfl
