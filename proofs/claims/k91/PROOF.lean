import PyProof.Rows.All
import Wide.All
import OpenK.AllK
import Wide.FinOn
import Lean
import PyProof.EqAt
import PyProof.EqKinds
import PyProof.TupleCall
import PyProof.NeKinds
import KE.KIntText
import PySem.Challenge.RW_twoforone_k91_read_or_refused
set_option bootstrap.genMatcherCode false
set_option compiler.extract_closed false
set_option Elab.async false
set_option linter.all false
set_option maxRecDepth 100000
set_option maxHeartbeats 4000000
def u1M:=@Array.getElem?_eq_getElem
def u1B:=@Array.getElem?_eq_some_iff
def h8:=@Array.length_toList
def u0k:=@Array.mem_toList_iff
def u0u:=@Array.toList_append
def t5:=@Bool.and_eq_true
def u0y:=@Bool.and_false
def u1q:=@Bool.eq_iff_iff
def u1N:=@Bool.false_and
def u9:=@Bool.false_ne_true
def u19:=@Bool.or_true
def u0Z:=@PySem.Calls.callWith_builtin
def u1k:=@PySem.Calls.evalArgs_plain
def i5:=@PySem.Calls.spliced_cons
def u1R:=@PySem.Calls.spliced_nil
def u0O:=@PySem.Code.quiet_builtin
def u1G:=@PySem.F.args_str_split_2
def o0:=@PySem.F.called_enumerate
def u1S:=@PySem.F.entry_str_split
def u0c:=@PySem.F.slot_tuple_iterator_next
def u1s:=@PySem.F.slot_zip_next
def u6:=@PySem.Heap.get?_push_of_some
def j4:=@PySem.Heap.get?_push_size
def t8:=@PySem.Heap.lt_size
def g6:=@PySem.Heap.size_push
def u0P:=@Int.emod_lt_of_pos
def u0Q:=@Int.emod_nonneg
def u1D:=@Int.fdiv_eq_ediv_of_nonneg
def u04:=@Int.toNat_natCast
def u1p:=@List.all_cons
def k7:=@List.all_eq_true
def u0D:=@List.all_map
def u1T:=@List.any_eq_false
def u05:=@List.append_assoc
def n0:=@List.append_nil
def u0R:=@List.cons.inj
def l9:=@List.drop_eq_getElem_cons
def u0J:=@List.drop_length
def u1t:=@List.filterMap_cons
def u0l:=@List.flatten_cons
def u1u:=@List.forIn_cons
def u1O:=@List.forIn_nil
def i0:=@List.getElem?_append_left
def p0:=@List.getElem?_append_right
def u0m:=@List.getElem?_eq_getElem
def q4:=@List.getElem?_eq_some_iff
def j7:=@List.getElem?_map
def u0v:=@List.getElem?_replicate
def u0F:=@List.getElem?_set
def t3:=@List.getElem?_set_ne
def r6:=@List.getElem?_set_self
def u14:=@List.getElem_mem
def u1v:=@List.getElem_of_mem
def q5:=@List.length_append
def j8:=@List.length_cons
def r9:=@List.length_drop
def i7:=@List.length_eq_zero_iff
def t1:=@List.length_map
def u2a:=@List.length_nil
def r0:=@List.length_take
def o4:=@List.map_append
def u0w:=@List.map_cons
def u1Z:=@List.map_drop
def u1c:=@List.map_map
def k6:=@List.mem_append
def u0I:=@List.mem_append_left
def j9:=@List.mem_append_right
def q3:=@List.mem_cons
def l6:=@List.mem_cons_of_mem
def p9:=@List.mem_cons_self
def u2b:=@List.mem_filter
def u0S:=@List.mem_filterMap
def i4:=@List.mem_map
def o7:=@List.mem_of_getElem?
def i8:=@List.mem_range
def t2:=@List.mem_singleton
def h9:=@List.nodup_cons
def u1P:=@List.nodup_nil
def r4:=@List.not_mem_nil
def u0T:=@List.of_mem_zip
def u1l:=@List.pairwise_append
def u1H:=@List.pairwise_cons
def l7:=@List.replicate_succ
def q7:=@List.size_toArray
def u1h:=@List.take_length
def u00:=@List.take_of_length_le
def u1w:=@Nat.add_le_add_left
def u0f:=@Nat.add_sub_cancel
def g8:=@Nat.le_add_right
def u1I:=@Nat.le_of_lt
def u15:=@Nat.le_of_not_lt
def t7:=@Nat.le_refl
def u06:=@Nat.le_succ
def k9:=@Nat.le_trans
def u0g:=@Nat.lt_irrefl
def p4:=@Nat.lt_of_le_of_lt
def j3:=@Nat.lt_of_lt_of_le
def i9:=@Nat.lt_succ_of_lt
def u1i:=@Nat.lt_succ_self
def u0h:=@Nat.ne_of_gt
def j5:=@Nat.ne_of_lt
def u0s:=@Nat.zero_add
def u07:=@Nat.zero_le
def u0d:=@Ne.symm
def u4:=@Option.bind_eq_some_iff
def t4:=@Option.bind_some
def u1U:=@Option.isSome_iff_exists
def t0:=@Option.map_eq_some_iff
def o6:=@Option.some.inj
def u0a:=@PySem.PassesOwn.never
def s0:=@PyProof.Rows.callWith_type1
def o9:=@PyProof.Rows.slot_tuple_getitem
def u0M:=@PySem.F.args_tuple_add_2
def u1x:=@PySem.F.attrBase_ValueError
def u0U:=@PySem.F.entry_tuple_add
def u1E:=@PySem.F.excBase_ValueError
def l0:=@PySem.F.plainAttrs_list
def k8:=@PySem.F.plainAttrs_str
def u0n:=@PySem.F.slot_list_append
def u0o:=@PySem.F.slot_str_getitem
def u1d:=@PySem.F.slot_str_join
def u1V:=@PySem.F.slot_str_replace
def f9:=@PySem.F.slot_str_split
def u01:=@PySem.F.slot_tuple_add
def u0p:=@PySem.F.type_list_append
def u1e:=@PySem.F.type_str_join
def u1W:=@PySem.F.type_str_replace
def g0:=@PySem.F.type_str_split
def u1J:=@PySem.W.callWith_K
def u0B:=@PySem.W.cellsFrom_some
def u1K:=@PySem.W.codeRec_of
def u0L:=@PySem.W.hideAll_get
def u1m:=@PySem.W.hideAll_none
def f7:=@PySem.W.kia_one
def u08:=@PySem.W.kitx_dict
def u1n:=@PySem.W.looks_findIn
def o8:=@PySem.W.mg_of
def p6:=@PySem.mem_of_lookup
def u1L:=@PySem.SeqAt.EqAt.of_refs
def u1b:=@PySem.Str.cps_append
def f6:=@PySem.StrLaws.glued_eq_join
def u02:=@PySem.StrLaws.join_length_le
def u1f:=@PySem.StrLaws.occ_length_le
def u1X:=@PySem.StrLaws.sumLen_le
def u0b:=@beq_eq_false_iff_ne
def u0z:=@beq_iff_eq
def u0K:=@beq_self_eq_true
def u09:=@PySem.call_meets
def i6:=@PySem.codeAny_call_builtin
def u1g:=@PySem.codeAny_call_function
def u0t:=@PySem.codeAny_mono
def i3:=@congrArg
def u7:=@decide_eq_false
def l4:=@decide_eq_false_iff_not
def u8:=@decide_eq_true
def r8:=@decide_eq_true_eq
def j6:=@if_neg
def j0:=@if_pos
def u1Q:=@if_true
def u1y:=@PySem.length_partsBetween
def u1a:=@not_false_eq_true
def u2d:=@not_or
def t6:=@of_decide_eq_true
def u0i:=@or_false
def u1z:=@PySem.post_val_or_str
def u0E:=@PySem.sizeLine_eq
def u0q:=@PySem.typeIs_str
def u1Y:=@PySem.wpAny_Assign_Name
def u0j:=@PySem.wpAny_Call_Name_kw
def u03:=@PySem.wpAny_Call_method_late
def u0V:=@PySem.wpAny_Constant_str
def u0W:=@PySem.wpAny_attempt
def u5:=@PySem.wpAny_bind
def u0N:=@PySem.wpAny_call
def g9:=@PySem.wpAny_callSpecial?_slot
def u0e:=@PySem.wpAny_call_entry
def u1j:=@PySem.wpAny_execs_cons
def u1A:=@PySem.wpAny_execs_nil
def p7:=@PySem.wpAny_field
def u0x:=@PySem.wpAny_getItem_str_slice
def l5:=@PySem.wpAny_holding
def u0H:=@PySem.wpAny_letOwnedTupleGo_enum
def f8:=@PySem.wpAny_loadPart'
def u0G:=@PySem.wpAny_loadPart_at
def n8:=@PySem.wpAny_mono
def h7:=@PySem.wpAny_newObj_type
def u0X:=@PySem.wpAny_passesOwn
def t9:=@PySem.wpAny_pure
def u0r:=@PySem.wpAny_pyIter_enum
def p8:=@PySem.wpAny_pyIter_list
def p5:=@PySem.wpAny_pyIter_tuple
def u0A:=@PySem.wpAny_seqItems
def u0C:=@PySem.wpAny_setField_rec
def u0Y:=@PySem.wpAny_standAt
def l8:=@PySem.wpAny_truthy_bool
def u2c:=@PySem.wpAny_typeOf
noncomputable section
abbrev xa:=PySem.Value->PySem.Shared->Prop
abbrev xo:=List (PySem.Addr × PySem.Obj)
abbrev wH:=PySem.Str->Option PySem.Value
abbrev XG:=List (PySem.Str × PySem.Addr)
abbrev zad:=List (List Nat)
abbrev vC:=Array PySem.Value
abbrev zB:=List Int
abbrev zH:=List PySem.Value
abbrev zr:=List PySem.Str
abbrev Xj:=List Nat
abbrev yK:=List PySem.Expr
abbrev v3:=List PySem.Stmt
abbrev xw:=List PySem.Addr
abbrev xT:=Option PySem.Addr
abbrev yu:=Option Int
abbrev zu:=PySem.W.Frag
abbrev vy:=PySem.FuncData
abbrev zX:=PySem.Program
abbrev zi:=PySem.Shared
abbrev z5:=PySem.Around
namespace L2
open PySem PySem.Spec PyProof.Rows
abbrev Key:=Sum Int Str
def zil:Key->Value->Bool
 | .inl k,v=>Value.isInt k v
 | .inr x,v=>Value.isStrOf x v
def keyH (w:World):Key->Int
 | .inl k=>hashInt k
 | .inr x=>hashStr w x
def yN:∀ {k:Key} {v:Value},zil k v=true->(∃ i t,k=Sum.inl i/\v=Value.int i t)\/(∃ x t,k=Sum.inr x/\v=Value.str x t)
 | .inl i,v,h=>by
  obtain⟨t,e⟩:=Value.isInt_shape (k:=i) (v:=v) h
  exact .inl ⟨i,t,rfl,e⟩
 | .inr x,v,h=>by
  obtain⟨t,e⟩:=Value.isStrOf_shape (x:=x) (v:=v) h
  exact .inr ⟨x,t,rfl,e⟩
def zh4 (a b:Int):decide ((Sum.inl a:Key)=Sum.inl b)=(a == b):=by
 by_cases e:a=b
 .subst e;simp
 .have h:¬ (Sum.inl a:Key)=Sum.inl b:=λq=>e (Sum.inl.inj q)
  rw[u7 h]
  exact(u0b.mpr e).symm
def zi9 (a b:Str):decide ((Sum.inr a:Key)=Sum.inr b)=decide (a=b):=by
 by_cases e:a=b
 .subst e;simp
 .have h:¬ (Sum.inr a:Key)=Sum.inr b:=λq=>e (Sum.inr.inj q)
  rw[u7 h,u7 e]
def zij (a:Int)(b:Str):decide ((Sum.inl a:Key)=Sum.inr b)=false:=u7 (λq=>nomatch q)
def ziO (a:Str)(b:Int):decide ((Sum.inr a:Key)=Sum.inl b)=false:=u7 (λq=>nomatch q)
def zc6 (prog:zX)(w:World):PySem.KeyKind prog w Key where
 is:=zil
 hash:=keyH w
 inj:=λv a b ha hb=>by
  rcases yN ha with ⟨i,t,rfl,rfl⟩ | ⟨x,t,rfl,rfl⟩
  .rcases yN hb with ⟨j,u,rfl,e⟩ | ⟨y,u,rfl,e⟩
   .injection e with e1 _;rw[e1]
   .exact nomatch e
  .rcases yN hb with ⟨j,u,rfl,e⟩ | ⟨y,u,rfl,e⟩
   .exact nomatch e
   .injection e with e1 _;rw[e1]
 byValue:=λk v h=>by
  rcases yN h with ⟨i,t,rfl,rfl⟩ | ⟨x,t,rfl,rfl⟩ <;> rfl
 pyHash:=λhv h=>by
  rcases yN hv with ⟨i,t,rfl,rfl⟩ | ⟨x,t,rfl,rfl⟩
  .exact wpAny_pyHash_int h
  .exact wpAny_pyHash_str h
 eqBool:=λhu hv h=>by
  rcases yN hu with ⟨i,t,rfl,rfl⟩ | ⟨x,t,rfl,rfl⟩
  .rcases yN hv with ⟨j,u,rfl,rfl⟩ | ⟨y,u,rfl,rfl⟩
   .rw[zh4]at h;exact wpAny_eqBool_int h
   .rw[zij]at h;exact SeqAt.EqAt.int_str i t y u _ _ _ _ h
  .rcases yN hv with ⟨j,u,rfl,rfl⟩ | ⟨y,u,rfl,rfl⟩
   .rw[ziO]at h;exact SeqAt.EqAt.str_int x t j u _ _ _ _ h
   .rw[zi9]at h;exact wpAny_eqBool_str h
 «strs»:=λk x t v h=>by
  rcases yN h with ⟨i,u,rfl,e⟩ | ⟨y,u,rfl,e⟩
  .exact nomatch e
  .injection e with e1 _
   subst e1
   cases v <;> rfl
inductive V where
 | non | bl (b:Bool) | int (i:Int) | str (x:Str) | byt (b:Array UInt8) | flt (b:UInt64) | ref (a:Addr) | ty (n:String)
 deriving DecidableEq
abbrev zz:=List V
def xW:V->Value->Prop
 | .non,u=>u=Value.none
 | .bl b,u=>u=Value.bool b
 | .int i,u=>∃ t,u=Value.int i t
 | .str x,u=>∃ t,u=Value.str x t
 | .byt b,u=>∃ t,u=Value.bytes b t
 | .flt b,u=>∃ t,u=Value.float b t
 | .ref a,u=>u=Value.ref a
 | .ty n,u=>u=Value.type n
abbrev yU:zz->zH->Prop:=Paired xW
def yU.length {a:zz}{b:zH}(r:yU a b):a.length=b.length:=Paired.length r
def yU.get:∀ {a:zz} {b:zH} {i:Nat} {x:V},yU a b->a[i]?=some x->∃ u,b[i]?=some u/\xW x u
 | _,_,_,_,.nil,e=>by simp at e
 | _,_,0,_,.cons r _,e=>by simp at e;subst e;exact⟨_,rfl,r⟩
 | _,_,i+1,x,.cons _ t,e=>by
  obtain⟨u,c,d⟩:=yU.get (i:=i) (x:=x) t (by simpa using e)
  exact⟨u,by simpa using c,d⟩
def yU.append:∀ {c b:zz} {d a:zH},yU c d->yU b a->yU (c++b) (d++a):=by
 intro c b d a h s
 induction h with
 | nil=>exact s
 | cons r t e=>exact .cons r e
def yU.take:∀ {a:zz} {b:zH} (n:Nat),yU a b->yU (a.take n) (b.take n)
 | _,_,0,_=>.nil
 | _,_,_+1,.nil=>.nil
 | _,_,n+1,.cons r t=>.cons r (yU.take n t)
def yU.drop:∀ {a:zz} {b:zH} (n:Nat),yU a b->yU (a.drop n) (b.drop n)
 | _,_,0,r=>r
 | _,_,_+1,.nil=>.nil
 | _,_,n+1,.cons _ t=>yU.drop n t
def zgJ:Option V->Option Value->Prop
 | some v,some u=>xW v u
 | none,none=>True
 | _,_=>False
def KV {κ:Type}:List (κ × V)->List (κ × Value)->Prop:=Paired λ(p:κ × V) (q:κ × Value)=>p.1=q.1/\xW p.2 q.2
def kV:Key->V
 | .inl i=>.int i
 | .inr x=>.str x
inductive HO where
 | lst (xs:zz)
 | tup (xs:zz)
 | dK (kvs:List (Key × V)) | dT (kvs:List (List Key × V))
 | set (S:Int->Bool) (n:Nat)
 | ins (C dx:Addr) (fs:List (Str × V))
 | own (x:Addr)
 | xd (fs:List (Str × V))
 | met (f x:Addr)
 | rng (lo hi:Int)
 | frz (o:Obj) (u:HO)
 | tbl (ps:vC)
 | ext (φ:Heap->Prop)
abbrev Hp:=Addr->Option HO
def upd (H:Hp)(a:Addr)(o:HO):Hp:=λb=>if b=a then some o else H b
def zx:upd H a o a=some o:=by unfold upd;rw[j0 rfl]
def zn {H:Hp}(h:b≠a):upd H a o b=H b:=by unfold upd;rw[j6 h]
def zct:upd (upd H a o) a u=upd H a u:=by
 funext b;unfold upd;split <;> rfl
def zj {H:Hp}(h:H a=some o)(c:H b=none):a≠b:=by
 intro e;subst e;rw[h]at c;cases c
section
variable (P:zX)(w:World)
def xI (H:Hp)(h:Heap)(a:Addr):HO->Prop
 | .lst d=>d.length<=sizeLine/\∃ (c:zH) (n:Nat),yU d c/\h.get? a=some { cls:=.type "list",data:=.seq c.toArray n }
 | .tup d=>d.length<=sizeLine/\∃ c:zH,yU d c/\IsTup h a c.toArray
 | .dK b=>b.length<=sizeLine/\(a == sysModules)=false/\∃ j,KV b j/\h.DictOf (zc6 P w) a j
 | .dT b=>b.length<=sizeLine/\(a == sysModules)=false/\∃ d:List (List Key × Addr × Value),
  Paired (λ(p:List Key × V) (q:List Key × Addr × Value)=>p.1=q.1/\H q.2.1=some (.tup (p.1.map kV))/\xW p.2 q.2.2) b d /\
  ∃ o k z,h.get? a=some o/\o.ExactDict/\o.data=.dict k z/\k.toList=d.map (entryOfKey (tupleKind (zc6 P w)))/\(d.map (·.1)).Nodup
 | .set S n=>h.SetOf (intKind P w) a S n
 | .ins C i g=>H i=some (.own a)/\g.length<=1000/\i≠a/\h.get? a=some (W.instObj C i) /\
  ∃ e,h.Ns1 i e/\(∀ f,zgJ (g.lookup f) (e f))/\PySem.Within e (g.map (·.1))
 | .own _=>∃ o,h.get? a=some o
 | .xd g=>∃ e,h.Ns1 a e/\∀ f,zgJ (g.lookup f) (e f)
 | .rng s r=>∃ t u v,h.get? a=some { cls:=.type "range",data:=.fields #[.int s t,.int r u,.int 1 v] }
 | .frz o u=>h.get? a=some o/\xI H h a u
 | .tbl y=>h.get? a=some { cls:=.none,data:=.fields y }
 | .met f x=>h.get? a=some (W.methodObj (.ref f) (.ref x))
 | .ext φ=>φ h/\(∃ o,h.get? a=some o)/\∀ l m:Heap,φ l->(∀ o,l.get? a=some o->m.get? a=some o)->φ m
def HOk (H:Hp)(h:Heap):Prop:=∀ a o,H a=some o->xI P w H h a o
end
section
variable {P:zX}{w:World}{H H':Hp}{h h':Heap}{a:Addr}{o:HO}
def xI.lt (x:xI P w H h a o):a<h.objs.size:=by
 cases o with
 | lst d=>obtain⟨_,_,_,_,e⟩:=x;exact t8 e
 | tup d=>obtain⟨_,_,_,p⟩:=x;exact p.lt
 | dK b=>obtain⟨_,_,_,_,o,_,_,e,_⟩:=x;exact t8 e
 | dT b=>obtain⟨_,_,_,_,o,_,_,e,_⟩:=x;exact t8 e
 | set S n=>obtain⟨o,_,_,_,e,_⟩:=x;exact t8 e
 | ins C l c=>obtain⟨_,_,_,e,_⟩:=x;exact t8 e
 | own y=>obtain⟨_,e⟩:=x;exact t8 e
 | xd c=>obtain⟨_,⟨_,_,_,e,_⟩,_⟩:=x;exact t8 e
 | rng g j=>obtain⟨_,_,_,e⟩:=x;exact t8 e
 | frz i u=>obtain⟨e,_⟩:=x;exact t8 e
 | tbl k=>exact t8 (show h.get? a=some _ from x)
 | met f y=>exact t8 (show h.get? a=some _ from x)
 | ext φ=>obtain⟨_,⟨_,e⟩,_⟩:=x;exact t8 e
def Paired.mapP {α β:Type}{F G:α->β->Prop}:∀ {c:List α} {d:List β},Paired F c d->(∀ a b,F a b->G a b)->Paired G c d:=by
 intro g i h f
 induction h with
 | nil=>exact .nil
 | cons r t e=>exact .cons (f _ _ r) e
def xI.stay (x:xI P w H h a o)(k:∀ b u,(b=a\/H b=some (.own a))->h.get? b=some u->h'.get? b=some u)
 (K:∀ b,H b=some (.own a)->H' b=some (.own a)) (J:∀ b m,H b=some (.tup m)->H' b=some (.tup m)):xI P w H' h' a o:=by
 induction o with
 | lst m=>obtain⟨z,l,n,r,e⟩:=x;exact⟨z,l,n,r,k _ _ (.inl rfl) e⟩
 | tup m=>obtain⟨z,l,r,g,e,c⟩:=x;exact⟨z,l,r,g,k _ _ (.inl rfl) e,c⟩
 | dK s=>obtain⟨z,y,F,r,g,i,j,e,c⟩:=x;exact⟨z,y,F,r,g,i,j,k _ _ (.inl rfl) e,c⟩
 | dT s =>
  obtain⟨z,y,m,r,g,i,j,e,c⟩:=x
  exact⟨z,y,m,Paired.mapP r λp q z=>⟨z.1,J _ _ z.2.1,z.2.2⟩,g,i,j,k _ _ (.inl rfl) e,c⟩
 | set S n=>obtain⟨g,i,j,t,e,c⟩:=x;exact⟨g,i,j,t,k _ _ (.inl rfl) e,c⟩
 | ins C Q L =>
  obtain⟨d,z,M,e,A,⟨B,i,j,G,c⟩,r⟩:=x
  exact⟨K _ d,z,M,k _ _ (.inl rfl) e,A,⟨B,i,j,k _ _ (.inr d) G,c⟩,r⟩
 | own y=>obtain⟨g,e⟩:=x;exact⟨g,k _ _ (.inl rfl) e⟩
 | xd L=>obtain⟨A,⟨B,i,j,e,c⟩,r⟩:=x;exact⟨A,⟨B,i,j,k _ _ (.inl rfl) e,c⟩,r⟩
 | rng O N=>obtain⟨t,u,v,e⟩:=x;exact⟨t,u,v,k _ _ (.inl rfl) e⟩
 | frz g u I=>obtain⟨e,q⟩:=x;exact⟨k _ _ (.inl rfl) e,I q⟩
 | tbl E =>
  have e:h.get? a=some { cls:=.none,data:=.fields E }:=x
  show h'.get? a=some { cls:=.none,data:=.fields E }
  exact k a _ (.inl rfl) e
 | met f y =>
  have e:h.get? a=some (W.methodObj (.ref f) (.ref y)):=x
  show h'.get? a=some (W.methodObj (.ref f) (.ref y))
  exact k a _ (.inl rfl) e
 | ext φ=>obtain⟨p,⟨o,e⟩,D⟩:=x;exact⟨D _ _ p λo q=>k _ _ (.inl rfl) q,⟨o,k _ _ (.inl rfl) e⟩,D⟩
def HOk.lt (x:HOk P w H h)(e:H a=some o):a<h.objs.size:=(x a o e).lt
def HOk.fresh (x:HOk P w H h)(e:h.objs.size<=a):H a=none:=by
 cases q:H a with
 | none=>rfl
 | some u=>exact absurd (j3 (x.lt q) e) (u0g _)
def HOk.kept (x:HOk P w H h)(k:∀ b u,h.get? b=some u->h'.get? b=some u):HOk P w H h':=λa o e =>
 (x a o e).stay (λb u _ q=>k b u q) (λ_ q=>q) λ_ _ q=>q
def HOk.laid (x:HOk P w H h)(k:∀ b u,h.get? b=some u->h'.get? b=some u)(hp:h.objs.size<=a)(d:xI P w (upd H a o) h' a o):HOk P w (upd H a o) h':=λb u e=>by
 have g:=x.fresh hp
 by_cases f:b=a
 .subst f;rw[zx]at e;cases e;exact d
 .rw[zn f]at e
  exact(x b u e).stay (λc v _ q=>k c v q) (λc q=>by rw[zn (zj q g)];exact q) λc i q=>by rw[zn (zj q g)];exact q
end
def Rd (H:Hp)(a:Addr)(u:HO):Prop:=H a=some u\/∃ o,H a=some (.frz o u)
def Rd.ok {w:World}(r:Rd H a u)(x:HOk P w H h):xI P w H h a u:=by
 rcases r with r | ⟨o,r⟩
 .exact x a u r
 .obtain⟨_,q⟩:=x a _ r
  exact q
def Mut:Option HO->Prop
 | some (.lst _)=>True
 | some (.dK _)=>True
 | some (.dT _)=>True
 | some (.set _ _)=>True
 | some (.ins _ _ _)=>True
 | some (.ext _)=>True
 | _=>False
section
variable {P:zX}{w:World}{H:Hp}{h h':Heap}{x e:Addr}{o':HO}
def HOk.write (ok:HOk P w H h)(i:Mut (H x))(p:e=x\/H e=some (.own x))(k:∀ b u,b≠e->h.get? b=some u->h'.get? b=some u)(m:∃ u,h'.get? e=some u)
 (n:xI P w (upd H x o') h' x o'):HOk P w (upd H x o') h':=λb u q=>by
 have d:∀ c y,H c=some (.own y)->c≠x:=λc y r z=>by subst z;rw[r]at i;exact i
 have f:∀ c j,H c=some (.tup j)->c≠x:=λc j r z=>by subst z;rw[r]at i;exact i
 by_cases g:b=x
 .subst g;rw[zx]at q;cases q;exact n
 .rw[zn g]at q
  by_cases a:b=e
  .have o:H b=some (.own x):=by
    rcases p with z | z
    .exact absurd (a.trans z) g
    .rw[a];exact z
   rw[q]at o;cases o
   obtain⟨v,s⟩:=m
   exact⟨v,by rw[a];exact s⟩
  .refine(ok b u q).stay (λc v l r=>k c v ?_ r) (λc r=>by rw[zn (d c b r)];exact r) λc j r=>by rw[zn (f c j r)];exact r
   rcases l with rfl | l
   .exact a
   .rintro rfl
    rcases p with z | z
    .exact d c b l z
    .rw[l]at z;cases z;exact g rfl
end
structure Un (fs ex:xw) (H H':Hp) (h h':Heap):Prop where
 keep:∀ b o,h.get? b=some o->H b=none->b∉fs->b∉ex->h'.get? b=some o
 slot:∀ b o,h.get? b=some o->H b=none->b∈fs->b∉ex->∃ sl,h'.get? b=some { o with slots:=sl }
 free:∀ b o,h.get? b=some o->H b=none->b∉ex->H' b=none
 there:∀ b o,h.get? b=some o->b∉ex->∃ o',h'.get? b=some o'
 tups:∀ b xs,H b=some (.tup xs)->H' b=some (.tup xs)
 frzs:∀ b o u,H b=some (.frz o u)->H' b=some (.frz o u)
 tbls:∀ b ps,H b=some (.tbl ps)->∃ more,H' b=some (.tbl (ps++more))
section
variable {fs fs' ex ex':xw}{H H1 H2:Hp}{h h1 h2 h':Heap}{a x e:Addr}{o:HO}
def Un.any (u:Un fs ex H H1 h h1){a:Obj}(q:h.get? b=some a)(n:H b=none)(d:b∉ex):∃ e,h1.get? b=some { a with slots:=e }:=by
 by_cases c:b∈fs
 .exact u.slot b a q n c d
 .exact⟨a.slots,u.keep b a q n c d⟩
def Un.kept (k:∀ b u,h.get? b=some u->h'.get? b=some u):Un fs ex H H h h' :=
 ⟨λb a q _ _ _=>k b a q,λb a q _ _ _=>⟨a.slots,k b a q⟩,λ_ _ _ n _=>n,λb a q _=>⟨a,k b a q⟩,λ_ _ q=>q,λ_ _ _ q=>q,λ_ c q=>⟨#[],by rw[q];simp⟩⟩
def Un.refl:Un fs ex H H h h:=Un.kept λ_ _ q=>q
def Un.laid (k:∀ b u,h.get? b=some u->h'.get? b=some u)(hp:h.objs.size<=a)(hn:H a=none):Un fs ex H (upd H a o) h h' where
 keep:=λb u q _ _ _=>k b u q
 slot:=λb u q _ _ _=>⟨u.slots,k b u q⟩
 free:=λb u q n _=>by rw[zn (j5 (j3 (t8 q) hp))];exact n
 there:=λb u q _=>⟨u,k b u q⟩
 tups:=λb xs q=>by rw[zn (zj q hn)];exact q
 frzs:=λb u xs q=>by rw[zn (zj q hn)];exact q
 tbls:=λb ps q=>⟨#[],by rw[zn (zj q hn),q];simp⟩
def Un.write (c:Mut (H x))(l:e=x\/H e=some (.own x))(k:∀ b u,b≠e->h.get? b=some u->h'.get? b=some u)(d:∃ u,h'.get? e=some u):Un fs ex H (upd H x o) h h':=by
 have i:∀ b,H b=none->b≠x:=λb n z=>by subst z;rw[n]at c;exact c
 have g:∀ b,H b=none->b≠e:=λb n z=>by
  subst z
  rcases l with r | r
  .exact i b n r
  .rw[n]at r;cases r
 have f:∀ b u,H b=some u->¬ Mut (some u)->b≠x:=λb u q j z=>by subst z;rw[q]at c;exact j c
 refine⟨λb u q n _ _=>k b u (g b n) q,λb u q n _ _=>⟨u.slots,k b u (g b n) q⟩,λb u q n _=>by rw[zn (i b n)];exact n,λb u q _=>?_,
  λb m q=>by rw[zn (f b _ q λz=>z)];exact q,λb u m q=>by rw[zn (f b _ q λz=>z)];exact q,λb p q=>⟨#[],by rw[zn (f b _ q λz=>z),q];simp⟩⟩
 by_cases a:b=e
 .subst a;exact d
 .exact⟨u,k b u a q⟩
end
def trk (h:Heap)(H:Hp):xw:=(List.range h.objs.size).filter λa=>(H a).isSome
def zd4 (h:Heap)(H:Hp):Heap:=W.hideAll h (trk h H)
def zde (h:Heap)(H:Hp):(zd4 h H).objs.size=h.objs.size:=W.hideAll_size _ _
def zeV {h:Heap}{H:Hp}(e:h.get? b=some o)(n:H b=none):(zd4 h H).get? b=some o :=
 u0L _ e λa=>by
  have q:(H b).isSome=true:=(u2b.mp a).2
  rw[n]at q;simp at q
def zhk {h:Heap}{H:Hp}(e:(zd4 h H).get? b=some o):h.get? b=some o/\H b=none:=by
 have a:h.get? b=some o:=W.of_hideAll (trk h H) e
 refine⟨a,?_⟩
 cases q:H b with
 | none=>rfl
 | some x =>
  have c:b∈trk h H:=u2b.mpr ⟨i8.mpr (t8 a),by simp[q]⟩
  have z:(zd4 h H).get? b=none:=u1m (trk h H) c
  rw[z]at e;cases e
def zg7 (g h:Heap)(L:Addr):xo:=(List.range h.objs.size).filterMap λa=>if a=L\/(g.get? a).isSome=true then none else (h.get? a).map λo=>(a,o)
def rest (g h:Heap)(L d:Addr):xo:=(zg7 g h L).filter λp=>decide (p.1≠d)
structure Mod (K:zu) (mg:wH) (base:Heap):Prop where
 kin:K.In base
 glob:base.Ns mainGlobals mg
 blt:∃ mb,base.Ns builtinsNs mb/\∀ x:Str,x≠"__name__"->mb x=bootBuiltins x
 nolimit:base.NoLimit
structure Cx where
 prog:Program
 w:World
 K:W.Frag
 mg:wH
 base:Heap
 A:Around
 N:zr
 s₀:Shared
 H₀:Hp
 env:Env
 outer:List Env
 stack:List Env
 ex:xw
 fn:Str->Bool
 calm:Bool
 pn:xo
 xe:xa
def frs (l:List Env):xw:=l.filterMap (·.frame)
abbrev Cx.fs (X:Cx):xw:=frs X.outer
def Vis (sc:Scope)(x:Str):Prop:=sc.names.lookup x=some .local\/sc.names.lookup x=some .cell\/sc.names.lookup x=some .free
def Loc (sc:Scope)(x:Str):Prop:=sc.names.lookup x=some .local\/sc.names.lookup x=some .cell
def Look (env:Env)(h:Heap)(m:wH)(x:Str)(u:Value):Prop :=
 (env.kindOf x=some .local/\m x=some u)\/((env.kindOf x=some .cell\/env.kindOf x=some .free)/\∃ c,env.cells.lookup x=some c/\h.IsCell c (some u))
structure Cx.Ok (X:Cx):Prop where
 mod:Mod X.K X.mg X.base
 kind:X.env.scope.kind=.function
 glob:X.env.globals=mainGlobals
 blt:X.env.builtins=builtinsNs
 above:X.s₀.heap.objs.size<=X.env.locals
 inj:∀ x y c,X.env.cells.lookup x=some c->X.env.cells.lookup y=some c->x=y
 has:∀ x,(X.env.kindOf x=some .cell\/X.env.kindOf x=some .free)->∃ c,X.env.cells.lookup x=some c
 cab:∀ x c,X.fn x=true->X.env.cells.lookup x=some c->X.s₀.heap.objs.size<=c
 hd:X.calm=true->X.A.handled=none
 frames:X.A.frames=some X.stack
 stk:X.stack=X.outer\/(X.stack=X.env::X.outer/\X.env.frame=some X.env.locals)
 exf:∀ b∈X.ex,b≠X.env.locals/\∀ x c,X.env.cells.lookup x=some c->c≠b
 bs:∀ b o,X.base.get? b=some o->X.s₀.heap.get? b=some o/\X.H₀ b=none
 bsz:X.base.objs.size<=X.s₀.heap.objs.size
 noex:∀ b o,X.base.get? b=some o->b∉X.ex
 exfs:∀ b∈X.ex,b∉X.fs
 funs:X.s₀.heap.FunFrames X.base X.outer
 frf:∀ b∈X.fs,X.H₀ b=none
structure Inv (X:Cx) (pins:xo) (σ:List (Option V)) (H:Hp) (s:zi):Prop where
 ok:X.Ok
 os:s.os=X.s₀.os
 bare:AllBare s.gens
 base:Un X.fs X.ex X.H₀ H X.s₀.heap s.heap
 loc:∃ m,s.heap.Ns X.env.locals m/\∀ (i:Nat) (x:Str) (v:V),X.N[i]?=some x->σ[i]?=some (some v)->Vis X.env.scope x->∃ u,xW v u/\Look X.env s.heap m x u
 cell:∀ x c,X.env.cells.lookup x=some c->∃ v,s.heap.IsCell c v
 free:H X.env.locals=none
 freeC:∀ x c,X.env.cells.lookup x=some c->H c=none
 pin:∀ p∈X.pn++pins,s.heap.get? p.1=some p.2/\H p.1=none/\p.1≠X.env.locals/\p.1∉X.fs/\∀ v,p.2.data≠.cell v
 hok:HOk X.prog X.w H s.heap
 len:σ.length=X.N.length
section
variable {X:Cx}{pins:xo}{σ:List (Option V)}{H H':Hp}{s:zi}{h':Heap}
def Cx.Ok.nofr (ok:X.Ok)(e:X.base.get? b=some o):b∉X.fs:=λa=>by
 have:=(ok.funs.mem a).1
 rw[e]at this;cases this
def Inv.bs (I:Inv X pins σ H s):∀ b o,X.base.get? b=some o->s.heap.get? b=some o/\H b=none:=λb o e =>
 ⟨I.base.keep b o (I.ok.bs b o e).1 (I.ok.bs b o e).2 (I.ok.nofr e) (I.ok.noex b o e),I.base.free b o (I.ok.bs b o e).1 (I.ok.bs b o e).2 (I.ok.noex b o e)⟩
def Inv.bk (I:Inv X pins σ H s):∀ b o,X.base.get? b=some o->s.heap.get? b=some o:=λb o e=>(I.bs b o e).1
def Inv.mod (I:Inv X pins σ H s):Mod X.K X.mg X.base:=I.ok.mod
def Inv.kIn (I:Inv X pins σ H s):X.K.In s.heap:=I.ok.mod.kin.keeps I.bk
def Inv.lt (I:Inv X pins σ H s):X.env.locals<s.heap.objs.size:=let ⟨_,hn,_⟩:=I.loc;hn.lt
def Inv.sz (I:Inv X pins σ H s):X.s₀.heap.objs.size<=s.heap.objs.size:=k9 I.ok.above (u1I I.lt)
def Inv.nofs (I:Inv X pins σ H s)(h:s.heap.objs.size<=a):a∉X.fs:=λb=>by
 obtain⟨_,o,c,_⟩:=I.ok.funs.mem b
 exact absurd (j3 (t8 c) (k9 I.sz h)) (u0g _)
def Inv.cne (I:Inv X pins σ H s):∀ x c,X.env.cells.lookup x=some c->c≠X.env.locals:=λx c e z=>by
 obtain⟨v,o,d,f⟩:=I.cell x c e
 obtain⟨m,⟨i,g,h,b,a,_⟩,_⟩:=I.loc
 rw[z,b]at d;cases d;rw[a]at f;cases f
def Inv.funs (I:Inv X pins σ H s):s.heap.FunFrames X.base X.outer:=by
 have f:∀ (l:List Env),(∀ b∈frs l,b∈X.fs)->X.s₀.heap.FunFrames X.base l->s.heap.FunFrames X.base l:=by
  intro l
  induction l with
  | nil=>intro _ _;trivial
  | cons env r j =>
   intro g n
   obtain⟨p,⟨L,o,d,m,h,k⟩,i⟩:=n
   have c:L∈X.fs:=g L (by unfold frs;rw[u1t,d];exact p9)
   obtain⟨q,e⟩:=I.base.slot L o h (I.ok.frf L c) c λz=>I.ok.exfs L z c
   exact⟨p,⟨L,_,d,m,e,k⟩,j (λb a=>g b (by unfold frs;rw[u1t,d];exact l6 _ a)) i⟩
 exact f X.outer (λ_ a=>a) I.ok.funs
def Inv.stack (I:Inv X pins σ H s):s.heap.FunFrames X.base X.stack:=by
 rcases I.ok.stk with e | ⟨e,b⟩
 .rw[e];exact I.funs
 .rw[e]
  obtain⟨m,a,_⟩:=I.loc
  refine .cons (by rw[I.ok.kind];decide) b a ?_ I.funs
  exact Heap.get?_none_of_le (k9 I.ok.bsz I.ok.above)
def Inv.stkSub (I:Inv X pins σ H s):∀ b∈frs X.stack,b∈X.env.locals::X.fs:=λb a=>by
 rcases I.ok.stk with e | ⟨e,c⟩
 .rw[e]at a;exact l6 _ a
 .rw[e]at a
  unfold frs at a
  rw[u1t,c]at a
  exact a
def Inv.stkFree (I:Inv X pins σ H s):∀ b∈frs X.stack,H b=none:=λb a=>by
 rcases q3.mp (I.stkSub b a)with e | a
 .rw[e];exact I.free
 .obtain⟨_,o,c,_⟩:=I.ok.funs.mem a
  exact I.base.free b o c (I.ok.frf b a) λz=>I.ok.exfs b z a
def Inv.step {g':Array GenState}{t':Nat}{d':Drawn}{ch:xw}(I:Inv X pins σ H s)
 (g:∀ b∈ch,(b∈X.ex\/X.s₀.heap.objs.size<=b)/\b≠X.env.locals/\(∀ x c,X.env.cells.lookup x=some c->c≠b)/\∀ p∈X.pn++pins,p.1≠b)
 (keep:∀ b o,b≠X.env.locals->b∉X.fs->b∉ch->s.heap.get? b=some o->H b=none->h'.get? b=some o)
 (y:∀ b o,b≠X.env.locals->b∈X.fs->b∉ch->s.heap.get? b=some o->H b=none->∃ P,h'.get? b=some { o with slots:=P }) (f:∀ b o,b∉ch->s.heap.get? b=some o->H b=none->H' b=none)
 (B:∀ b o,b∉ch->s.heap.get? b=some o->∃ K,h'.get? b=some K)
 (F:∀ b A,H b=some (.tup A)->H' b=some (.tup A)) (L:∀ b o u,H b=some (.frz o u)->H' b=some (.frz o u)) (G:∀ b N,H b=some (.tbl N)->∃ E,H' b=some (.tbl (N++E)))
 (ns:∀ m,s.heap.Ns X.env.locals m->h'.Ns X.env.locals m) (Q:HOk X.prog X.w H' h') (hg:AllBare g') :
 Inv X pins σ H' { s with heap:=h',gens:=g',drawn:=d',toks:=t' }:=by
 have M:∀ b o,X.s₀.heap.get? b=some o->b≠X.env.locals:=λb o e=>j5 (j3 (t8 e) I.ok.above)
 have w:∀ b o,X.s₀.heap.get? b=some o->b∉X.ex->b∉ch:=λb o e a C=>by
  rcases(g b C).1 with z | z
  .exact a z
  .exact absurd (j3 (t8 e) z) (u0g _)
 have j:∀ x c,X.env.cells.lookup x=some c->∀ v,s.heap.IsCell c v->h'.IsCell c v:=λx c e v ⟨o,D,O⟩=>by
  have h:c∉ch:=λz=>(g c z).2.2.1 x c e rfl
  by_cases T:c∈X.fs
  .obtain⟨P,q⟩:=y c o (I.cne x c e) T h D (I.freeC x c e)
   exact⟨_,q,O⟩
  .exact⟨o,keep c o (I.cne x c e) T h D (I.freeC x c e),O⟩
 refine⟨I.ok,I.os,hg,⟨λb o e n C a=>?_,λb o e n C a=>?_,λb o e n a=>?_,λb o e a=>?_,λb A e=>F b A (I.base.tups b A e),λb o A e=>L b o A (I.base.frzs b o A e),λb N e=>?_⟩,?_,λx c e=>?_,?_,λx c e=>?_,λp hp=>?_,Q,I.len⟩
 .exact keep b o (M b o e) C (w b o e a) (I.base.keep b o e n C a) (I.base.free b o e n a)
 .obtain⟨P,t⟩:=I.base.slot b o e n C a
  obtain⟨R,J⟩:=y b _ (M b o e) C (w b o e a) t (I.base.free b o e n a)
  exact⟨R,J⟩
 .obtain⟨K,t⟩:=I.base.there b o e a
  exact f b K (w b o e a) t (I.base.free b o e n a)
 .obtain⟨K,t⟩:=I.base.there b o e a
  exact B b K (w b o e a) t
 .obtain⟨W,t⟩:=I.base.tbls b N e
  obtain⟨V,J⟩:=G b _ t
  exact⟨W++V,by rw[J,Array.append_assoc]⟩
 .obtain⟨m,Y,hl⟩:=I.loc
  refine⟨m,ns m Y,λi x v t J Z=>?_⟩
  obtain⟨u,r,l⟩:=hl i x v t J Z
  refine⟨u,r,?_⟩
  rcases l with l | ⟨k,c,e,z⟩
  .exact .inl l
  .exact .inr ⟨k,c,e,j x c e _ z⟩
 .obtain⟨v,z⟩:=I.cell x c e
  exact⟨v,j x c e v z⟩
 .obtain⟨m,⟨o,_,_,D,_⟩,_⟩:=I.loc
  exact f _ o (λz=>(g _ z).2.1 rfl) D I.free
 .obtain⟨v,o,D,O⟩:=I.cell x c e
  exact f c o (λz=>(g c z).2.2.1 x c e rfl) D (I.freeC x c e)
 .obtain⟨e,n,U,S,d⟩:=I.pin p hp
  have h:p.1∉ch:=λz=>(g p.1 z).2.2.2 p hp rfl
  exact⟨keep p.1 p.2 U S h e n,f p.1 p.2 h e n,U,S,d⟩
def Inv.un {t':Nat}(I:Inv X pins σ H s)(u:Un X.fs [] H H' s.heap h')(g:HOk X.prog X.w H' h'):Inv X pins σ H' { s with heap:=h',toks:=t' }:=by
 obtain⟨m,⟨o,p,q,h,r⟩,_⟩:=id I.loc
 obtain⟨t,i⟩:=u.any h I.free (by simp)
 exact I.step (g':=s.gens) (d':=s.drawn) (ch:=[]) (λ_ z=>nomatch z) (λb o _ c _ e n=>u.keep b o e n c (by simp)) (λb o _ c _ e n=>u.slot b o e n c (by simp)) (λb o _ e n=>u.free b o e n (by simp)) (λb o _ e=>u.there b o e (by simp)) u.tups u.frzs u.tbls (λv k=>by
  obtain⟨l,d,f,a,j⟩:=k
  rw[h]at a;cases a
  exact⟨_,d,f,i,j⟩) g I.bare
def Inv.call {t':Nat}(I:Inv X pins σ H s)(u:Un (frs X.stack) ch H H' s.heap h')(j:HOk X.prog X.w H' h')(v:AllBare g')(f:∀ b∈ch,(b∈X.ex\/X.s₀.heap.objs.size<=b)/\b≠X.env.locals/\(∀ x c,X.env.cells.lookup x=some c->c≠b)/\∀ p∈X.pn++pins,p.1≠b) :
 Inv X pins σ H' { s with heap:=h',gens:=g',drawn:=d',toks:=t' }:=by
 obtain⟨m,⟨o,w,B,k,r⟩,_⟩:=id I.loc
 obtain⟨C,g⟩:=u.any k I.free λz=>(f _ z).2.1 rfl
 exact I.step (ch:=ch) f (λb o g q a e n=>u.keep b o e n (λz=>(q3.mp (I.stkSub b z)).elim g q) a) (λb o _ _ a e n=>u.any e n a) (λb o a e n=>u.free b o e n a) (λb o a e=>u.there b o e a) u.tups u.frzs u.tbls (λy t=>by
  obtain⟨A,i,h,d,l⟩:=t
  rw[k]at d;cases d
  exact⟨_,i,h,g,l⟩) j v
def Inv.turned {t':Nat}(I:Inv X pins σ H s)(k:∀ b o,b≠a->s.heap.get? b=some o->h'.get? b=some o)(i:H a=none)(g:a≠X.env.locals)(j:a∈X.ex\/X.s₀.heap.objs.size<=a)(y:∀ x c,X.env.cells.lookup x=some c->c≠a)(t:∀ p∈X.pn++pins,p.1≠a):Inv X pins σ H { s with heap:=h',toks:=t' }:=by
 have f:∀ b u,H b=some u->b≠a:=λb u e z=>by rw[z,i]at e;cases e
 refine I.step (g':=s.gens) (d':=s.drawn) (ch:=[a]) (λb l=>?_) (λb o _ _ d e _=>k b o (λz=>d (by simp[z])) e) (λb o _ _ d e _=>⟨o.slots,k b o (λz=>d (by simp[z])) e⟩) (λ_ _ _ _ n=>n)
  (λb o d e=>⟨o,k b o (λz=>d (by simp[z])) e⟩) (λ_ _ e=>e) (λ_ _ _ e=>e) (λb C e=>⟨#[],by rw[e];simp⟩) (λm B=>?_) (λb u e=>?_) I.bare
 .have e:b=a:=by simpa using l
  subst e
  exact⟨j,g,y,t⟩
 .obtain⟨o,h,A,w,r⟩:=B
  exact⟨o,h,A,k _ o (u0d g) w,r⟩
 .refine(I.hok b u e).stay (λc v d q=>k c v ?_ q) (λ_ q=>q) λ_ _ q=>q
  rcases d with z | z
  .rw[z];exact f b u e
  .exact f c _ z
def Inv.tok (I:Inv X pins σ H s)(t:Nat):Inv X pins σ H { s with toks:=t }:=I.un (h':=s.heap) (t':=t) Un.refl I.hok
def Inv.kept {t':Nat}(I:Inv X pins σ H s)(k:∀ b u,s.heap.get? b=some u->h'.get? b=some u):Inv X pins σ H { s with heap:=h',toks:=t' }:=I.un (Un.kept k) (I.hok.kept k)
def Inv.laid {t':Nat}(I:Inv X pins σ H s)(k:∀ b u,s.heap.get? b=some u->h'.get? b=some u)(hp:s.heap.objs.size<=a)(c:xI X.prog X.w (upd H a o) h' a o) :
 Inv X pins σ (upd H a o) { s with heap:=h',toks:=t' }:=I.un (Un.laid k hp (I.hok.fresh hp)) (I.hok.laid k hp c)
def Inv.write {t':Nat}(I:Inv X pins σ H s)(f:Mut (H x))(d:e=x\/H e=some (.own x))(k:∀ b u,b≠e->s.heap.get? b=some u->h'.get? b=some u)(a:∃ u,h'.get? e=some u)(c:xI X.prog X.w (upd H x o) h' x o):Inv X pins σ (upd H x o) { s with heap:=h',toks:=t' }:=I.un (Un.write f d k a) (I.hok.write f d k a c)
def Inv.weak {a:List (Option V)}(I:Inv X pins σ H s)(e:a.length=σ.length)(w:∀ (i:Nat) v,a[i]?=some (some v)->σ[i]?=some (some v)):Inv X pins a H s :=
 ⟨I.ok,I.os,I.bare,I.base,let ⟨m,hn,hl'⟩:=I.loc;⟨m,hn,λi x v c d b=>hl' i x v c (w i v d) b⟩,I.cell,I.free,I.freeC,I.pin,I.hok,e.trans I.len⟩
def Inv.pins_of (I:Inv X pins σ H s)(h:∀ p∈a,s.heap.get? p.1=some p.2/\H p.1=none/\p.1≠X.env.locals/\p.1∉X.fs/\∀ v,p.2.data≠.cell v):Inv X a σ H s :=
 ⟨I.ok,I.os,I.bare,I.base,I.loc,I.cell,I.free,I.freeC,λp hp=>(k6.mp hp).elim (λz=>I.pin p (u0I _ z)) (h p),I.hok,I.len⟩
def WG {N:zr}(d:N.Nodup){i j:Nat}(a:N[i]?=some x)(b:N[j]?=some x):i=j:=by
 obtain⟨f,c⟩:=q4.mp a
 obtain⟨g,e⟩:=q4.mp b
 exact(List.getElem_inj d).mp (c.trans e.symm)
def zdr {i:Nat}{Q:Unit->Shared->Prop}(I:Inv X pins σ H s)(hN:X.N.Nodup)(O:X.N[i]?=some x)(w:Loc X.env.scope x)(r:xW v u)(h:∀ s',Inv X pins (σ.set i (some v)) H s'->(∃ a,Heap.SameBut a s.heap s'.heap/\(a=X.env.locals\/X.env.cells.lookup x=some a))->Q () s')(hf:X.fn x=true\/X.env.scope.names.lookup x=some .local:=by first | exact .inl rfl | exact .inr rfl | assumption):wpAny M A (storeName X.env x u) Q E s:=by
 obtain⟨m,hn,hl⟩:=id I.loc
 have P:(X.env.scope.kind == .class||(X.env.scope.kind == .module&&X.env.locals != X.env.globals))=false:=by rw[I.ok.kind];rfl
 have S:i<σ.length:=by rw[I.len];exact(q4.mp O).1
 have J:=I.cne
 have l:∀ {a:Addr} {h':Heap},(∃ o,s.heap.get? a=some o/\H a=none)->Heap.SameBut a s.heap h'->HOk X.prog X.w H h':=λ{a h'} ha f b ob e=>by
  obtain⟨_,_,B⟩:=ha
  refine(I.hok b ob e).stay (λc U t q=>(f.2 c ?_).trans q) (λ_ q=>q) λ_ _ q=>q
  rintro rfl
  rcases t with rfl | t
  .rw[B]at e;cases e
  .rw[B]at t;cases t
 rcases w with D | D
 .refine wpAny_storeName_local D hn (λh' Z f=>?_) P
  obtain⟨oL,_,_,a0,_⟩:=id hn
  refine h _ ⟨I.ok,I.os,I.bare,⟨λb o e n F w=>?_,λb o e n F w=>?_,I.base.free,λb o e w=>?_,I.base.tups,I.base.frzs,I.base.tbls⟩,⟨_,Z,λj y v' g C e3=>?_⟩,λy c e=>?_,I.free,I.freeC,λp hp=>?_,l ⟨oL,a0,I.free⟩ f,by simpa using I.len⟩ ⟨_,f,.inl rfl⟩
  .exact(f.2 b (j5 (j3 (t8 e) I.ok.above))).trans (I.base.keep b o e n F w)
  .obtain⟨sl,g⟩:=I.base.slot b o e n F w
   exact⟨sl,(f.2 b (j5 (j3 (t8 e) I.ok.above))).trans g⟩
  .obtain⟨o',g⟩:=I.base.there b o e w
   exact⟨o',(f.2 b (j5 (j3 (t8 e) I.ok.above))).trans g⟩
  .by_cases K:j=i
   .subst K
    rw[O]at g;cases g
    rw[r6 S]at C
    cases C
    exact⟨u,r,.inl ⟨D,by simp⟩⟩
   .rw[t3 (u0d K)]at C
    obtain⟨u',r',q⟩:=hl j y v' g C e3
    refine⟨u',r',?_⟩
    rcases q with ⟨k,e⟩ | ⟨k,c,e,z⟩
    .refine .inl ⟨k,?_⟩
     have:y≠x:=λe=>K (WG hN g (e ▸ O))
     simp[this,e]
    .exact .inr ⟨k,c,e,z.sameBut f (J y c e)⟩
  .obtain⟨U,z⟩:=I.cell y c e
   exact⟨U,z.sameBut f (J y c e)⟩
  .obtain⟨e,n,Y,nf,d⟩:=I.pin p hp
   exact⟨(f.2 p.1 Y).trans e,n,Y,nf,d⟩
 .have G:X.fn x=true:=by
   rcases hf with z | z
   .exact z
   .rw[z]at D;cases D
  obtain⟨c,t⟩:=I.ok.has x (.inl D)
  obtain⟨U,z⟩:=I.cell x c t
  refine wpAny_storeName_cell I.ok.kind D t z (λh' R f=>?_)
  obtain⟨oc,T,N⟩:=id z
  refine h { s with heap:=h' } ⟨I.ok,I.os,I.bare,⟨λb o e n F w=>?_,λb o e n F w=>?_,I.base.free,λb o e w=>?_,I.base.tups,I.base.frzs,I.base.tbls⟩,⟨m,hn.sameBut f (u0d (J x c t)),λj y v' g C e3=>?_⟩,λy W e=>?_,I.free,I.freeC,λp hp=>?_,l ⟨oc,T,I.freeC x c t⟩ f,by simpa using I.len⟩ ⟨c,f,.inr t⟩
  .exact(f.2 b (j5 (j3 (t8 e) (I.ok.cab x c G t)))).trans (I.base.keep b o e n F w)
  .obtain⟨sl,g⟩:=I.base.slot b o e n F w
   exact⟨sl,(f.2 b (j5 (j3 (t8 e) (I.ok.cab x c G t)))).trans g⟩
  .obtain⟨o',g⟩:=I.base.there b o e w
   exact⟨o',(f.2 b (j5 (j3 (t8 e) (I.ok.cab x c G t)))).trans g⟩
  .by_cases K:j=i
   .subst K
    rw[O]at g;cases g
    rw[r6 S]at C
    cases C
    exact⟨u,r,.inr ⟨.inl D,c,t,R⟩⟩
   .rw[t3 (u0d K)]at C
    obtain⟨u',r',q⟩:=hl j y v' g C e3
    refine⟨u',r',?_⟩
    rcases q with q | ⟨k,W,e,z'⟩
    .exact .inl q
    .refine .inr ⟨k,W,e,z'.sameBut f ?_⟩
     rintro rfl
     exact K (WG hN g (I.ok.inj _ _ _ e t ▸ O))
  .by_cases L:W=c
   .subst L;exact⟨_,R⟩
   .obtain⟨w2,z2⟩:=I.cell y W e
    exact⟨w2,z2.sameBut f L⟩
  .obtain⟨e,n,Y,nf,d⟩:=I.pin p hp
   refine⟨(f.2 p.1 ?_).trans e,n,Y,nf,d⟩
   intro q
   rw[q,T]at e
   have q':oc=p.2:=o6 e
   exact d U (by rw[<-q'];exact N)
def Y2 {i:Nat}{Q:Unit->Shared->Prop}(I:Inv X pins σ H s)(c:X.N.Nodup)(b:X.N[i]?=some x)(e:Loc X.env.scope x)(r:xW v u)(h:∀ a,Inv X pins (σ.set i (some v)) H a->Q () a)(d:X.fn x=true\/X.env.scope.names.lookup x=some .local:=by first | exact .inl rfl | exact .inr rfl | assumption):wpAny M A (storeName X.env x u) Q E s :=
 zdr I c b e r (λa I' _=>h a I') d
def Inv.call' {s':zi}(I:Inv X pins σ H s)(i:s'.os=s.os)(u:Un (frs X.stack) ch H H' s.heap s'.heap)(d:HOk X.prog X.w H' s'.heap)(j:AllBare s'.gens)(a:∀ b∈ch,(b∈X.ex\/X.s₀.heap.objs.size<=b)/\b≠X.env.locals/\(∀ x c,X.env.cells.lookup x=some c->c≠b)/\∀ p∈X.pn++pins,p.1≠b):Inv X pins σ H' s':=by
 obtain⟨h',g,h,f,k⟩:=s'
 have e:k=s.os:=i
 subst e
 exact I.call (g':=g) (t':=f) (d':=h) u d j a
end
abbrev XK:=Value->xT->Hp->Prop
abbrev St:=List (Option V)
abbrev w6:=St->Hp->Prop
abbrev VK:=V->Hp->Prop
abbrev zbb:=List V->Hp->VK->Prop
abbrev TE:=St->Hp->VK->Prop
abbrev TT:=St->Hp->(Bool->Hp->Prop)->Prop
abbrev TA:=St->Hp->(zz->Hp->Prop)->Prop
structure WO where
 nx:w6
 rt:VK
 bk:w6:=λ_ _=>False
 ct:w6:=λ_ _=>False
abbrev TS:=WO->St->Hp->Prop
def EP (X:Cx)(a:xo)(σ:St)(Q:VK)(u:Value)(b:zi):Prop:=∃ v H',Inv X a σ H' b/\xW v u/\Q v H'
def TP (X:Cx)(a:xo)(σ:St)(Q:Bool->Hp->Prop)(b:Bool)(c:zi):Prop:=∃ H',Inv X a σ H' c/\Q b H'
def AP (X:Cx)(a:xo)(σ:St)(Q:zz->Hp->Prop)(d:zH)(c:zi):Prop:=∃ b H',Inv X a σ H' c/\yU b d/\Q b H'
def SP (X:Cx)(a:xo)(D:WO)(f:Flow)(c:zi):Prop :=
 match f with
 | .next=>∃ b H',Inv X a b H' c/\D.nx b H'
 | .brk=>∃ b H',Inv X a b H' c/\D.bk b H'
 | .cont=>∃ b H',Inv X a b H' c/\D.ct b H'
 | .ret u=>∃ v b H',Inv X a b H' c/\xW v u/\D.rt v H'
def PE (X:Cx)(e:Expr)(t:TE):Prop :=
 ∀ (a:xo) (s:zi) (σ:St) (H:Hp) (Q:VK),Inv X a σ H s->t σ H Q->wpAny (model X.prog X.w) X.A (eval e X.env) (EP X a σ Q) X.xe s
def PT (X:Cx)(e:Expr)(t:TT):Prop :=
 ∀ (a:xo) (s:zi) (σ:St) (H:Hp) (Q:Bool->Hp->Prop),Inv X a σ H s->t σ H Q->wpAny (model X.prog X.w) X.A (isTrue e X.env (eval e X.env)) (TP X a σ Q) X.xe s
def PW (X:Cx)(e:Expr)(t:TT):Prop :=
 ∀ (b:Sem Value) (a:xo) (s:zi) (σ:St) (H:Hp) (Q:Bool->Hp->Prop),Inv X a σ H s->t σ H Q->wpAny (model X.prog X.w) X.A (isTrue e X.env b) (TP X a σ Q) X.xe s
def PW.pt (h:PW X e t):PT X e t:=h _
def PA (X:Cx)(c:yK)(t:TA):Prop :=
 ∀ (b:Pos) (a:xo) (s:zi) (σ:St) (H:Hp) (Q:zz->Hp->Prop),Inv X a σ H s->t σ H Q->wpAny (model X.prog X.w) X.A (spliced (backTo b (starEach c X.env))) (AP X a σ Q) X.xe s
def PS (X:Cx)(b:Stmt)(t:TS):Prop :=
 ∀ (a:xo) (s:zi) (σ:St) (H:Hp) (D:WO),Inv X a σ H s->t D σ H->wpAny (model X.prog X.w) X.A (exec b X.env) (SP X a D) X.xe s
def PSs (X:Cx)(b:v3)(t:TS):Prop :=
 ∀ (a:xo) (s:zi) (σ:St) (H:Hp) (D:WO),Inv X a σ H s->t D σ H->wpAny (model X.prog X.w) X.A (execs b X.env) (SP X a D) X.xe s
def thn {α:Type}{t:Sem α}{Q Q':α->Shared->Prop}(h:wpAny M A t Q E s)(b:∀ a s,Q a s->Q' a s):wpAny M A t Q' E s:=n8 h b λ_ _ x=>x
section
variable {X:Cx}
def zao (i:Nat):TE:=fun σ H Q=>∃ v,σ[i]?=some (some v)/\Q v H
def tC (v:V):TE:=λ_ H Q=>Q v H
def zjq {i:Nat} {g:Pos} (n:X.N[i]?=some x) (o:Vis X.env.scope x) (j:(x == ("__debug__":Str))=false:=by decide) (f:(x == ("__classdict__":Str))=false:=by decide):PE X (.Name x g) (zao i):=by
 intro d s σ H Q I h
 obtain⟨v,e,h⟩:=h
 obtain⟨m,q,t⟩:=I.loc
 obtain⟨u,r,l⟩:=t i x v n e o
 have fin:EP X d σ Q u s:=⟨v,H,I,r,h⟩
 rcases l with ⟨b,p⟩ | ⟨b,c,k,a⟩
 .exact wpAny_Name (wpAny_loadName_local I.ok.kind b q p fin) j
 .rcases b with b | b
  .exact wpAny_Name (wpAny_loadName_cell I.ok.kind b k a fin) j
  .exact wpAny_Name (wpAny_loadName_free I.ok.kind b k a fin f) j
def zf {i j pos}:PE X (.Constant (.int i) j pos) (tC (.int i)):=λ_ _ _ H _ I h=>wpAny_Constant_int ⟨.int i,H,I.tok _,⟨_,rfl⟩,h⟩
def za7 {b j pos}:PE X (.Constant (.bool b) j pos) (tC (.bl b)):=λ_ _ _ H _ I h=>Constant_bool ⟨.bl b,H,I,rfl,h⟩
def wk {j pos}:PE X (.Constant .none j pos) (tC .non):=λ_ _ _ H _ I h=>Constant_none ⟨.non,H,I,rfl,h⟩
def zE {x j pos}:PE X (.Constant (.str x) j pos) (tC (.str x)):=λ_ _ _ H _ I h=>Calls.Constant_str ⟨.str x,H,I.tok _,⟨_,rfl⟩,h⟩
def Gl (X:Cx)(x:Str):Prop:=X.env.kindOf x=some .globalImplicit
def Zf {Q:xa} (I:Inv X a σ H s) (d:Gl X x) (c:X.mg x=some u) (h:Q u s) (e:(x == ("__debug__":Str))=false:=by decide):wpAny (model X.prog X.w) X.A (eval (.Name x b) X.env) Q E s :=
 Calls.Name_function_global I.ok.kind d (Calls.loadGlobal_global (by rw[I.ok.glob];exact I.mod.glob.keeps I.bk) c h) e
def ZG {Q:xa} (I:Inv X a σ H s) (g:Gl X x) (f:X.mg x=none) (e:bootBuiltins x=some u) (h:Q u s) (j:x≠"__name__":=by decide) (i:(x == ("__debug__":Str))=false:=by decide):wpAny (model X.prog X.w) X.A (eval (.Name x b) X.env) Q E s:=by
 obtain⟨k,c,d⟩:=I.mod.blt
 exact Calls.Name_function_global I.ok.kind g (Calls.loadGlobal_builtin (by rw[I.ok.glob];exact I.mod.glob.keeps I.bk) f (by rw[I.ok.blt];exact c.keeps I.bk) ((d x j).trans e) h) i
def xc (c:Gl X x) (b:X.mg x=some u) (r:xW v u) (d:(x == ("__debug__":Str))=false:=by decide):PE X (.Name x a) (tC v) :=
 λ_ _ _ H _ I h=>Zf I c b ⟨v,H,I,r,h⟩ d
def vu (d:Gl X x) (c:X.mg x=none) (b:bootBuiltins x=some u) (r:xW v u) (f:x≠"__name__":=by decide) (e:(x == ("__debug__":Str))=false:=by decide):PE X (.Name x a) (tC v) :=
 λ_ _ _ H _ I h=>ZG I d c b ⟨v,H,I,r,h⟩ f e
variable {a b:Expr}{ta tb:TE}{pos:Pos}
def tB (t:TE):TT:=fun σ H Q=>t σ H λx H1=>∃ c,x=.bl c/\Q c H1
def zfT {e:Expr}(h:PE X e t)(g:∀ a,isTrue e X.env a=(do let v<-a;standAt e.pos;holding [v] (truthy v)):=by intro _;rfl):PT X e (tB t):=by
 intro b s σ H Q I hw
 refine isTrue_plain (thn (h b s σ H _ I hw) λv i hh9=>?_) (g _)
 obtain⟨x,H1,I1,c,f⟩:=hh9
 obtain⟨d,rfl,q⟩:=f
 cases c
 exact l8 ⟨H1,I1,q⟩
variable {tA tB':TT}{rest:yK}
def tAnd (t u:TT):TT:=fun σ H Q=>t σ H λc H1=>if c=true then u σ H1 Q else Q false H1
def tOr (t u:TT):TT:=fun σ H Q=>t σ H λc H1=>if c=true then Q true H1 else u σ H1 Q
def tNot (t:TT):TT:=fun σ H Q=>t σ H λc H1=>Q (!c) H1
def zgk (d:PT X a tA):PW X (.BoolOp .And [a] pos) tA:=by
 intro f b s σ H Q I h
 refine isTrue_and (thn (d b s σ H Q I h) λc g e=>?_)
 cases c with
 | true=>exact isTrue_and_nil e
 | false=>exact e
def zfr (d:PT X a tA):PW X (.BoolOp .Or [a] pos) tA:=by
 intro f b s σ H Q I h
 refine isTrue_or (thn (d b s σ H Q I h) λc g e=>?_)
 cases c with
 | false=>exact isTrue_or_nil e
 | true=>exact e
def ziT (i:PT X a tA)(f:PW X (.BoolOp .And (b::rest) pos) tB'):PW X (.BoolOp .And (a::b::rest) pos) (tAnd tA tB'):=by
 intro g d s σ H Q I h
 refine isTrue_and (thn (i d s σ H _ I h) λc j hh9=>?_)
 obtain⟨H1,I1,e⟩:=hh9
 cases c with
 | true=>exact f g d j σ H1 Q I1 e
 | false=>exact⟨H1,I1,e⟩
def zik (i:PT X a tA)(f:PW X (.BoolOp .Or (b::rest) pos) tB'):PW X (.BoolOp .Or (a::b::rest) pos) (tOr tA tB'):=by
 intro g d s σ H Q I h
 refine isTrue_or (thn (i d s σ H _ I h) λc j hh9=>?_)
 obtain⟨H1,I1,e⟩:=hh9
 cases c with
 | true=>exact⟨H1,I1,e⟩
 | false=>exact f g d j σ H1 Q I1 e
def zfJ (d:PT X a tA):PT X (.UnaryOp .Not a pos) (tNot tA):=by
 intro b s σ H Q I h
 exact isTrue_not (d b s σ H (λc H1=>Q (!c) H1) I h)
def zkb (ta tb:TE):TE:=fun σ H Q=>ta σ H λx H1=>∃ c,x=.bl c/\if c=true then tb σ H1 Q else Q (.bl false) H1
def zjX (ta:TE):TE:=fun σ H Q=>ta σ H λx H1=>∃ c,x=.bl c/\Q (.bl (!c)) H1
def ziC {op}(h:PE X a t):PE X (.BoolOp op [a] pos) t:=λb s σ H Q I hw=>BoolOp_one (h b s σ H Q I hw)
def zjp (j:PE X a ta)(g:PE X (.BoolOp .And (b::rest) pos) tb):PE X (.BoolOp .And (a::b::rest) pos) (zkb ta tb):=by
 intro d s σ H Q I h
 refine BoolOp_and (thn (j d s σ H _ I h) λv i hh9=>?_)
 obtain⟨x,H1,I1,f,e⟩:=hh9
 obtain⟨c,rfl,e⟩:=e
 cases f
 refine l8 ?_
 cases c with
 | true=>exact g d i σ H1 Q I1 e
 | false=>exact⟨.bl false,H1,I1,rfl,e⟩
def zja (f:PE X a ta):PE X (.UnaryOp .Not a pos) (zjX ta):=by
 intro b s σ H Q I h
 refine UnaryOp_ (thn (f b s σ H _ I h) λv g hh9=>?_)
 obtain⟨x,H1,I1,e,d⟩:=hh9
 obtain⟨c,rfl,d⟩:=d
 cases e
 exact not_of (l8 ⟨.bl (!c),H1,I1,rfl,d⟩)
def tIf (t:TT)(ta tb:TE):TE:=fun σ H Q=>t σ H λc H1=>if c=true then ta σ H1 Q else tb σ H1 Q
def ze1 (k:PT X c tA)(j:PE X a ta)(i:PE X b tb):PE X (.IfExp c a b pos) (tIf tA ta tb):=by
 intro e s σ H Q I h
 refine wpAny_IfExp (thn (k e s σ H _ I h) λd f hh9=>?_)
 obtain⟨H1,I1,g⟩:=hh9
 cases d with
 | true=>exact j e f σ H1 Q I1 g
 | false=>exact i e f σ H1 Q I1 g
end
def SqL (K:zu)(H:Hp)(a:Addr)(c:zz):Prop :=
 Rd H a (.lst c) \/
  ∃ (o:Obj) (b:vC) (n:Nat),K.lookup a=some o/\o.cls=.type "list"/\o.dict=none/\o.data=.seq b n/\b.size<=sizeLine/\yU c b.toList
def SqT (K:zu)(H:Hp)(a:Addr)(c:zz):Prop :=
 Rd H a (.tup c) \/
  ∃ (o:Obj) (b:vC) (n:Nat),K.lookup a=some o/\o.cls=.type "tuple"/\o.data=.seq b n/\b.size<=sizeLine/\yU c b.toList
def absV:Value->Option V
 | .none=>some .non
 | .bool b=>some (.bl b)
 | .int i _=>some (.int i)
 | .str x _=>some (.str x)
 | .bytes b _=>some (.byt b)
 | .float b _=>some (.flt b)
 | .ref a=>some (.ref a)
 | .type n=>some (.ty n)
 | _=>none
def xW.abs (r:xW x u):absV u=some x:=by
 cases x with
 | non=>cases r;rfl
 | bl _=>cases r;rfl
 | int _=>obtain⟨t,rfl⟩:=r;rfl
 | str _=>obtain⟨t,rfl⟩:=r;rfl
 | byt _=>obtain⟨t,rfl⟩:=r;rfl
 | flt _=>obtain⟨t,rfl⟩:=r;rfl
 | ref _=>cases r;rfl
 | ty _=>cases r;rfl
def xW.inj (r:xW x u)(q:xW y u):x=y:=o6 (r.abs.symm.trans q.abs)
def yU.inj:∀ {b a:zz} {d:zH},yU b d->yU a d->b=a:=by
 intro b a d h
 induction h generalizing a with
 | nil=>intro c;cases c;rfl
 | cons r t e=>intro c;cases c with | cons f g=>rw[r.inj f,e g]
section
variable {X:Cx}{pins:xo}{σ:St}{H:Hp}{s:zi}{a:Addr}{xs ys:zz}
def SqL.of {K:zu}(h:H a=some (.lst xs)):SqL K H a xs:=.inl (.inl h)
def SqT.of {K:zu}(h:H a=some (.tup xs)):SqT K H a xs:=.inl (.inl h)
def Inv.list (I:Inv X pins σ H s)(h:SqL X.K H a xs):∃ b:zH,yU xs b/\PlainL s.heap a b.toArray/\xs.length<=sizeLine:=by
 rcases h with h | ⟨o,b,n,f,g,d,c,i,r⟩
 .obtain⟨z,b,n,r,e⟩:=h.ok I.hok
  exact⟨b,r,⟨_,n,e,rfl,rfl,rfl⟩,z⟩
 .refine⟨b.toList,r,⟨o,n,I.kIn a o f,g,d,by simpa using c⟩,?_⟩
  have e:=r.length
  simp only[h8]at e
  omega
def Inv.tuple (I:Inv X pins σ H s)(h:SqT X.K H a xs):∃ b:zH,yU xs b/\IsTup s.heap a b.toArray/\xs.length<=sizeLine:=by
 rcases h with h | ⟨o,b,n,d,f,c,g,r⟩
 .obtain⟨z,b,r,p⟩:=h.ok I.hok
  exact⟨b,r,p,z⟩
 .refine⟨b.toList,r,⟨o,I.kIn a o d,f,n,by simpa using c⟩,?_⟩
  have e:=r.length
  simp only[h8]at e
  omega
def Inv.list_inj (I:Inv X pins σ H s)(h:SqL X.K H a xs)(j:SqL X.K H a ys):xs=ys:=by
 obtain⟨c,r,⟨o,n,e,_,_,d⟩,_⟩:=I.list h
 obtain⟨b,i,⟨l,k,f,_,_,g⟩,_⟩:=I.list j
 rw[e]at f;cases f
 rw[d]at g
 injection g with d1 _
 have:c=b:=by simpa using i3 Array.toList d1
 subst this
 exact r.inj i
def Inv.tuple_inj (I:Inv X pins σ H s)(h:SqT X.K H a xs)(j:SqT X.K H a ys):xs=ys:=by
 obtain⟨c,r,⟨o,e,_,n,d⟩,_⟩:=I.tuple h
 obtain⟨b,i,⟨l,f,_,k,g⟩,_⟩:=I.tuple j
 rw[e]at f;cases f
 rw[d]at g
 injection g with d1 _
 have:c=b:=by simpa using i3 Array.toList d1
 subst this
 exact r.inj i
end
abbrev Cx.wish (X:Cx)(E:xa):Cx:={ X with xe:=E }
abbrev Cx.nox (X:Cx):Cx:=X.wish λ_ _=>False
def Cx.Ok.wish {X:Cx}(ok:X.Ok)(E:xa):(X.wish E).Ok :=
 ⟨ok.mod,ok.kind,ok.glob,ok.blt,ok.above,ok.inj,ok.has,ok.cab,ok.hd,ok.frames,ok.stk,ok.exf,ok.bs,ok.bsz,ok.noex,ok.exfs,ok.funs,ok.frf⟩
def Cx.Ok.unwish {X:Cx}(ok:(X.wish E).Ok):X.Ok :=
 ⟨ok.mod,ok.kind,ok.glob,ok.blt,ok.above,ok.inj,ok.has,ok.cab,ok.hd,ok.frames,ok.stk,ok.exf,ok.bs,ok.bsz,ok.noex,ok.exfs,ok.funs,ok.frf⟩
section
variable {X:Cx}{pins:xo}{σ:St}{H:Hp}{s:zi}{E:xa}
def Inv.wish (I:Inv X pins σ H s)(E:xa):Inv (X.wish E) pins σ H s:=⟨I.ok.wish E,I.os,I.bare,I.base,I.loc,I.cell,I.free,I.freeC,I.pin,I.hok,I.len⟩
def Inv.unwish (I:Inv (X.wish E) pins σ H s):Inv X pins σ H s:=⟨I.ok.unwish,I.os,I.bare,I.base,I.loc,I.cell,I.free,I.freeC,I.pin,I.hok,I.len⟩
def SP.unwish {D:WO}{f:Flow}(h:SP (X.wish E) pins D f b):SP X pins D f b:=by
 cases f with
 | next=>obtain⟨a,H',I,q⟩:=h;exact⟨a,H',I.unwish,q⟩
 | brk=>obtain⟨a,H',I,q⟩:=h;exact⟨a,H',I.unwish,q⟩
 | cont=>obtain⟨a,H',I,q⟩:=h;exact⟨a,H',I.unwish,q⟩
 | ret u=>obtain⟨v,a,H',I,r,q⟩:=h;exact⟨v,a,H',I.unwish,r,q⟩
def PSs.nox (h:PSs X.nox a t):PSs X a t:=λpins s σ H D I hw =>
 n8 (h pins s σ H D (I.wish _) hw) (λ_ _ q=>q.unwish) λ_ _ z=>False.elim z
end
section
variable {X:Cx}{st:Stmt}{rest:v3}{t u:TS}{e:Expr}{te:TE}{pos:Pos}
def zf4:TS:=λD σ H=>D.nx σ H
def zhy (t u:TS):TS:=λD σ H=>t { D with nx:=u D } σ H
def zaq:PSs X [] zf4:=λ_ _ σ H _ I h=>u1A ⟨σ,H,I,h⟩
def wr (b:PS X st t)(e:PSs X rest u):PSs X (st::rest) (zhy t u):=by
 intro a s σ H D I h
 refine u1j (thn (b a s σ H { D with nx:=u D } I h) λf d q=>?_)
 cases f with
 | next =>
  obtain⟨c,H',I',q⟩:=q
  exact e a d c H' D I' q
 | ret v=>exact q
 | brk=>exact q
 | cont=>exact q
def Yz (b:PS X st t):PSs X [st] t:=by
 intro a s σ H D I h
 refine u1j (thn (b a s σ H D I h) λf c q=>?_)
 cases f with
 | next=>exact u1A q
 | ret v=>exact q
 | brk=>exact q
 | cont=>exact q
def Inv.quiet (I:Inv X a σ H s):interactive X.env=false:=by simp[interactive,I.ok.kind]
def zkg (te:TE):TS:=λD σ H=>te σ H λ_ H1=>D.nx σ H1
def zf8 (c:PE X e te)(b:swapsWith e none pos.line X.env=pure false:=by rfl):PS X (.Expr e pos) (zkg te):=by
 intro a s σ H D I h
 exact wpAny_Expr_any (thn (c a s σ H _ I h) λv g ⟨x,H1,I1,f,d⟩=>⟨σ,H1,I1,d⟩) I.quiet b
def zjZ (te:TE):TS:=λD σ H=>te σ H D.rt
def Va (c:PE X e te):PS X (.Return (some e) pos) (zjZ te):=by
 intro a s σ H D I h
 exact wpAny_Return_some (thn (c a s σ H _ I h) λv f ⟨x,H1,I1,b,d⟩=>⟨x,σ,H1,I1,b,d⟩)
def zj7 (c:TT)(t u:TS):TS:=λD σ H=>c σ H λb H1=>if b=true then t D σ H1 else u D σ H1
def zeM (l:PT X c i)(k:PSs X a t)(j:PSs X b u):PS X (.If c a b pos) (zj7 i t u):=by
 intro e s σ H D I h
 refine wpAny_If (thn (l e s σ H _ I h) λd f hh9=>?_)
 obtain⟨H1,I1,g⟩:=hh9
 cases d with
 | true=>exact k e f σ H1 D I1 g
 | false=>exact j e f σ H1 D I1 g
def zi8:TS:=λ_ _ _=>False
def zaP:PS X st zi8:=λ_ _ _ _ _ _ h=>h.elim
end
abbrev TG:=V->St->Hp->w6->Prop
abbrev TGs:=zz->St->Hp->w6->Prop
def PG (X:Cx)(a:Expr)(t:TG):Prop :=
 ∀ (b:xo) (s:zi) (σ:St) (H:Hp) (v:V) (u:Value) (Q:w6),Inv X b σ H s->xW v u->t v σ H Q ->
  wpAny (model X.prog X.w) X.A (assign a X.env u) (λ_ d=>∃ c H',Inv X b c H' d/\Q c H') X.xe s
def PGs (X:Cx)(f:yK)(t:TGs):Prop :=
 ∀ (a:xo) (s:zi) (σ:St) (H:Hp) (d:zz) (c:zH) (Q:w6),Inv X a σ H s->yU d c->t d σ H Q ->
  wpAny (model X.prog X.w) X.A (assignInOrder ((assignEach f X.env).map (·.2)) c) (λ_ e=>∃ b H',Inv X a b H' e/\Q b H') X.xe s
section
variable {X:Cx}{pos:Pos}
def vN (i:Nat):TG:=λv σ H Q=>Q (σ.set i (some v)) H
def yx {i:Nat}(b:X.N.Nodup)(d:X.N[i]?=some x)(c:Loc X.env.scope x)(e:X.fn x=true\/X.env.scope.names.lookup x=some .local:=by first | exact .inl rfl | exact .inr rfl | assumption):PG X (.Name x pos) (vN i):=by
 intro a s σ H v u Q I r h
 exact wpAny_assign_Name (Y2 I b d c r (λf I'=>⟨_,H,I',h⟩) e)
def zjB:TGs:=λa σ H Q=>a=[]/\Q σ H
def zab (t:TG)(u:TGs):TGs:=λb σ H Q=>∃ v r,b=v::r/\t v σ H λa H'=>u r a H' Q
def zcI:PGs X [] zjB:=by
 intro a s σ H c b Q I r h
 obtain⟨e,h⟩:=h
 subst e
 cases r
 exact assignInOrder_nil ⟨σ,H,I,h⟩
def X4 (c:PG X e t)(j:PGs X b u)(d:(assignEach (e::b) X.env).map (·.2)=assign e X.env::(assignEach b X.env).map (·.2):=by rfl):PGs X (e::b) (zab t u):=by
 intro a s σ H o n Q I r h
 obtain⟨v,m,k,h⟩:=h
 subst k
 cases r with
 | cons r f =>
  rw[d]
  refine assignInOrder_cons (thn (c a s σ H _ _ _ I r h) λ_ g hh9=>?_)
  obtain⟨l,H1,I1,i⟩:=hh9
  exact j a g l H1 _ _ Q I1 f i
def zjD (K:zu)(n:Nat)(t:TGs):TG:=λv σ H Q=>∃ a b,v=.ref a/\SqT K H a b/\b.length=n/\t b σ H Q
def zfO {n:Nat}(z:X.calm=true)(h:PGs X d t)(w:(assignEach d X.env).length=n:=by rfl)(f:(assignEach d X.env).findIdx? (·.1)=none:=by rfl):PG X (.Tuple d k pos) (zjD X.K n t):=by
 intro c s σ H v u Q I r hw
 obtain⟨a,q,m,j,x,hw⟩:=hw
 subst m
 cases r
 obtain⟨y,g,p,A⟩:=I.tuple j
 refine assign_Tuple_tuple (I.ok.hd z) p (by simp[w,<- x,g.length]) f λl i=>?_
 have I1:Inv X c σ H { s with heap:=l }:=I.kept (t':=s.toks) λb o e=>i b o (j5 (t8 e)) e
 exact h c _ σ H q _ Q I1 (by simpa using g) hw
def zgr (a:TE)(g:TG):TS:=λD σ H=>a σ H λx H1=>g x σ H1 D.nx
def Xe {i:Nat}(g:X.N.Nodup)(l:X.N[i]?=some x)(k:Loc X.env.scope x)(n:PE X e c)(f:swapsWith e (some (.Name x a)) pos.line X.env=pure false:=by rfl)(m:X.fn x=true\/X.env.scope.names.lookup x=some .local:=by first | exact .inl rfl | exact .inr rfl | assumption) :
 PS X (.Assign [.Name x a] e pos) (zgr c (vN i)):=by
 intro b s σ H D I h
 refine u1Y (thn (n b s σ H _ I h) λv o hh9=>?_) f
 obtain⟨y,H1,I1,d,j⟩:=hh9
 exact Y2 I1 g l k d (λp I2=>⟨_,H1,I2,j⟩) m
end
structure It where
 go:Nat->Hp->Prop
 yld:Nat->Hp->V->Hp->Prop
 stop:Nat->Hp->Prop
def VZ (X:Cx)(a:xo)(H:Hp)(b:Addr):Prop :=
 H b=none/\b≠X.env.locals/\b∉X.fs/\(b∈X.ex\/X.s₀.heap.objs.size<=b)/\(∀ x c,X.env.cells.lookup x=some c->c≠b)/\∀ p∈X.pn++a,p.1≠b
def Inv.fpOk {H':Hp}{s:zi}(I:Inv X a σ H s)(d:s.heap.objs.size<=b)(f:H' b=none):VZ X a H' b:=by
 refine⟨f,u0h (j3 I.lt d),I.nofs d,.inr (k9 I.sz d),λx c e z=>?_,λp hp z=>?_⟩
 .obtain⟨v,q⟩:=I.cell x c e
  exact absurd (j3 q.lt (by rw[z];exact d)) (u0g _)
 .exact absurd (j3 (t8 (I.pin p hp).1) (by rw[z];exact d)) (u0g _)
structure zeJ (P:zX) (w:World) (K:zu) (tg:Expr) (J:It) (fp:xw) (it:Addr) (tn:Nat->Heap->Prop):Prop where
 mem:it∈fp
 obj:∀ i h,tn i h->∀ b∈fp,∃ o,h.get? b=some o/\∀ v,o.data≠.cell v
 keep:∀ i h h',tn i h->(∀ b∈fp,∀ o,h.get? b=some o->h'.get? b=some o)->tn i h'
 item:∀ (X:Cx),X.prog=P->X.w=w->X.K=K->X.calm=true->∀ (i:Nat) (pins:xo) (s:zi) (σ:St) (H:Hp) (E:xa),Inv X pins σ H s->(∀ b∈fp,VZ X pins H b)->tn i s.heap->J.go i H ->
  wpAny (model P w) X.A (pyNext (.ref it)) (λr s1=>∃ u,r=some u /\
   wpAny (model P w) X.A (letOwnedTupleGo tg (.ref it) u) (λ_ s2=>∃ x H',Inv X pins σ H' s2/\xW x u/\J.yld i H x H'/\tn (i+1) s2.heap/\∀ b∈fp,H' b=none) E s1) E s
 done:∀ (X:Cx),X.prog=P->X.w=w->X.K=K->X.calm=true->∀ (i:Nat) (pins:xo) (s:zi) (σ:St) (H:Hp) (E:xa),Inv X pins σ H s->(∀ b∈fp,VZ X pins H b)->tn i s.heap->J.stop i H ->
  wpAny (model P w) X.A (pyNext (.ref it)) (λr s1=>r=none/\Inv X pins σ H s1) E s
 self:∀ (A:z5) (i:Nat) (s:zi) (Q:xa) (E:xa),tn i s.heap->Q (.ref it) s->wpAny (model P w) A (pyIter (.ref it)) Q E s
abbrev TI:=St->Hp->(It->Hp->Prop)->Prop
def PIE (X:Cx)(a:xo)(σ:St)(h:Expr)(R:It->Hp->Prop)(c:Value)(d:zi):Prop :=
 ∃ (e:Addr) (g:xw) (f:Nat->Heap->Prop) (J:It) (H':Hp),c=.ref e/\Inv X a σ H' d/\zeJ X.prog X.w X.K h J g e f/\f 0 d.heap/\(∀ b∈g,VZ X a H' b)/\R J H'
def PI (X:Cx)(c b:Expr)(e:TI):Prop :=
 ∀ (a:xo) (s:zi) (σ:St) (H:Hp) (R:It->Hp->Prop),Inv X a σ H s->e σ H R ->
  wpAny (model X.prog X.w) X.A (eval b X.env) (λv d=>wpAny (model X.prog X.w) X.A (pyIter v) (PIE X a σ c R) X.xe d) X.xe s
theorem zef {s:zi} {o:Obj} {Q:Unit→Shared→Prop} (ho:s.heap.get? it=some o) (hc:o.cls=.type n) (hd:o.data=.fields vs) (hn:["enumerate","zip","dict_itemiterator","dict_reverseitemiterator","odict_iterator","itertools.zip_longest","itertools.pairwise"].contains n=false) (hQ:Q () s):wpAny M A (letOwnedTupleGo tg (.ref it) u) Q E s:=by
  unfold letOwnedTupleGo
  cases tg <;> first
    | exact t9 hQ
    | (cases u <;> first
        | exact t9 hQ
        | (refine u5 (wpAny_load ho ?_)
           rw [hc,hd]
           show wpAny M A (if (["enumerate","zip","dict_itemiterator","dict_reverseitemiterator","odict_iterator","itertools.zip_longest","itertools.pairwise"].contains n&&vs[0]? == some (rawInt _))=true then _ else _) Q E s
           rw [j6 (by intro h;rw [hn,u1N] at h;cases h)]
           exact t9 hQ))
def Itl (K:zu)(a:Addr):It :=
 ⟨λi H=>∃ b x,SqL K H a b/\b[i]?=some x,λi H x H'=>H'=H/\∀ b,SqL K H a b->b[i]?=some x,λi H=>∃ b,SqL K H a b/\b.length<=i⟩
def Itt (K:zu)(a:Addr):It :=
 ⟨λi H=>∃ b x,SqT K H a b/\b[i]?=some x,λi H x H'=>H'=H/\∀ b,SqT K H a b->b[i]?=some x,λi H=>∃ b,SqT K H a b/\b.length<=i⟩
def Itr (a:Int)(n:Nat):It:=⟨λi _=>i<n,λi H x H'=>H'=H/\x=.int (a+i),λi _=>n<=i⟩
def zcS {P:zX}{w:World}{K:zu}{tg:Expr}(a it:Addr):zeJ P w K tg (Itl K a) [it] it (λi h=>h.IsListIter it a i) where
 mem:=by simp
 obj:=λi h st b hb=>by
  have e:b=it:=by simpa using hb
  subst e
  obtain⟨o,e,c,d⟩:=st
  exact⟨o,e,λv z=>by rw[d]at z;cases z⟩
 keep:=λi h h' st k=>st.at λo e=>k it (by simp) o e
 item:=by
  intro X hP hw hK hc i pins s σ H E I hf st hg
  subst hP hw hK
  obtain⟨xs,x,hq,hx⟩:=hg
  obtain⟨its,rv,p,hz⟩:=I.list hq
  obtain⟨u,hu,ru⟩:=rv.get hx
  obtain⟨f0,f1,f2,f3,f4,f5⟩:=hf it (by simp)
  refine wpAny_pyNext_list_item st p.isList (x:=u) (by simpa using hu) λh' st' sb=>?_
  have I1:Inv X pins σ H { s with heap:=h' }:=I.turned (t':=s.toks) (λb o hb e=>(sb.2 b hb).trans e) f0 f1 f3 f4 f5
  obtain⟨o,e,c,d⟩:=id st'
  exact⟨u,rfl,zef (s:={ s with heap:=h' }) e c d (by decide) ⟨x,H,I1,ru,⟨rfl,λys hy=>by rw[I.list_inj hy hq];exact hx⟩,st',λb hb=>(hf b hb).1⟩⟩
 done:=by
  intro X hP hw hK hc i pins s σ H E I hf st hg
  subst hP hw hK
  obtain⟨xs,hq,hx⟩:=hg
  obtain⟨its,rv,p,hz⟩:=I.list hq
  obtain⟨f0,f1,f2,f3,f4,f5⟩:=hf it (by simp)
  have hl:=rv.length
  exact wpAny_pyNext_list_end (I.ok.hd hc) st p.isList (by simp;omega) λh' eb=>⟨rfl,I.turned (t':=s.toks) (λb o hb e=>eb b o hb e) f0 f1 f3 f4 f5⟩
 self:=λ_ _ _ _ _ st h=>wpAny_pyIter_listiter st h
def zbD {P:zX}{w:World}{K:zu}{tg:Expr}(a it:Addr):zeJ P w K tg (Itt K a) [it] it (λi h=>h.IsTupleIter it a i) where
 mem:=by simp
 obj:=λi h st b hb=>by
  have e:b=it:=by simpa using hb
  subst e
  obtain⟨o,e,c,d⟩:=st
  exact⟨o,e,λv z=>by rw[d]at z;cases z⟩
 keep:=λi h h' st k=>st.at λo e=>k it (by simp) o e
 item:=by
  intro X hP hw hK hc i pins s σ H E I hf st hg
  subst hP hw hK
  obtain⟨xs,x,hq,hx⟩:=hg
  obtain⟨its,rv,p,hz⟩:=I.tuple hq
  obtain⟨u,hu,ru⟩:=rv.get hx
  obtain⟨f0,f1,f2,f3,f4,f5⟩:=hf it (by simp)
  refine wpAny_pyNext_tuple_item st (show s.heap.IsTuple a its.toArray from p) (x:=u) (by simpa using hu) λh' st' sb=>?_
  have I1:Inv X pins σ H { s with heap:=h' }:=I.turned (t':=s.toks) (λb o hb e=>(sb.2 b hb).trans e) f0 f1 f3 f4 f5
  obtain⟨o,e,c,d⟩:=id st'
  exact⟨u,rfl,zef (s:={ s with heap:=h' }) e c d (by decide) ⟨x,H,I1,ru,⟨rfl,λys hy=>by rw[I.tuple_inj hy hq];exact hx⟩,st',λb hb=>(hf b hb).1⟩⟩
 done:=by
  intro X hP hw hK hc i pins s σ H E I hf st hg
  subst hP hw hK
  obtain⟨xs,hq,hx⟩:=hg
  obtain⟨its,rv,p,hz⟩:=I.tuple hq
  obtain⟨f0,f1,f2,f3,f4,f5⟩:=hf it (by simp)
  have hl:=rv.length
  exact wpAny_pyNext_tuple_end (I.ok.hd hc) st (show s.heap.IsTuple a its.toArray from p) (by simp;omega) λh' eb=>⟨rfl,I.turned (t':=s.toks) (λb o hb e=>eb b o hb e) f0 f1 f3 f4 f5⟩
 self:=λ_ _ _ _ _ st h=>wpAny_pyIter_tupleiter st h
def zbn {P:zX}{w:World}{K:zu}{tg:Expr}(it:Addr)(lo:Int)(n:Nat):zeJ P w K tg (Itr lo n) [it] it (λi h=>IsRangeIter h it (lo+(i:Nat)*1) ((n:Int)-(i:Nat)) 1) where
 mem:=by simp
 obj:=λi h st b hb=>by
  have e:b=it:=by simpa using hb
  subst e
  exact⟨_,st,λv z=>by
   have z':Data.fields _=Data.cell v:=z
   cases z'⟩
 keep:=λi h h' st k=>k it (by simp) _ st
 item:=by
  intro X hP hw hK hc i pins s σ H E I hf st hg
  subst hP hw hK
  obtain⟨f0,f1,f2,f3,f4,f5⟩:=hf it (by simp)
  have W:=Walks.range (prog:=X.prog) (w:=X.w) (I.ok.hd hc) it lo 1 n
  refine W.item i s _ _ hg st λv h' tk hv st' kk=>?_
  obtain⟨t,rfl⟩:=hv
  have I1:Inv X pins σ H { s with heap:=h',toks:=tk }:=I.turned (λb o hb e=>kk b o (by simpa using hb) e) f0 f1 f3 f4 f5
  refine⟨_,rfl,zef (s:={ s with heap:=h',toks:=tk }) (n:="range_iterator") st' rfl rfl (by decide) ⟨.int (lo+i),H,I1,⟨t,?_⟩,⟨rfl,rfl⟩,st',λb hb=>(hf b hb).1⟩⟩
  rw[Int.mul_one]
 done:=by
  intro X hP hw hK hc i pins s σ H E I hf st hg
  subst hP hw hK
  obtain⟨f0,f1,f2,f3,f4,f5⟩:=hf it (by simp)
  exact wpAny_pyNext_range_end (I.ok.hd hc) st (by have:n<=i:=hg;omega) λh' eb=>⟨rfl,I.turned (t':=s.toks) (λb o hb e=>eb b o hb e) f0 f1 f3 f4 f5⟩
 self:=λ_ _ _ _ _ st h=>wpAny_pyIter_rangeiter st h
section
variable {X:Cx}{tg:Expr}
def zaS {s:zi} {R:It->Hp->Prop} {a c:Int} {f:Nat} (I:Inv X d σ H s) (g:-(2^62)<=a) (j:a<2^62) (i:-(2^62)<=c) (k:c<2^62) (q:R (Itr a (c-a).toNat) H):wpAny (model X.prog X.w) X.A (pyIter (.ref s.heap.objs.size)) (PIE X d σ tg R) E { s with heap:=s.heap.push { cls:=.type "range",data:=.fields #[.int a t,.int c u,.int 1 v] },toks:=f }:=by
 refine wpAny_pyIter_range (IsRange.new ..) (small_one g j i k) ?_
 have I1:Inv X d σ H { s with heap:=s.heap.push { cls:=.type "range",data:=.fields #[.int a t,.int c u,.int 1 v] },toks:=f }:=I.kept λb o e=>u6 _ e
 refine⟨(s.heap.push { cls:=.type "range",data:=.fields #[.int a t,.int c u,.int 1 v] }).objs.size,[(s.heap.push { cls:=.type "range",data:=.fields #[.int a t,.int c u,.int 1 v] }).objs.size],_,_,H,rfl,
  I1.kept (t':=f) λb o e=>u6 _ e,zbn _ a (c-a).toNat,?_,λb h=>?_,q⟩
 .have l:a+((0:Nat):Int)*1=a:=by simp
  have m:(((c-a).toNat:Nat):Int)-((0:Nat):Int)=Builtin.Range.rangeSize a c 1:=by rw[rangeSize_one];split <;> omega
  show IsRangeIter _ _ (a+((0:Nat):Int)*1) ((((c-a).toNat:Nat):Int)-((0:Nat):Int)) 1
  rw[l,m]
  exact j4 _ rfl
 .have e:b=(s.heap.push { cls:=.type "range",data:=.fields #[.int a t,.int c u,.int 1 v] }).objs.size:=by simpa using h
  subst e
  exact I1.fpOk (t7 _) (I1.hok.fresh (t7 _))
def zjJ (a:TA):TI:=fun σ H R=>a σ H λb H1=>∃ j:Int,b=[.int j]/\-(2^62)<=j/\j<2^62/\R (Itr 0 j.toNat) H1
def zjK (a:TA):TI:=fun σ H R=>a σ H λb H1=>∃ i j:Int,b=[.int i,.int j]/\(-(2^62)<=i/\i<2^62/\-(2^62)<=j/\j<2^62)/\R (Itr i (j-i).toNat) H1
def zbU {f:TA} (o:Gl X "range") (n:X.mg "range"=none) (m:PA X [a] f) (i:starEach [a] X.env=[(false,eval a X.env)]:=by rfl):PI X tg (.Call (.Name "range" p) [a] [] b) (zjJ f):=by
 intro c s σ H R I h
 refine Call_ (ZG I o n boot_range (s0 (thn (m b c s σ H _ I h) λv u hh9=>?_) i rfl))
 obtain⟨w,H1,I1,g,d⟩:=hh9
 obtain⟨j,e,d,k,q⟩:=d
 subst e
 cases g with
 | cons r l =>
  cases l
  obtain⟨t,rfl⟩:=r
  exact call_range_1 (zaS I1 (by omega) (by omega) d k (by simpa using q))
def zb4 (z:Gl X "range") (y:X.mg "range"=none) (u:PA X [a,b] l) (w:starEach [a,b] X.env=[(false,eval a X.env),(false,eval b X.env)]:=by rfl) (d:starEach [b] X.env=[(false,eval b X.env)]:=by rfl) :
 PI X tg (.Call (.Name "range" p) [a,b] [] c) (zjK l):=by
 intro f s σ H R I h
 refine Call_ (ZG I z y boot_range (s0 (thn (u c f s σ H _ I h) λD A hh9=>?_) (by rw[w,d]) (by rw[d];rfl)))
 obtain⟨C,H1,I1,m,k⟩:=hh9
 obtain⟨i,j,e,⟨k,n,v,x⟩,q⟩:=k
 subst e
 cases m with
 | cons r g =>
  cases g with
  | cons o g =>
   cases g
   obtain⟨t,rfl⟩:=r
   obtain⟨B,rfl⟩:=o
   exact call_range_2 (zaS I1 k n v x q)
def tFor (d:TI)(g:TG)(e:TS):TS:=λD σ H=>d σ H λJ H1=>∃ W:Nat->Nat->St->Hp->Prop,(∃ m,W 0 m σ H1)/\∀ i m σ H,W i m σ H ->
 (J.stop i H/\D.nx σ H)\/(J.go i H/\∃ N:w6,(∀ a H',N a H'->∃ b,b<m/\W (i+1) b a H')/\∀ x H',J.yld i H x H'->g x σ H' λc H2=>e { D with nx:=N,ct:=N,bk:=D.nx } c H2)
def XJ (a:xw)(h:Heap):xo:=a.filterMap λb=>(h.get? b).map λo=>(b,o)
def w8 {h:Heap}(c:b∈a)(e:h.get? b=some o):(b,o)∈XJ a h:=u0S.mpr ⟨b,c,by rw[e];rfl⟩
def zbQ {h:Heap}(hp:p∈XJ a h):p.1∈a/\h.get? p.1=some p.2:=by
 obtain⟨b,c,e⟩:=u0S.mp hp
 cases q:h.get? b with
 | none=>rw[q]at e;cases e
 | some o =>
  rw[q]at e
  have d:(b,o)=p:=o6 e
  subst d
  exact⟨c,q⟩
def Inv.pinned {s:zi}(I:Inv X a σ H s)(k:∀ b∈fp,VZ X a H b)(h:∀ b∈fp,∃ o,s.heap.get? b=some o/\∀ v,o.data≠.cell v):Inv X (a++XJ fp s.heap) σ H s :=
 I.pins_of λp hp=>(k6.mp hp).elim (λz=>I.pin p (j9 _ z)) λz=>by
  obtain⟨c,e⟩:=zbQ z
  obtain⟨j,g,i,_⟩:=k p.1 c
  obtain⟨o,f,d⟩:=h p.1 c
  rw[e]at f;cases f
  exact⟨e,j,g,i,d⟩
def Inv.unpinned (I:Inv X (a++b) σ H s):Inv X a σ H s:=I.pins_of λp hp=>I.pin p (j9 _ (u0I _ hp))
def zcQ {g:TG}(hp:PassesOwn (model X.prog X.w) X.A X.env X.xe)(S:X.calm=true)(hi:PI X tg j Q)(hg:PG X tg g)(c:PSs X p P)(hs:∀ x,foldedSetIterable j X.env x=pure x:=by intro _;rfl):PS X (.For tg j p [] G) (tFor Q g P):=by
 intro a s σ H D I h
 refine wpAny_For (thn (hi a s σ H _ I h) λv s1 h1=>thn h1 λa0 s2 h2=>?_) hs
 obtain⟨it,E,R,J,H2,e,I2,T,L,Z,W,⟨m0,w0⟩,turn⟩:=h2
 subst e
 -- what stays true of the iterator's objects through the loop
 have l:∀ {H':Hp},(∀ b∈E,H' b=none)->∀ b∈E,VZ X a H' b:=λhn b c=>⟨hn b c,(Z b c).2⟩
 refine codeAny_forLoop_any (λn V=>∃ i F H',Inv X a F H' V/\R i V.heap/\(∀ b∈E,H' b=none)/\W i n F H') ?_ m0 ⟨0,σ,H2,I2,L,λb c=>(Z b c).1,w0⟩
 rintro n U ⟨i,y,H3,I3,z,C,w3⟩
 rcases turn i n y H3 w3 with ⟨A,qn⟩ | ⟨go,N,hN,B⟩
 .refine u0X hp (thn (T.done X rfl rfl rfl S i a U y H3 X.xe I3 (l C) z A) λr s4 hh9=>?_)
  obtain⟨O,I4⟩:=hh9
  subst O
  exact u1A ⟨y,H3,I4,qn⟩
 .refine u0X hp (thn (T.item X rfl rfl rfl S i a U y H3 X.xe I3 (l C) z go) λr s4 hh9=>?_)
  obtain⟨u,O,h4⟩:=hh9
  subst O
  refine u0X hp (thn h4 λ_ Y hh9=>?_)
  obtain⟨x,H5,I5,r5,y5,t,M⟩:=hh9
  have I5':=I5.pinned (l M) (T.obj _ _ t)
  refine u0X hp (thn (hg _ Y y H5 x u _ I5' r5 (B x H5 y5)) λ_ s6 hh9=>?_)
  obtain⟨σ6,H6,I6,q6⟩:=hh9
  refine u0X hp (thn (c _ s6 σ6 H6 _ I6 q6) λf K q=>?_)
  have again:∀ {k:St} {H7:Hp},Inv X (a++XJ E Y.heap) k H7 K->N k H7->∃ m,m<n/\∃ i F H',Inv X a F H' K/\R i K.heap/\(∀ b∈E,H' b=none)/\W i m F H':=λ{k H7} I7 w=>by
   obtain⟨m',hm,w7⟩:=hN k H7 w
   refine⟨m',hm,i+1,k,H7,I7.unpinned,T.keep _ _ _ t λb c o e=>(I7.pin (b,o) (j9 _ (j9 _ (w8 c e)))).1,λb c=>?_,w7⟩
   obtain⟨o,e,d⟩:=T.obj _ _ t b c
   exact(I7.pin (b,o) (j9 _ (j9 _ (w8 c e)))).2.1
  cases f with
  | next=>obtain⟨k,H7,I7,w⟩:=q;exact again I7 w
  | cont=>obtain⟨k,H7,I7,w⟩:=q;exact again I7 w
  | brk=>obtain⟨k,H7,I7,q⟩:=q;exact⟨k,H7,I7.unpinned,q⟩
  | ret v=>obtain⟨x7,k,H7,I7,r7,q⟩:=q;exact⟨x7,k,H7,I7.unpinned,r7,q⟩
end
abbrev R2:=V->V->Hp->VK->Prop
def OpR (X:Cx)(f:Value->Value->Sem Value)(r:R2):Prop :=
 ∀ (a:xo) (s:zi) (σ:St) (H:Hp) (x y:V) (v u:Value) (Q:VK),Inv X a σ H s->xW x v->xW y u->r x y H Q ->
  wpAny (model X.prog X.w) X.A (f v u) (EP X a σ Q) X.xe s
def UnR (X:Cx)(f:Value->Sem Value)(r:V->Hp->VK->Prop):Prop :=
 ∀ (a:xo) (s:zi) (σ:St) (H:Hp) (x:V) (v:Value) (Q:VK),Inv X a σ H s->xW x v->r x H Q ->
  wpAny (model X.prog X.w) X.A (f v) (EP X a σ Q) X.xe s
def Yy (X:Cx)(f:Value)(r:zbb):Prop :=
 ∀ (a:xo) (s:zi) (σ:St) (H:Hp) (b:zz) (c:zH) (Q:VK),Inv X a σ H s->yU b c->r b H Q ->
  wpAny (model X.prog X.w) X.A (call f c) (EP X a σ Q) X.xe s
def tOp (r:R2)(b a:TE):TE:=fun σ H Q=>b σ H λx H1=>a σ H1 λy H2=>r x y H2 Q
def tUn (r:V->Hp->VK->Prop)(a:TE):TE:=fun σ H Q=>a σ H λx H1=>r x H1 Q
def rI (C:Int->Int->Prop)(g:Int->Int->V):R2:=λx y H Q=>∃ i j,x=.int i/\y=.int j/\C i j/\Q (g i j) H
def rI0 (g:Int->Int->V):R2:=λx y H Q=>∃ i j,x=.int i/\y=.int j/\Q (g i j) H
def rU (g:Int->V):V->Hp->VK->Prop:=λx H Q=>∃ i,x=.int i/\Q (g i) H
section
variable {X:Cx}{a b c:Expr}{ta tb tc:TE}{pos:Pos}
def zki (k:PE X a ta)(m:PE X b tb){c:xo}{R:V->V->Hp->Prop}(I:Inv X c σ H s)(h:ta σ H λx H1=>tb σ H1 λy H2=>R x y H2){f:Value->Value->Sem Value}(o:∀ v u d x y H2,Inv X c σ H2 d->xW x v->xW y u->R x y H2->wpAny (model X.prog X.w) X.A (f v u) Q X.xe d) :
 wpAny (model X.prog X.w) X.A (eval a X.env) (λv j=>wpAny (model X.prog X.w) X.A (eval b X.env) (λu p=>wpAny (model X.prog X.w) X.A (f v u) Q X.xe p) X.xe j) X.xe s:=by
 refine thn (k c s σ H _ I h) λv i hh9=>?_
 obtain⟨x,H1,I1,e,n⟩:=hh9
 refine thn (m c i σ H1 _ I1 n) λu d hh9=>?_
 obtain⟨y,H2,I2,l,g⟩:=hh9
 exact o v u d x y H2 I2 e l g
def zd8 (g:OpR X (binaryOp d) r)(j:PE X a ta)(e:PE X b tb):PE X (.BinOp a d b pos) (tOp r ta tb):=by
 intro c s σ H Q I h
 exact wpAny_BinOp (zki j e I h λv u i x y H2 I2 k f q=>g c i σ H2 x y v u Q I2 k f q)
def zgH {c:UnaryOp}(e:UnR X (unaryOp c) r)(f:PE X a ta):PE X (.UnaryOp c a pos) (tUn r ta):=by
 intro b s σ H Q I h
 exact UnaryOp_ (thn (f b s σ H _ I h) λv g ⟨x,H1,I1,d,i⟩=>e b g σ H1 x v Q I1 d i)
def opI {f:Value->Value->Sem Value}{C:Int->Int->Prop}{g:Int->Int->Int}
 (rule:∀ (i j:Int) (t u:Tok) (s:zi) (Q:xa) (E:xa),C i j->Q (.int (g i j) s.toks) { s with toks:=s.toks+1 }->wpAny (model X.prog X.w) X.A (f (.int i t) (.int j u)) Q E s) :
 OpR X f (rI C λi j=>.int (g i j)):=by
 intro a s σ H x y v u Q I d b h
 obtain⟨i,j,rfl,rfl,e,q⟩:=h
 obtain⟨t,rfl⟩:=d
 obtain⟨c,rfl⟩:=b
 exact rule i j t c s _ _ e ⟨.int (g i j),H,I.tok _,⟨_,rfl⟩,q⟩
def opI0 {f:Value->Value->Sem Value}{g:Int->Int->Int}
 (rule:∀ (i j:Int) (t u:Tok) (s:zi) (Q:xa) (E:xa),Q (.int (g i j) s.toks) { s with toks:=s.toks+1 }->wpAny (model X.prog X.w) X.A (f (.int i t) (.int j u)) Q E s) :
 OpR X f (rI0 λi j=>.int (g i j)):=by
 intro a s σ H x y v u Q I d b h
 obtain⟨i,j,rfl,rfl,q⟩:=h
 obtain⟨t,rfl⟩:=d
 obtain⟨c,rfl⟩:=b
 exact rule i j t c s _ _ ⟨.int (g i j),H,I.tok _,⟨_,rfl⟩,q⟩
def zjt {f:Value->Value->Sem Value}{g:Int->Int->Bool}
 (rule:∀ (i j:Int) (t u:Tok) (s:zi) (Q:xa) (E:xa),Q (.bool (g i j)) s->wpAny (model X.prog X.w) X.A (f (.int i t) (.int j u)) Q E s) :
 OpR X f (rI0 λi j=>.bl (g i j)):=by
 intro a s σ H x y v u Q I d b h
 obtain⟨i,j,rfl,rfl,q⟩:=h
 obtain⟨t,rfl⟩:=d
 obtain⟨c,rfl⟩:=b
 exact rule i j t c s _ _ ⟨.bl (g i j),H,I,rfl,q⟩
def zjT (i j:Int):Prop:=(-(2^64)<i/\i<2^64)\/(-(2^64)<j/\j<2^64)
def zjT.ok (h:zjT i j):IntMulOk i j:=by
 rcases h with ⟨a,b⟩ | ⟨a,b⟩
 .exact .of_left (intBits_le_64 a b)
 .exact .of_right (intBits_le_64 a b)
def zbI (k:Nat):(0:Int)<=2^k:=by
 rw[two_pow_cast]
 exact Int.natCast_nonneg _
def zim:OpR X (binaryOp .Add) (rI0 λi j=>.int (i+j)):=opI0 λ_ _ _ _ _ _ _ q=>add_int q
def zhW:OpR X (binaryOp .Sub) (rI0 λi j=>.int (i-j)):=opI0 λ_ _ _ _ _ _ _ q=>sub_int q
def zia:OpR X (binaryOp .Mult) (rI zjT λi j=>.int (i*j)):=opI λ_ _ _ _ _ _ _ a q=>mul_int q a.ok
def zfp:OpR X (binaryOp .Mod) (rI (λ_ j=>0<j) λi j=>.int (i%j)):=opI λi j _ _ _ _ _ a q=>by
 have b:(0:Int)<j:=a
 exact mod_int' (by omega) (by rw[Int.fmod_eq_emod_of_nonneg i (by omega)];exact q)
def zhZ:OpR X (binaryOp .RShift) (rI (λ_ j=>0<=j) λi j=>.int (i/2^j.toNat)):=opI λi j _ _ _ _ _ a q =>
 rshift_int a (by rw[u1D i (zbI _)];exact q)
def unI {f:Value->Sem Value}{g:Int->Int}
 (rule:∀ (i:Int) (t:Tok) (s:zi) (Q:xa) (E:xa),Q (.int (g i) s.toks) { s with toks:=s.toks+1 }->wpAny (model X.prog X.w) X.A (f (.int i t)) Q E s) :
 UnR X f (rU λi=>.int (g i)):=by
 intro a s σ H x v Q I b h
 obtain⟨i,rfl,q⟩:=h
 obtain⟨t,rfl⟩:=b
 exact rule i t s _ _ ⟨.int (g i),H,I.tok _,⟨_,rfl⟩,q⟩
def zcX:UnR X (unaryOp .USub) (rU λi=>.int (-i)):=unI λ_ _ _ _ _ q=>neg_int q
end
def scal:V->V->Bool
 | .non,.non=>true | .non,.int _=>true | .int _,.non=>true | .non,.bl _=>true | .bl _,.non=>true | .non,.str _=>true | .str _,.non=>true
 | .int _,.int _=>true | .bl _,.bl _=>true | .str _,.str _=>true | .byt _,.byt _=>true
 | .int _,.str _=>true | .str _,.int _=>true | .bl _,.str _=>true | .str _,.bl _=>true
 | _,_=>false
def rEq:R2:=λx y H Q=>scal x y=true/\Q (.bl (decide (x=y))) H
def rNe:R2:=λx y H Q=>scal x y=true/\Q (.bl (!decide (x=y))) H
def WH:decide (V.int i=V.int j)=(i == j):=by
 rw[u1q]
 simp
def zfU:decide (V.bl i=V.bl j)=(i == j):=by
 rw[u1q]
 simp
def zdw:decide (V.str i=V.str j)=(i == j):=by
 rw[u1q]
 simp
def zcG {i j:Array UInt8}:decide (V.byt i=V.byt j)=(i.toList == j.toList):=by
 rw[u1q]
 cases i
 cases j
 simp
section
variable {X:Cx}{a b c:Expr}{ta tb tc:TE}{pos:Pos}
def yd {a:xo}{Q:VK}{b:Bool}(I:Inv X a σ H s)(q:Q (.bl k) H)(e:k=b):EP X a σ Q (.bool b) s:=by
 subst e
 exact⟨.bl k,H,I,rfl,q⟩
def ziN:OpR X (compareOp .Eq) rEq:=by
 intro e s σ H x y v u Q I d a h
 obtain⟨c,q⟩:=h
 cases x with
 | non =>
  cases d
  cases y with
  | non=>cases a;exact PySem.EqNone.eq_none_none (yd I q (by simp))
  | bl j=>cases a;exact PySem.EqNone.eq_none_bool (yd I q (by simp))
  | int j=>obtain⟨b,rfl⟩:=a;exact PySem.EqNone.eq_none_int (yd I q (by simp))
  | str j=>obtain⟨b,rfl⟩:=a;exact PySem.EqNone.eq_none_str (yd I q (by simp))
  | _=>exact absurd (show false=true from c) u9
 | bl i =>
  cases d
  cases y with
  | non=>cases a;exact PySem.EqNone.eq_bool_none (yd I q (by simp))
  | bl j=>cases a;exact eq_bool (yd I q zfU)
  | str j=>obtain⟨b,rfl⟩:=a;exact PySem.EqMixed.eq_bool_str (yd I q (by simp))
  | _=>exact absurd (show false=true from c) u9
 | int i =>
  obtain⟨t,rfl⟩:=d
  cases y with
  | non=>cases a;exact PySem.EqNone.eq_int_none (yd I q (by simp))
  | int j=>obtain⟨b,rfl⟩:=a;exact eq_int (yd I q WH)
  | str j=>obtain⟨b,rfl⟩:=a;exact PySem.EqMixed.eq_int_str (yd I q (by simp))
  | _=>exact absurd (show false=true from c) u9
 | str i =>
  obtain⟨t,rfl⟩:=d
  cases y with
  | non=>cases a;exact PySem.EqNone.eq_str_none (yd I q (by simp))
  | bl j=>cases a;exact PySem.EqMixed.eq_str_bool (yd I q (by simp))
  | int j=>obtain⟨b,rfl⟩:=a;exact PySem.EqMixed.eq_str_int (yd I q (by simp))
  | str j=>obtain⟨b,rfl⟩:=a;exact eq_str (yd I q zdw)
  | _=>exact absurd (show false=true from c) u9
 | byt i =>
  obtain⟨t,rfl⟩:=d
  cases y with
  | byt j=>obtain⟨b,rfl⟩:=a;exact W.eq_bytes (yd I q zcG)
  | _=>exact absurd (show false=true from c) u9
 | _=>cases y <;> exact absurd (show false=true from c) u9
def Xz:OpR X (compareOp .NotEq) rNe:=by
 intro e s σ H x y v u Q I d a h
 obtain⟨c,q⟩:=h
 cases x with
 | non =>
  cases d
  cases y with
  | non=>cases a;exact PySem.EqNone.ne_none_none (yd I q (by simp))
  | bl j=>cases a;exact PySem.EqNone.ne_none_bool (yd I q (by simp))
  | int j=>obtain⟨b,rfl⟩:=a;exact PySem.EqNone.ne_none_int (yd I q (by simp))
  | str j=>obtain⟨b,rfl⟩:=a;exact PySem.EqNone.ne_none_str (yd I q (by simp))
  | _=>exact absurd (show false=true from c) u9
 | bl i =>
  cases d
  cases y with
  | non=>cases a;exact PySem.EqNone.ne_bool_none (yd I q (by simp))
  | bl j=>cases a;exact ne_bool (yd I q (i3 not zfU))
  | str j=>obtain⟨b,rfl⟩:=a;exact PySem.EqMixed.ne_bool_str (yd I q (by simp))
  | _=>exact absurd (show false=true from c) u9
 | int i =>
  obtain⟨t,rfl⟩:=d
  cases y with
  | non=>cases a;exact PySem.EqNone.ne_int_none (yd I q (by simp))
  | int j=>obtain⟨b,rfl⟩:=a;exact ne_int (yd I q (i3 not WH))
  | str j=>obtain⟨b,rfl⟩:=a;exact PySem.EqMixed.ne_int_str (yd I q (by simp))
  | _=>exact absurd (show false=true from c) u9
 | str i =>
  obtain⟨t,rfl⟩:=d
  cases y with
  | non=>cases a;exact PySem.EqNone.ne_str_none (yd I q (by simp))
  | bl j=>cases a;exact PySem.EqMixed.ne_str_bool (yd I q (by simp))
  | int j=>obtain⟨b,rfl⟩:=a;exact PySem.EqMixed.ne_str_int (yd I q (by simp))
  | str j=>obtain⟨b,rfl⟩:=a;exact ne_str (yd I q (i3 not zdw))
  | _=>exact absurd (show false=true from c) u9
 | byt i =>
  obtain⟨t,rfl⟩:=d
  cases y with
  | byt j=>obtain⟨b,rfl⟩:=a;exact W.ne_bytes (yd I q (i3 not zcG))
  | _=>exact absurd (show false=true from c) u9
 | _=>cases y <;> exact absurd (show false=true from c) u9
def zac:OpR X (compareOp .Lt) (rI0 λi j=>.bl (decide (i<j))):=zjt λ_ _ _ _ _ _ _ q=>lt_int q
def Wv:OpR X (compareOp .LtE) (rI0 λi j=>.bl (decide (i<=j))):=zjt λ_ _ _ _ _ _ _ q=>le_int q
def Vr:OpR X (compareOp .Gt) (rI0 λi j=>.bl (decide (j<i))):=zjt λ_ _ _ _ _ _ _ q=>gt_int q
def zfY:OpR X (compareOp .GtE) (rI0 λi j=>.bl (decide (j<=i))):=zjt λ_ _ _ _ _ _ _ q=>ge_int q
def zbW:OpR X (compareOp .In) (λx y H Q=>∃ i j,x=.str i/\y=.str j/\Q (.bl (!(Builtin.Str.occurrences j i 0 j.length 1).isEmpty)) H):=by
 intro a s σ H x y v u Q I c b h
 obtain⟨i,j,rfl,rfl,q⟩:=h
 obtain⟨t,rfl⟩:=c
 obtain⟨d,rfl⟩:=b
 exact in_str (yd I q rfl)
def zhG:OpR X (compareOp .Is) (λx y H Q=>y=.non/\Q (.bl (decide (x=.non))) H):=by
 intro b s σ H x y v u Q I a c h
 obtain⟨rfl,q⟩:=h
 cases c
 refine is_none_gen (yd I q ?_)
 cases x <;> first
  | (cases a;rfl)
  | (obtain⟨t,rfl⟩:=a;rfl)
def Vz:OpR X (compareOp .NotIn) (λx y H Q=>∃ i j,x=.str i/\y=.str j/\Q (.bl (!(!(Builtin.Str.occurrences j i 0 j.length 1).isEmpty))) H):=by
 intro a s σ H x y v u Q I c b h
 obtain⟨i,j,rfl,rfl,q⟩:=h
 obtain⟨t,rfl⟩:=c
 obtain⟨d,rfl⟩:=b
 exact notIn_str (yd I q rfl)
def OpR.or {f:Value->Value->Sem Value}{r c:R2}(h:OpR X f r)(e:OpR X f c):OpR X f (λx y H Q=>r x y H Q\/c x y H Q):=by
 intro a s σ H x y v u Q I d b q
 rcases q with q | q
 .exact h a s σ H x y v u Q I d b q
 .exact e a s σ H x y v u Q I d b q
def zP (b:Expr){a:CmpOp}(h:a≠.In:=by decide)(d:a≠.NotIn:=by decide):behindInMarks a b=false:=by
 have c:(a == CmpOp.In)=false:=by cases a <;> first | rfl | exact absurd rfl h
 have e:(a == CmpOp.NotIn)=false:=by cases a <;> first | rfl | exact absurd rfl d
 cases b <;> simp[behindInMarks,c,e]
def zg1 (g:OpR X (compareOp d) r)(j:PE X a ta)(e:PE X b tb)(l:behindInMarks d b=false):PE X (.Compare a [d] [b] pos) (tOp r ta tb):=by
 intro c s σ H Q I h
 exact wpAny_Compare1 (zki j e I h λv u i x y H2 I2 k f q=>g c i σ H2 x y v u Q I2 k f q) l
def zal (t:TE):TT:=fun σ H Q=>t σ H λx H'=>∃ k,x=.bl k/\Q k H'
def zas {f:CmpOp}(l:OpR X (compareOp f) r)(p:PE X a ta)(i:PE X b tb)(q:behindInMarks f b=false):PT X (.Compare a [f] [b] pos) (zal (tOp r ta tb)):=by
 intro d s σ H Q I h
 refine wpAny_isTrue_Compare1 (thn (p d s σ H _ I h) λv m ⟨x,H1,I1,g,n⟩=>thn (i d m σ H1 _ I1 n) λu o ⟨y,H2,I2,w,j⟩ =>
  thn (l d o σ H2 x y v u _ I2 g w j) λc B ⟨z,H3,I3,t,k,e,A⟩=>?_) q
 subst e
 cases t
 exact l8 ⟨H3,I3,A⟩
def Vx (r a:R2)(ta tb tc:TE):TE:=fun σ H Q=>ta σ H λx H1=>tb σ H1 λy H2=>r x y H2 λz H3=>∃ k,z=.bl k /\
 (if k=true then tc σ H3 λb H4=>a y b H4 Q else Q (.bl false) H3)
def zeH {g:CmpOp}(G:OpR X (compareOp j) r)(i:OpR X (compareOp g) l)(C:PE X a ta)(F:PE X b tb)(E:PE X c tc)(N:lastMarks [j,g] [b,c]=false:=by with_unfolding_all rfl):PE X (.Compare a [j,g] [b,c] pos) (Vx r l ta tb tc):=by
 intro f s σ H Q I h
 refine Compare_chain (thn (C f s σ H _ I h) λv w ⟨x,H1,I1,o,J⟩=>chain_link (thn (F f w σ H1 _ I1 J) λu K ⟨y,H2,I2,m,p⟩ =>
  thn (G f K σ H2 x y v u _ I2 o m p) λd L ⟨z,H3,I3,D,k,e,n⟩=>?_)) N
 subst e
 cases D
 refine l8 ?_
 cases k with
 | false=>exact ite_ff ⟨.bl false,H3,I3,rfl,n⟩
 | true=>exact ite_tt (chain_last (thn (E f L σ H3 _ I3 n) λA q ⟨t,H4,I4,B,M⟩=>i f q σ H4 y t u A Q I4 m B M))
def zeb {g:CmpOp}(M:OpR X (compareOp j) r)(i:OpR X (compareOp g) l)(F:PE X a ta)(L:PE X b tb)(K:PE X c tc)(T:lastMarks [j,g] [b,c]=false:=by with_unfolding_all rfl):PT X (.Compare a [j,g] [b,c] pos) (zal (Vx r l ta tb tc)):=by
 intro f s σ H Q I h
 refine isTrue_chain (thn (F f s σ H _ I h) λv w ⟨x,H1,I1,o,N⟩=>test_link (thn (L f w σ H1 _ I1 N) λu O ⟨y,H2,I2,m,p⟩ =>
  thn (M f O σ H2 x y v u _ I2 o m p) λd P ⟨z,H3,I3,J,k,e,n⟩=>?_)) T
 subst e
 cases J
 refine l8 ?_
 cases k with
 | false =>
  obtain⟨W,D,B⟩:=n
  cases D
  exact ite_ff ⟨H3,I3,B⟩
 | true =>
  refine ite_tt (test_last (thn (K f P σ H3 _ I3 n) λC q ⟨t,H4,I4,E,S⟩=>thn (i f q σ H4 y t u C _ I4 m E S) λY Z hh9=>?_))
  obtain⟨U,H5,I5,A,V,G,R⟩:=hh9
  subst G
  cases A
  exact l8 ⟨H5,I5,R⟩
def XV:(sizeLine:Nat)<2^63:=by rw[u0E];decide
def zbx:OpR X (binaryOp .Add) (λx y H Q=>∃ i j,x=.str i/\y=.str j/\i.length+j.length<=sizeLine/\Q (.str (i++j)) H):=by
 intro a s σ H x y v u Q I e b h
 obtain⟨i,j,rfl,rfl,c,q⟩:=h
 obtain⟨t,rfl⟩:=e
 obtain⟨d,rfl⟩:=b
 exact add_str (λd f=>⟨.str (i++j),H,I.tok _,⟨_,rfl⟩,q⟩) c
def WA {a:zH}(r:yU [x] a):∃ u,a=[u]/\xW x u:=by
 cases r with
 | cons b c=>cases c;exact⟨_,rfl,b⟩
def zhr {b:zH}(r:yU [x,y] b):∃ u a,b=[u,a]/\xW x u/\xW y a:=by
 cases r with
 | cons c e =>
  cases e with
  | cons f d=>cases d;exact⟨_,_,rfl,c,f⟩
def zck (d:X.calm=true):Yy X (.builtin "min") (λb H Q=>∃ i j,b=[.int i,.int j]/\Q (.int (if j<i then j else i)) H):=by
 intro c s σ H b m Q I r h
 obtain⟨i,j,rfl,q⟩:=h
 obtain⟨u,g,rfl,⟨t,rfl⟩,⟨e,rfl⟩⟩:=zhr r
 refine min_two_ints (I.ok.hd d) λl f k=>⟨_,H,I.kept k,?_,q⟩
 by_cases a:j<i
 .rw[j0 a,j0 a];exact⟨_,rfl⟩
 .rw[j6 a,j6 a];exact⟨_,rfl⟩
def wP:Yy X (.type "str") (λa H Q=>∃ i,a=[.int i]/\i.natAbs.log2<1920/\Q (.str (toString i)) H):=by
 intro b s σ H a d Q I r h
 obtain⟨i,rfl,c,q⟩:=h
 obtain⟨u,rfl,t,rfl⟩:=WA r
 exact PySem.P.str_of_int c ⟨.str _,H,I.tok _,⟨_,rfl⟩,q⟩
end
structure zkf (h:Heap) (x dx C:Addr) (mA:wH):Prop where
 obj:h.get? x=some (W.instObj C dx)
 ns:h.Ns1 dx mA
 ne:dx≠x
def Vu {h:Heap}{f:Addr}{d:wH}(n:h.Ns1 f d):∃ i,h.get? f=some i/\∀ b,W.lookIn b i=some (d b):=by
 obtain⟨o,g,s,j,p,r,_,l⟩:=n
 refine⟨o,j,λb=>?_⟩
 have e:=l b
 unfold nsFind findBy at e
 rw[<-Array.find?_toList]at e
 unfold W.lookIn
 rw[p]
 dsimp only
 split
 .rename_i y q
  rw[q]at e
  exact i3 some e
 .rename_i q
  rw[q]at e
  have a:g.toList.any (·.refKey)=false:=by
   rw[u1T]
   intro y m
   obtain⟨z,t,c⟩:=r y (u0k.mp m)
   simp[DictEntry.refKey,c]
  have k:¬ g.toList.any (·.refKey)=true:=by rw[a];exact u9
  rw[j6 k]
  exact i3 some e
def zkf.look {c:wH}(I:zkf h x d C c):∃ b,PySem.W.InstAt h x (W.instObj C d) C (some b)/\∀ a,W.lookIn a b=some (c a) :=
 let ⟨b,ho,hl⟩:=Vu I.ns
 ⟨b,⟨I.obj,rfl,rfl,ho⟩,hl⟩
def zgJ.some_of (r:zgJ (some v) o):∃ u,o=some u/\xW v u:=by
 cases o with
 | none=>exact(show False from r).elim
 | some u=>exact⟨u,rfl,r⟩
def zcO (r:xW v u):W.handedIn u=true:=by
 cases v with
 | non=>cases (show u=Value.none from r);rfl
 | bl b=>cases (show u=Value.bool b from r);rfl
 | int i=>obtain⟨t,e⟩:=(show ∃ t,u=Value.int i t from r);cases e;rfl
 | str x=>obtain⟨t,e⟩:=(show ∃ t,u=Value.str x t from r);cases e;rfl
 | byt b=>obtain⟨t,e⟩:=(show ∃ t,u=Value.bytes b t from r);cases e;rfl
 | flt b=>obtain⟨t,e⟩:=(show ∃ t,u=Value.float b t from r);cases e;rfl
 | ref a=>cases (show u=Value.ref a from r);rfl
 | ty n=>cases (show u=Value.type n from r);rfl
section
variable {P:zX}{w:World}{H H':Hp}{h h':Heap}{a C dx:Addr}{fs fs':List (Str × V)}
def zf5 (c:HOk P w H h)(e:H a=some (.ins C dx fs)):∃ b,zkf h a dx C b/\(∀ f,zgJ (fs.lookup f) (b f))/\PySem.Within b (fs.map (·.1))/\fs.length<=1000/\H dx=some (.own a):=by
 obtain⟨d,z,g,i,b,n,r,q⟩:=(show xI P w H h a (.ins C dx fs)from c a _ e)
 exact⟨b,⟨i,n,g⟩,r,q,z,d⟩
end
structure Cls (K:zu) (C:Addr):Prop where
 pg:W.plainGet K C Str.empty=true
 hd:W.hasDictIn K C=true
 po:W.plainOver K C=true
 sa:W.findIn K (.ref C) "__setattr__"=some (some (.builtin "object.__setattr__"))
def Cls.get {K:zu}{C:Addr}(c:Cls K C)(f:Str):W.plainGet K C f=true:=c.pg
def XR (K:zu)(C:Addr)(f:Str):Prop:=W.findIn K (.ref C) f=some none
section
variable {X:Cx}{pins:xo}{σ:St}{H:Hp}{s:zi}{a C dx:Addr}{fs:List (Str × V)}{f:Str}{v:V}{A:z5}{E:xa}
def zhh {a:zX}{w:World}{f:Str}{s:zi}(c:attributeBase e f env (eval e env)=eval e env)(h:wpAny (model a w) A (eval e env) (λo d=>wpAny (model a w) A (getAttr o f true) Q E d) E s):wpAny (model a w) A (eval (.Attribute e f b) env) Q E s :=
 Attribute_any_ h (by rw[arm_eval_Attribute,c])
end
section
variable {X:Cx}{pins:xo}{σ:St}{H:Hp}{s:zi}{A:z5}{E:xa}{Q:xa}{c:Value}{b:Bool}
inductive zau (K:zu) (H:Hp):V->Value->Prop where
 | non:zau K H .non (.type "NoneType")
 | bl (x:Bool):zau K H (.bl x) (.type "bool")
 | int (i:Int):zau K H (.int i) (.type "int")
 | str (x:Str):zau K H (.str x) (.type "str")
 | flt (x:UInt64):zau K H (.flt x) (.type "float")
 | lst {a:Addr} {xs:zz} (e:H a=some (.lst xs)):zau K H (.ref a) (.type "list")
 | frz {a:Addr} {o:Obj} {xs:zz} (e:H a=some (.frz o (.lst xs))):zau K H (.ref a) (.type "list")
 | tup {a:Addr} {xs:zz} (e:H a=some (.tup xs)):zau K H (.ref a) (.type "tuple")
 | dK {a:Addr} {kvs:List (Key × V)} (e:H a=some (.dK kvs)):zau K H (.ref a) (.type "dict")
 | dT {a:Addr} {kvs:List (List Key × V)} (e:H a=some (.dT kvs)):zau K H (.ref a) (.type "dict")
 | ins {a C dx:Addr} {fs:List (Str × V)} (e:H a=some (.ins C dx fs)) (cl:Cls K C) (ha:W.findIn K (.ref C) "__class__"=some (some (.builtin "object.__class__")))
  (hn:W.specialIn K (.builtin "object.__class__") "__get__"=some (some (.builtin "getset_descriptor.__get__"))) (htk:W.takesIn K (.builtin "object.__class__")=some true)
  (hm:W.mroIn K C (.type "object")=some true):zau K H (.ref a) (.ref C)
def zcW (I:Inv X pins σ H s)(d:xW x u)(ty:zau X.K H x t)(e:W.kitOne X.K t c=some b)(h:∀ F,Q (.bool b) { s with toks:=F }) :
 wpAny (model X.prog X.w) A (call (.builtin "isinstance") [u,c]) Q E s:=by
 cases ty with
 | non=>cases (show u=Value.none from d);exact f7 W.kitx_none I.kIn True.intro e (λz=>nomatch z) h
 | bl y=>cases (show u=Value.bool y from d);exact f7 W.kitx_bool I.kIn True.intro e (λz=>nomatch z) h
 | int i=>obtain⟨t,q⟩:=(show ∃ t,u=Value.int i t from d);cases q;exact f7 W.kitx_int I.kIn True.intro e (λz=>nomatch z) h
 | str y=>obtain⟨t,q⟩:=(show ∃ t,u=Value.str y t from d);cases q;exact f7 W.kitx_str I.kIn True.intro e (λz=>nomatch z) h
 | flt y=>obtain⟨t,q⟩:=(show ∃ t,u=Value.float y t from d);cases q;exact f7 W.kitx_float I.kIn True.intro e (λz=>nomatch z) h
 | @lst a k f =>
  cases (show u=Value.ref a from d)
  obtain⟨_,_,n,_,g⟩:=(show xI X.prog X.w H s.heap a (.lst k)from I.hok a _ f)
  exact f7 W.kitx_list I.kIn ⟨_,g,rfl⟩ e (λz=>nomatch z) h
 | @frz a v k f =>
  cases (show u=Value.ref a from d)
  obtain⟨_,_,_,n,_,g⟩:=(show xI X.prog X.w H s.heap a (.frz v (.lst k))from I.hok a _ f)
  exact f7 W.kitx_list I.kIn ⟨_,g,rfl⟩ e (λz=>nomatch z) h
 | @tup a k f =>
  cases (show u=Value.ref a from d)
  obtain⟨_,_,_,p⟩:=(show xI X.prog X.w H s.heap a (.tup k)from I.hok a _ f)
  obtain⟨o,g,l,_⟩:=p
  exact f7 W.kitx_tuple I.kIn ⟨o,g,l⟩ e (λz=>nomatch z) h
 | @dK a j f =>
  cases (show u=Value.ref a from d)
  obtain⟨_,_,L,_,p⟩:=(show xI X.prog X.w H s.heap a (.dK j)from I.hok a _ f)
  obtain⟨o,B,G,g,l,_⟩:=p
  exact f7 u08 I.kIn ⟨o,g,l.1⟩ e (λz=>nomatch z) h
 | @dT a j f =>
  cases (show u=Value.ref a from d)
  obtain⟨_,_,k,_,o,B,G,g,l,_⟩:=(show xI X.prog X.w H s.heap a (.dT j)from I.hok a _ f)
  exact f7 u08 I.kIn ⟨o,g,l.1⟩ e (λz=>nomatch z) h
 | @ins a C P R f r w D m K =>
  cases (show u=Value.ref a from d)
  obtain⟨M,O,_⟩:=zf5 I.hok f
  obtain⟨N,J,_⟩:=O.look
  exact f7 (W.kitx_own (r.get _) r.hd w D m K) I.kIn J e (λz=>nomatch z) h
end
structure wF (k:Nat) (A:z5):Prop where
 hd:A.handled=none
 dp:A.depth+3*k+5<recursionLimit
 un:A.units+16*k+200<cLine
def wF.mono {j:Nat}(r:wF k A)(h:j<=k):wF j A:=⟨r.hd,by have:=r.dp;omega,by have:=r.un;omega⟩
def wF.deeper {k:Nat}{A:z5}(r:wF (k+1) A)(env:Env):wF k (A.deeper env) :=
 ⟨r.hd,by have:=r.dp;show A.depth+1+3*k+5<_;omega,by have:=r.un;show A.units+3+16*k+200<_;omega⟩
def zbh {A:z5}:(A.under (.builtin "type.__call__" ⟨.ref C::b,a⟩)).depth=A.depth+1:=by
 first | rfl | simp[Around.under,Code.weight,Code.isCreation,Code.isGuard,Code.isCaller,Code.frames,Code.isFrame,guardIds]
def zba {A:z5}:(A.under (.builtin "type.__call__" ⟨.ref C::b,a⟩)).units=A.units+1:=by
 first | rfl | simp[Around.under,Code.cUnits,Code.frames,Code.isFrame]
def wF.make {k:Nat} {A:z5} (r:wF (k+1) A) (C:Addr) (a:zH) (b:List (Str × Value)):wF k (A.under (.builtin "type.__call__" ⟨.ref C::a,b⟩)) :=
 ⟨r.hd,by have:=r.dp;rw[zbh];omega,by have:=r.un;rw[zba];omega⟩
def wF.depth {A:z5}(r:wF k A):A.depth<recursionLimit:=by have:=r.dp;omega
def wF.units0 {A:z5}(r:wF k A):A.units<cLine:=by have:=r.un;omega
def zfj:TA:=λ_ H Q=>Q [] H
def ZN (c:TE)(a:TA):TA:=fun σ H Q=>c σ H λx H1=>a σ H1 λb H2=>Q (x::b) H2
section
variable {X:Cx}{e:Expr}{es:yK}{te:TE}{t:TA}{pos:Pos}
def yR:PA X [] zfj:=λ_ _ _ _ H Q I h=>u1R ⟨[],H,I,.nil,h⟩
def zy (i:PE X e te)(j:PA X es t)(c:starEach (e::es) X.env=(false,eval e X.env)::starEach es X.env:=by rfl):PA X (e::es) (ZN te t):=by
 intro pos a s σ H Q I h
 rw[c]
 show wpAny _ _ (spliced ((false,eval e X.env)::backTo pos (starEach es X.env))) _ _ s
 refine i5 (thn (i a s σ H _ I h) λu f hh9=>?_)
 obtain⟨x,H1,I1,b,g⟩:=hh9
 exact thn (j pos a f σ H1 _ I1 g) λn m ⟨k,H2,I2,l,d⟩=>⟨x::k,H2,I2,.cons b l,d⟩
def tTup (t:TA):TE:=fun σ H Q=>t σ H λa H1=>a.length<=sizeLine/\∀ p,H1 p=none->Q (.ref p) (upd H1 p (.tup a))
def zjE (t:TA):TE:=fun σ H Q=>t σ H λa H1=>a.length<=sizeLine/\∀ p,H1 p=none->Q (.ref p) (upd H1 p (.lst a))
def zfn {x1}(h:PA X es t):PE X (.Tuple es x1 pos) (tTup t):=by
 intro a s σ H Q I d
 refine wpAny_Tuple_spliced (thn (h pos a s σ H _ I d) λf c ⟨i,H1,I1,r,z,q⟩=>⟨by rw[<-r.length];exact z,?_⟩)
 have g:H1 c.heap.objs.size=none:=I1.hok.fresh (t7 _)
 refine⟨.ref c.heap.objs.size,upd H1 c.heap.objs.size (.tup i),I1.laid (t':=c.toks) (λb u e=>u6 _ e) (t7 _) ?_,rfl,q _ g⟩
 exact⟨z,f,r,⟨_,j4 _ rfl,rfl,_,rfl⟩⟩
def WX (h:PA X es t):PE X (.List es pos) (zjE t):=by
 intro a s σ H Q I d
 refine wpAny_List_spliced (thn (h pos a s σ H _ I d) λf c ⟨i,H1,I1,r,z,q⟩=>⟨by rw[<-r.length];exact z,?_⟩)
 have g:H1 c.heap.objs.size=none:=I1.hok.fresh (t7 _)
 refine⟨.ref c.heap.objs.size,upd H1 c.heap.objs.size (.lst i),I1.laid (t':=c.toks) (λb u e=>u6 _ e) (t7 _) ?_,rfl,q _ g⟩
 exact⟨z,f,0,r,j4 _ rfl⟩
end
abbrev Sp:=zz->Hp->VK->XK->Prop
abbrev CXT:=List Env->Hp->Shared->XK->Value->Shared->Prop
structure zfa (P:zX) (w:World) (K:zu) (mg:wH) (base:Heap) (A:z5) (outer:List Env) (s:zi) (H:Hp):Prop where
 frames:A.frames=some outer
 mod:Mod K mg base
 bs:∀ b o,base.get? b=some o->s.heap.get? b=some o/\H b=none
 bsz:base.objs.size<=s.heap.objs.size
 funs:s.heap.FunFrames base outer
 frf:∀ b∈frs outer,H b=none
 hok:HOk P w H s.heap
 bare:AllBare s.gens
def CE (outer:List Env)(P:zX)(w:World)(H:Hp)(s:zi)(Q:VK)(u:Value)(a:zi):Prop :=
 ∃ v H',a.os=s.os/\AllBare a.gens/\Un (frs outer) [] H H' s.heap a.heap/\HOk P w H' a.heap/\xW v u/\Q v H'
def CR (CX:CXT)(outer:List Env)(P:zX)(w:World)(H:Hp)(s:zi)(Q:VK)(E:XK)(r:Result)(a:zi):Prop :=
 match r with
 | .ok (.ret u)=>CE outer P w H s Q u a
 | .ok _=>False
 | .error e=>CX outer H s E e a
structure vP (P:zX) (w:World) (K:zu) (mg:wH) (base:Heap) (CX:CXT) (k:Nat) (f:Addr) (fd:vy) (ps:zr) (sp:Sp):Prop where
 len:∀ vs H Q E,sp vs H Q E->vs.length=ps.length
 run:∀ (A:z5) (outer:List Env) (s:zi) (H:Hp) (args:Args) (us:zH) (vs:zz) (Q:VK) (E:XK),wF k A->zfa P w K mg base A outer s H->BindsTo s fd args (ps.zip us)->yU vs us->sp vs H Q E ->
  codeAny (model P w) A (.call (.ref f) args) (CR CX outer P w H s Q E) s
def vP.mono {P:zX}{w:World}{K:zu}{b:wH}{a:Heap}{CX:CXT}{j k:Nat}{f:Addr}{d:vy}{ps:zr}{c:Sp}(F:vP P w K b a CX j f d ps c)(h:j<=k) :
 vP P w K b a CX k f d ps c:=⟨F.len,λA outer s H args g e Q E i=>F.run A outer s H args g e Q E (i.mono h)⟩
def vP.imp {P:zX}{w:World}{K:zu}{d:wH}{a:Heap}{CX:CXT}{k:Nat}{f:Addr}{i:vy}{e:zr}{g c:Sp}(F:vP P w K d a CX k f i e g)
 (h:∀ b H Q E,c b H Q E->g b H Q E):vP P w K d a CX k f i e c :=
 ⟨λb H Q E q=>F.len b H Q E (h _ _ _ _ q),λA outer s H args o b Q E p j n l m=>F.run A outer s H args o b Q E p j n l (h _ _ _ _ m)⟩
def zfa.make {P:zX}{w:World}{K:zu}{b:wH}{a:Heap}{A:z5}{outer:List Env}{s:zi}{H:Hp}(e:zfa P w K b a A outer s H)(C:Addr)(c:zH)(d:List (Str × Value)) :
 zfa P w K b a (A.under (.builtin "type.__call__" ⟨.ref C::c,d⟩)) outer s H:=⟨by first | exact e.frames | (simpa [Around.under,Code.envs,Code.isFrame,pushEnvs]using e.frames),e.mod,e.bs,e.bsz,e.funs,e.frf,e.hok,e.bare⟩
section
variable {X:Cx}{pins:xo}{σ:St}{H:Hp}{s s':zi}
def Inv.env0 (I:Inv X pins σ H s):zfa X.prog X.w X.K X.mg X.base X.A X.stack s H :=
 ⟨I.ok.frames,I.ok.mod,I.bs,k9 I.ok.bsz I.sz,I.stack,I.stkFree,I.hok,I.bare⟩
def Inv.after (I:Inv X pins σ H s)(h:CE X.stack X.prog X.w H s Q u s'):EP X pins σ Q u s':=by
 obtain⟨v,H',os,a,i,e,r,q⟩:=h
 obtain⟨f,g,d,t,c⟩:=s'
 obtain rfl:c=s.os:=os
 exact⟨v,H',I.call (h':=f) (g':=g) (d':=d) (t':=t) (ch:=[]) i e a (λb z=>absurd z (by simp)),r,q⟩
end
def ze4 (b:Sp)(a:zz)(E:XK)(t:TA):TE:=fun σ H Q=>t σ H λc H1=>b (c++a) H1 Q E
def YB (K:zu)(d:vy)(b:zr)(c:zH):Prop :=
 ∀ (s:zi) (a:zH),K.In s.heap->(a++c).length=b.length->BindsTo s d ⟨a,[]⟩ (b.zip (a++c))
def YB.all {K:zu}{d:vy}{b:zr}(h:∀ a:zH,a.length=b.length->bindArgs d ⟨a,[]⟩=pure (b.zip a)):YB K d b []:=λs a _ c=>by
 rw[n0]at c ⊢
 exact .of_eq (h a c)
def Ys (CX:CXT)(X:Cx)(E:XK):Prop:=∀ (a:xo) (σ:St) (H:Hp) (s:zi) (e:Value) (b:zi),Inv X a σ H s->CX X.stack H s E e b->X.xe e b
section
variable {X:Cx}{CX:CXT}{k:Nat}{f C:Addr}{fd:vy}{ps:zr}{sp:Sp}{dvs:zz}{ds:zH}{E:XK}{x m:Str}{p pos apos:Pos}{e o:Expr}{es:yK}{ta:TE}{t:TA}
def zie (F:vP X.prog X.w X.K X.mg X.base CX k f fd ps sp)(n:wF k X.A)(i:YB X.K fd ps ds)(o:yU dvs ds)(j:Ys CX X E)(I:Inv X a σ H s)(r:yU d b)(h:sp (d++dvs) H Q E):wpAny (model X.prog X.w) X.A (call (.ref f) b) (EP X a σ Q) X.xe s:=by
 have g:yU (d++dvs) (b++ds):=r.append o
 have p:(b++ds).length=ps.length:=by rw[<-g.length];exact F.len _ _ _ _ h
 refine u0N (u0t (F.run X.A X.stack s H ⟨b,[]⟩ (b++ds) (d++dvs) Q E n I.env0 (i s b I.kIn p) g h) λr m c=>?_)
 cases r with
 | error e=>exact j a σ H s e m I c
 | ok l =>
  cases l with
  | ret u=>exact I.after c
  | next=>exact False.elim c
  | brk=>exact False.elim c
  | cont=>exact False.elim c
def zci (F:vP X.prog X.w X.K X.mg X.base CX k f fd ps sp)(l:wF k X.A)(n:Gl X x)(m:X.mg x=some (.ref f))(u:W.keepIn X.K (.ref f)=true)(d:YB X.K fd ps ds)(o:yU dvs ds)(g:Ys CX X E)
 (j:PA X (e::es) t) (c:(x == ("__debug__":Str))=false:=by decide) (i:starEach (e::es) X.env=(false,eval e X.env)::starEach es X.env:=by rfl) (b:(backTo pos (starEach es X.env)).any (·.1)=false:=by rfl) :
 PE X (.Call (.Name x p) (e::es) [] pos) (ze4 sp dvs E t):=by
 intro a s σ H Q I h
 refine u0j (Zf I n m ?_ c)
 refine u1J (h₀:=X.base) I.ok.mod.kin u (thn (j pos a s σ H _ I h) λw v ⟨y,H1,I1,r,q⟩=>⟨I1.kIn,?_⟩) i b
 exact zie F l d o g I1 r q
end
structure we (N P:zr) (sc:Scope):Prop where
 kind:sc.kind=.function
 co:sc.isCoroutine=false
 gen:sc.isGenerator=false
 nd:N.Nodup
 pre:N.take P.length=P
 par:∀ x∈P,sc.names.lookup x=some .local\/sc.names.lookup x=some .cell
 nofree:∀ y∈sc.names,y.2≠.free
def Vk:∀ {a:List (Str × Value)} {m:wH},(∀ v,(x,v)∉a)->bindL b a m x=m x
 | [],_,_=>rfl
 | (n,v)::r,m,h=>by
  unfold bindL
  rw[Vk λw hw=>h w (l6 _ hw)]
  split
  .have:x≠n:=by rintro rfl;exact h v p9
   simp[this]
  .rfl
def Vb:∀ {a:List (Str × Value)} {m:wH},(∀ v,(x,v)∉a)->bindC b a m x=m x
 | [],_,_=>rfl
 | (n,v)::r,m,h=>by
  unfold bindC
  rw[Vb λw hw=>h w (l6 _ hw)]
  split
  .rfl
  .have:x≠n:=by rintro rfl;exact h v p9
   simp[this]
def Vw {a:Str->Option NameKind}:∀ {P:zr} {b:zH} {i:Nat} {m:wH},P.Nodup->P[i]?=some x->b[i]?=some v->a x=some .local ->
 bindL a (P.zip b) m x=some v
 | [],_,_,_,_,h,_,_=>by simp at h
 | _::_,[],_,_,_,_,h,_=>by simp at h
 | p::P,w::b,0,m,nd,h1,h2,hk=>by
  simp at h1 h2;subst h1;subst h2
  show bindL a ((p,w)::P.zip b) m p=_
  unfold bindL
  rw[Vk λv c=>(h9.mp nd).1 (u0T c).1,j0 hk]
  simp
 | p::P,w::b,i+1,m,nd,h1,h2,hk=>by
  show bindL a ((p,w)::P.zip b) m x=_
  unfold bindL
  exact Vw (i:=i) (h9.mp nd).2 (by simpa using h1) (by simpa using h2) hk
def Vh {a:Str->Option NameKind}:∀ {P:zr} {b:zH} {i:Nat} {m:wH},P.Nodup->P[i]?=some x->b[i]?=some v->a x≠some .local ->
 bindC a (P.zip b) m x=some v
 | [],_,_,_,_,h,_,_=>by simp at h
 | _::_,[],_,_,_,_,h,_=>by simp at h
 | p::P,w::b,0,m,nd,h1,h2,hk=>by
  simp at h1 h2;subst h1;subst h2
  show bindC a ((p,w)::P.zip b) m p=_
  unfold bindC
  rw[Vb λv c=>(h9.mp nd).1 (u0T c).1,j6 hk]
  simp
 | p::P,w::b,i+1,m,nd,h1,h2,hk=>by
  show bindC a ((p,w)::P.zip b) m x=_
  unfold bindC
  exact Vh (i:=i) (h9.mp nd).2 (by simpa using h1) (by simpa using h2) hk
def start (N:zr)(a:zz):St:=a.map some++List.replicate (N.length-a.length) none
def vQ (CX:CXT)(P:zX)(w:World)(K:zu)(mg:wH)(base:Heap)(N:zr)(qual:Str)(scope:Scope)(f:Addr)(cd:Value)(A:z5)(outer:List Env)(s:zi)(H:Hp)(E:XK):Cx where
 prog:=P
 w:=w
 K:=K
 mg:=mg
 base:=base
 A:=A.deeper (envOfC qual scope s.heap.objs.size f cd)
 N:=N
 s₀:=s
 H₀:=H
 env:=envOfC qual scope s.heap.objs.size f cd
 outer:=outer
 stack:=envOfC qual scope s.heap.objs.size f cd::outer
 ex:=[]
 calm:=true
 fn:=λ_=>true
 pn:=[]
 xe:=λe s'=>wpAny (model P w) (A.deeper (envOfC qual scope s.heap.objs.size f cd)) (leaving (envOfC qual scope s.heap.objs.size f cd) e) (λ_ s''=>CX outer H s E e s'') (λe' s''=>CX outer H s E e' s'') s'
def zay {sc:Scope}(h:sc.names.lookup x=some .cell):∃ c,(cellsFrom n sc.names []).lookup x=some c:=by
 have q:=u0B sc.names n [] (.inl h)
 exact u1U.mp q
def Xh {CX:CXT}{P:zX}{w:World}{K:zu}{L:wH}{l:Heap}{N C:zr}{g:Str}{d:Scope}{f:Addr}{F:Value}{A:z5}{outer:List Env}{s O:zi}{H:Hp}{E:XK}{J:zH}{t:zz}
 (S:we N C d) (T:A.handled=none) (m:zfa P w K L l A outer s H) (Z:t.length=C.length) (r:yU t J)
 (x:InCallC s s.heap.objs.size (bindL (envOfC g d s.heap.objs.size f F).kindOf (C.zip J) λ_=>none) (cellsFrom (s.heap.objs.size+1) d.names []) (bindC (envOfC g d s.heap.objs.size f F).kindOf (C.zip J) λ_=>none) O) :
 Inv (vQ CX P w K L l N g d f F A outer s H E) [] (start N t) H O:=by
 have U:C.length<=N.length:=by have:=i3 List.length S.pre;rw[r0]at this;omega
 obtain⟨G,X,rfl,Q⟩:=x.done
 have o:∀ b:Addr,b∉(vQ CX P w K L l N g d f F A outer s H E).ex:=λb z=>absurd (show b∈([]:xw)from z) (by simp)
 refine⟨⟨m.mod,S.kind,rfl,rfl,t7 _,λy z c G j=>?_,λy B=>?_,λy c _ h=>?_,λ_=>T,Around.frames_deeper m.frames,.inr ⟨rfl,rfl⟩,λb z=>absurd z (o b),m.bs,m.bsz,λb _ _=>o b,λb z=>absurd z (o b),m.funs,m.frf⟩,
  rfl,m.bare,Un.kept Q,⟨_,x.toInCall.ns,λi y v G j Y=>?_⟩,λy c h=>⟨_,x.cell y c h⟩,m.hok.fresh (t7 _),λy c h=>?_,λp hp=>absurd (show p∈([]:xo)from hp) (by simp),m.hok.kept Q,?_⟩
 .exact name_of_addr x.apart (p6 G) (p6 j)
 .have B:d.names.lookup y=some .cell\/d.names.lookup y=some .free:=B
  rcases B with B | B
  .exact zay B
  .exact absurd rfl (S.nofree _ (p6 B))
 .exact u1I (x.above y c (p6 h))
 .have I:i<t.length:=by
   unfold start at j
   by_cases I:i<t.length
   .exact I
   .rw[p0 (by simpa using I)]at j
    rw[u0v]at j
    split at j <;> cases j
  have R:t[i]?=some v:=by
   unfold start at j
   rw[i0 (by simpa using I),j7]at j
   cases e:t[i]? with
   | none=>rw[e]at j;cases j
   | some a=>rw[e]at j;cases j;rfl
  obtain⟨u,M,W⟩:=r.get R
  have hp:C[i]?=some y:=by
   rw[<-S.pre,List.getElem?_take_of_lt (by omega)];exact G
  have D:C.Nodup:=by rw[<-S.pre];exact S.nd.sublist (List.take_sublist _ _)
  refine⟨u,W,?_⟩
  rcases S.par y (o7 hp)with k | k
  .exact .inl ⟨k,Vw D hp M k⟩
  .obtain⟨c,e⟩:=zay (n:=s.heap.objs.size+1) k
   refine .inr ⟨.inl k,c,e,?_⟩
   have q:=x.cell y c e
   rw[Vh D hp M (by show d.names.lookup y≠_;rw[k];decide)]at q
   exact q
 .exact m.hok.fresh (u1I (x.above y c (p6 h)))
 .unfold start
  show _=N.length
  rw[q5,t1,List.length_replicate]
  omega
def zhV {w:World}{K:zu}{g:Heap}{f:Addr}{kV:Value}{N L:zr}{W:Sp}(lk:K.lookup f=some ⟨oc,od,.func (PySem.W.fnOf l c h i a dV kV C Y an d ct),T⟩)(O:PySem.W.codeIn K d c=true)(S:we N L a)(B:∀ j H Q E,W j H Q E->j.length=L.length) (p:∀ (A:z5) (outer:List Env) (s:zi) (H:Hp) (j:zz) (Q:VK) (E:XK),wF k (A.deeper (envOfC c a s.heap.objs.size f d))->W j H Q E ->
 ∃ t,PSs (vQ CX P w K G g N c a f d A outer s H E) i t/\t { nx:=λ_ H'=>Q .non H',rt:=Q } (start N j) H) :
 vP P w K G g CX (k+1) f (PySem.W.fnOf l c h i a dV kV C Y an d ct) L W:=by
 refine⟨B,λA outer s H args us j Q E X D hb r F=>?_⟩
 have hl:=B _ _ _ _ F
 have KX:K.In s.heap:=D.mod.kin.keeps λb o e=>(D.bs b o e).1
 have lim:s.heap.NoLimit:=D.mod.nolimit.keeps λb o e=>(D.bs b o e).1
 have m:∀ y∈L.zip us,a.names.lookup y.1=some .local\/(a.names.lookup y.1=some .cell/\((cellsFrom (s.heap.objs.size+1) a.names []).lookup y.1).isSome=true):=λ⟨n,v⟩ hy=>by
  rcases S.par n (u0T hy).1 with q | q
  .exact .inl q
  .exact .inr ⟨q,u0B _ _ _ (.inl q)⟩
 refine u1g X.depth (KX _ _ lk) rfl S.co S.gen rfl (u1K KX O) (hb _ _ _ _ ?_)
 refine wpAny_newFunctionEnv_cells S.kind m λenv he Z x=>?_
 subst he
 refine⟨lim.keeps x.toInCall.keep,codeAny_func ?_⟩
 obtain⟨t,ht,hq⟩:=p A outer s H j Q E (X.deeper _) F
 have I:Inv (vQ CX P w K G g N c a f d A outer s H E) [] (start N j) H Z:=Xh S X.hd D hl r x
 refine n8 (ht [] Z (start N j) H _ I hq) (λfl U z=>?_) λe U z=>z
 have fin:∀ {M:St} {H':Hp} {v:V} {u:Value},Inv (vQ CX P w K G g N c a f d A outer s H E) [] M H' U->xW v u->Q v H'->CE outer P w H s Q u U :=
  λ{M H' v u} J R q=>⟨v,H',J.os,J.bare,J.base,J.hok,R,q⟩
 cases fl with
 | ret u =>
  obtain⟨v,M,H',J,R,q⟩:=z
  exact fin J R q
 | next =>
  obtain⟨M,H',J,q⟩:=z
  exact fin (v:=V.non) (u:=Value.none) J rfl q
 | brk =>
  obtain⟨_,_,_,q⟩:=z
  exact False.elim q
 | cont =>
  obtain⟨_,_,_,q⟩:=z
  exact False.elim q
section
variable {X:Cx}{x:Str}{p pos:Pos}{e:Expr}{es:yK}{t:TA}{id T:String}{r:zbb}
def tCB (r:zbb)(t:TA):TE:=fun σ H Q=>t σ H λa H1=>r a H1 Q
def yJ (u:Yy X (.builtin id) r) (o:Gl X x) (n:X.mg x=none) (l:bootBuiltins x=some (.builtin id)) (m:PA X (e::es) t) (q:x≠"__name__":=by decide) (c:(x == ("__debug__":Str))=false:=by decide)
 (k:starEach (e::es) X.env=(false,eval e X.env)::starEach es X.env:=by rfl) (b:(backTo pos (starEach es X.env)).any (·.1)=false:=by rfl):PE X (.Call (.Name x p) (e::es) [] pos) (tCB r t):=by
 intro a s σ H Q I h
 refine u0j (ZG I o n l ?_ q c)
 exact PyProof.Rows.callWith_builtin1 (thn (m pos a s σ H _ I h) λi f ⟨j,H1,I1,d,g⟩=>u a f σ H1 j i Q I1 d g) k b
def zbY (u:Yy X (.type T) r) (o:Gl X x) (n:X.mg x=none) (l:bootBuiltins x=some (.type T)) (m:PA X (e::es) t) (q:x≠"__name__":=by decide) (c:(x == ("__debug__":Str))=false:=by decide)
 (k:starEach (e::es) X.env=(false,eval e X.env)::starEach es X.env:=by rfl) (b:(backTo pos (starEach es X.env)).any (·.1)=false:=by rfl):PE X (.Call (.Name x p) (e::es) [] pos) (tCB r t):=by
 intro a s σ H Q I h
 refine u0j (ZG I o n l ?_ q c)
 exact s0 (thn (m pos a s σ H _ I h) λi f ⟨j,H1,I1,d,g⟩=>u a f σ H1 j i Q I1 d g) k b
end
end L2
namespace HT
open PySem PyProof.Rows
def lexLt:zB->zB->Bool
 | [],[]=>false
 | [],_::_=>true
 | _::_,[]=>false
 | x::xs,y::ys=>if x=y then lexLt xs ys else decide (x<y)
def lexLt_cons (x y:Int)(b a:zB):lexLt (x::b) (y::a)=if x=y then lexLt b a else decide (x<y):=rfl
def zeF (A:z5)(s:zi)(a:Int)(t:Tok)(c:Int)(u:Tok):∃ e,SeqAt.EqAt A s (.int a t) (.int c u) e/\(e=true↔a=c) :=
 ⟨(a == c),SeqAt.EqAt.int_int a t c u,by simp⟩
section
variable {prog:zX}{w:World}{A:z5}{E:xa}{s:zi}
def cat_tup {d a:zH} {Q:xa} (B:IsTup s.heap t d.toArray) (y:IsTup s.heap b a.toArray) (p:d≠[]) (x:a=[]->Q (.ref t) s) (z:a≠[]->Q (.ref s.heap.objs.size) { s with heap:=s.heap.push { cls:=.type "tuple",data:=.seq (d++a).toArray } }) (k:d.length+a.length<=sizeLine):wpAny (model prog w) A (binaryOp .Add (.ref t) (.ref b)) Q E s:=by
 obtain⟨⟨cls,v,data,q⟩,j,u,n,r⟩:=id B
 obtain⟨⟨o,h,l,i⟩,c,g,m,f⟩:=id y
 simp only at u r g f
 subst u r g f
 have e:d.toArray++a.toArray=(d++a).toArray:=by simp
 by_cases hw:a=[]
 .exact concat_meets ⟨_,j,rfl⟩ ⟨_,c,rfl⟩ noFill_tuple_add seq_tuple_add u01 u0U (u0M _ _)
   (tuple_addW1 t b d.toArray a.toArray n m v h q i (by simpa using p) (by simp[hw])) ⟨j,c,x hw⟩
 .refine concat_meets ⟨_,j,rfl⟩ ⟨_,c,rfl⟩ noFill_tuple_add seq_tuple_add u01 u0U (u0M _ _)
   (tuple_addW2 t b d.toArray a.toArray n m v h q i (by simpa using p) (by simpa using hw) (by rw[q7,q7];exact k)) ⟨j,c,?_⟩
  rw[e]
  exact z hw
def sIx (n d:Nat):yu->Nat
 | none=>d
 | some v=>if v<0 then (v+(n:Int)).toNat else min v.toNat n
def sIx_none (n d:Nat):sIx n d none=d:=rfl
def sIx_nat (n d k:Nat):sIx n d (some (k:Int))=min k n:=by
 show(if (k:Int)<0 then ((k:Int)+(n:Int)).toNat else min (k:Int).toNat n)=min k n
 rw[j6 (by omega),u04]
def zic (n d:Nat)(b:d<=n)(o:yu):sIx n d o<=n:=by
 cases o with
 | none=>exact b
 | some v =>
  show(if v<0 then (v+(n:Int)).toNat else min v.toNat n)<=n
  by_cases a:v<0
  .rw[j0 a];omega
  .rw[j6 a];exact Nat.min_le_right _ _
def zdg (v:Int)(n d:Nat):(if v<0 then max (v+(n:Int)) 0 else min v (n:Int))=((sIx n d (some v):Nat):Int):=by
 show(if v<0 then max (v+(n:Int)) 0 else min v (n:Int))=(((if v<0 then (v+(n:Int)).toNat else min v.toNat n):Nat):Int)
 by_cases a:v<0
 .simp only[j0 a];omega
 .simp only[j6 a];omega
def zbB (b a:yu)(n:Nat):Builtin.Slice.sliceAdjust b a 1 (n:Int)=(((sIx n 0 b:Nat):Int),((sIx n n a:Nat):Int)):=by
 have c:¬ ((1:Int)<0):=by omega
 unfold Builtin.Slice.sliceAdjust
 simp only[c,if_false]
 refine Prod.ext ?_ ?_
 .cases b with
  | none=>rfl
  | some v=>exact zdg v n 0
 .cases a with
  | none=>rfl
  | some v=>exact zdg v n n
def zbd (i j:Nat):Builtin.Slice.slicePlaces (i:Int) (j:Int) 1=j-i:=by
 unfold Builtin.Slice.slicePlaces
 have a:(1:Int)>0:=by omega
 simp only[a,u1Q,Int.ediv_one]
 split <;> omega
def XZ {Q:yu->Shared->Prop}(p:IsPart v o)(h:Q o s):wpAny (model prog w) A (Builtin.Slice.slicePartIndex v) Q E s:=by
 cases p with
 | none=>exact slicePart_none h
 | int i t=>exact slicePart_int h
def vG {g:Addr}{f:Value}{Q:Int × Int × Nat->Shared->Prop}(i:s.heap.IsSliceOf g f e .none)(j:IsPart f a)(k:IsPart e b)(h:Q (((sIx n 0 a:Nat):Int),1,sIx n n b-sIx n 0 a) s):wpAny (model prog w) A (Builtin.Slice.sliceApplied (.ref g) (pure (n:Int))) Q E s:=by
 obtain⟨os,d,l,c⟩:=id i
 unfold Builtin.Slice.sliceApplied Builtin.Slice.sliceFields
 refine u5 (u5 (p7 d c (x:=f) rfl (u5 (p7 d c (x:=e) rfl (u5 (p7 d c (x:=.none) rfl (t9 ?_)))))))
 refine u5 (slicePart_none ?_)
 show wpAny _ _ (if ((1:Int) == 0)=true then _ else _) _ _ s
 rw[j6 (by decide)]
 refine u5 (XZ j (u5 (XZ k (u5 (t9 ?_)))))
 show wpAny _ _ (match Builtin.Slice.sliceAdjust a b 1 (n:Int)with | (a,b)=>pure (a,(1:Int),Builtin.Slice.slicePlaces a b 1)) _ _ s
 rw[zbB a b n]
 show wpAny _ _ (pure (((sIx n 0 a:Nat):Int),(1:Int),Builtin.Slice.slicePlaces ((sIx n 0 a:Nat):Int) ((sIx n n b:Nat):Int) 1)) _ _ s
 rw[zbd]
 exact t9 h
def ze9 (a:vC)(i k:Nat):((List.range k).filterMap λ(m:Nat)=>a[((i:Int)+(m:Int)*1).toNat]?).toArray=((a.toList.drop i).take k).toArray:=by
 have e:(λ(m:Nat)=>a[((i:Int)+(m:Int)*1).toNat]?)=λm=>a[i+m]?:=by
  funext m
  have:((i:Int)+(m:Int)*1).toNat=i+m:=by omega
  rw[this]
 rw[e]
 have:=pick_run a i k
 rw[List.filterMap_map]at this
 have b:((λx=>a[x]?)∘λx=>i+x)=λm=>a[i+m]?:=rfl
 rw[b]at this
 rw[this]
def getItem_tuple_cut {a:vC} {Q:xa} (e:IsTup s.heap t a) (l:s.heap.IsSliceOf k o n .none) (u:IsPart o c) (v:IsPart n d) (hw:¬ (sIx a.size 0 c=0/\sIx a.size a.size d=a.size)) (h:Q (.ref s.heap.objs.size) { s with heap:=s.heap.push { cls:=.type "tuple",data:=.seq ((a.toList.drop (sIx a.size 0 c)).take (sIx a.size a.size d-sIx a.size 0 c)).toArray } }) (p:a.size<=sizeLine):wpAny (model prog w) A (getItem (.ref t) (.ref k)) Q E s:=by
 have b:sizeOk (.seq ((a.toList.drop (sIx a.size 0 c)).take (sIx a.size a.size d-sIx a.size 0 c)).toArray):=by
  show((a.toList.drop (sIx a.size 0 c)).take (sIx a.size a.size d-sIx a.size 0 c)).toArray.size<=sizeLine
  rw[q7,r0,r9,h8]
  omega
 have z:sIx a.size a.size d<=a.size:=zic _ _ (t7 _) d
 obtain⟨os,g,i,r⟩:=id l
 have f:s.TypeIs (.ref k) "slice":=⟨os,g,i⟩
 unfold getItem
 try with_reducible refine l5 ?_
 first | refine u5 (t9 ?_) | skip
 refine u5 (wpAny_sequenceKey e.typeIs (by decide) ?_)
 refine u5 (g9 (name:=Str.ofString "__getitem__") e.typeIs o9
  (u0e o9 e.typeIs entry_tuple_getitem ?_ (args_tuple_getitem _ _)))
 show wpAny _ _ (Builtin.Tuple.tupleItemsOf (.ref t)>>=_) _ _ s
 refine u5 (tupleItemsOf_ e ?_)
 refine u5 (u2c f ?_)
 rw[j0 (by decide)]
 refine u5 (vG l u v ?_)
 have j:¬ ((((sIx a.size 0 c:Nat):Int) == 0&&(1:Int) == 1&&(sIx a.size a.size d-sIx a.size 0 c) == a.size)=true):=by
  intro q
  rw[t5,t5]at q
  have y:((sIx a.size 0 c:Nat):Int)=0:=eq_of_beq q.1.1
  have x:sIx a.size a.size d-sIx a.size 0 c=a.size:=eq_of_beq q.2
  exact hw ⟨by omega,by omega⟩
 show wpAny _ _ (if (((sIx a.size 0 c:Nat):Int) == 0&&(1:Int) == 1&&(sIx a.size a.size d-sIx a.size 0 c) == a.size)=true then _ else _) _ _ s
 rw[j6 j,ze9]
 first
  | exact u5 (m:=Builtin.Tuple.tupleExact _) (h7 (t9 ⟨_,rfl,t9 h⟩) b)
  | exact u5 (m:=Builtin.Tuple.tupleExact _) (h7 (u5 (t9 (t9 ⟨_,rfl,t9 h⟩))) b)
  | exact u5 (u5 (m:=Builtin.Tuple.tupleExact _) (h7 (t9 (t9 ⟨_,rfl,t9 h⟩)) b))
  | exact u5 (u5 (m:=Builtin.Tuple.tupleExact _) (h7 (t9 ⟨_,rfl,t9 h⟩) b))
end
end HT
namespace L2
open PySem PySem.Spec PyProof.Rows
abbrev TO:=St->Hp->(yu->Hp->Prop)->Prop
def PO (X:Cx)(e:Option Expr)(t:TO):Prop :=
 ∀ (a:xo) (s:zi) (σ:St) (H:Hp) (Q:yu->Hp->Prop),Inv X a σ H s->t σ H Q ->
  wpAny (model X.prog X.w) X.A (evalPart e X.env) (λu b=>∃ o H',Inv X a σ H' b/\IsPart u o/\Q o H') X.xe s
def zgK:TO:=λ_ H Q=>Q none H
def zke (t:TE):TO:=fun σ H Q=>t σ H λx H1=>∃ i,x=.int i/\Q (some i) H1
def X2 {ns:zB}:∀ {a:zH},yU (ns.map V.int) a->IntsAre a ns:=by
 induction ns with
 | nil=>intro a r;rw[List.map_nil]at r;cases r;exact .nil
 | cons n ns c =>
  intro a r
  rw[u0w]at r
  cases r with
  | cons b d =>
   obtain⟨t,e⟩:=b
   subst e
   exact .cons n t (c d)
section
variable {X:Cx}{e:Expr}{te:TE}{lo hi:Option Expr}{tl th:TO}{pos p2:Pos}
def zgE:PO X none zgK:=by
 intro a s σ H Q I h
 rw[evalPart_none]
 exact t9 ⟨none,H,I,.none,h⟩
def zf6 (h:PE X e te):PO X (some e) (zke te):=by
 intro a s σ H Q I hw
 rw[evalPart_some]
 refine thn (h a s σ H _ I hw) λu d hh9=>?_
 obtain⟨x,H1,I1,b,c⟩:=hh9
 obtain⟨i,rfl,q⟩:=c
 obtain⟨t,rfl⟩:=b
 exact⟨some i,H1,I1,.int i t,q⟩
def SlR (X:Cx)(r:V->yu->yu->Hp->VK->Prop):Prop :=
 ∀ (a:xo) (s:zi) (σ:St) (H:Hp) (x:V) (v d c:Value) (lo hi:yu) (b:Addr) (Q:VK),Inv X a σ H s->xW x v->s.heap.IsSliceOf b d c .none->IsPart d lo->IsPart c hi->r x lo hi H Q ->
  ∃ T id,typeLookup (.type T) "__getitem__"=pure (some (.builtin id))/\s.TypeIs v T/\wpAny (model X.prog X.w) X.A (getItem v (.ref b)) (EP X a σ Q) X.xe s
def SlR.or {r d:V->yu->yu->Hp->VK->Prop}(h:SlR X r)(k:SlR X d):SlR X (λx lo hi H Q=>r x lo hi H Q\/d x lo hi H Q):=by
 intro a s σ H x v f e lo hi i Q I g b c j q
 rcases q with q | q
 .exact h a s σ H x v f e lo hi i Q I g b c j q
 .exact k a s σ H x v f e lo hi i Q I g b c j q
def tSl (r:V->yu->yu->Hp->VK->Prop)(te:TE)(tl th:TO):TE:=fun σ H Q=>te σ H λx H1=>tl σ H1 λl H2=>th σ H2 λu H3=>r x l u H3 Q
def zax (y:SlR X r)(n:PE X e te)(B:PO X lo tl)(j:PO X hi th):PE X (.Subscript e (.Slice lo hi none p2) pos) (tSl r te tl th):=by
 intro a s σ H Q I h
 refine Subscript_ (thn (n a s σ H _ I h) λv k hh9=>?_)
 obtain⟨x,H1,I1,g,t⟩:=hh9
 refine wpAny_Slice (thn (B a k σ H1 _ I1 t) λf w ⟨l,H2,I2,m,i⟩=>thn (j a w σ H2 _ I2 i) λd c hh9=>?_)
 obtain⟨u,H3,I3,A,p⟩:=hh9
 rw[evalPart_none]
 refine t9 ?_
 have I4:Inv X a σ H3 { c with heap:=c.heap.push { cls:=.type "slice",data:=.fields #[f,d,.none] } }:=I3.kept (t':=c.toks) λb D q=>u6 _ q
 obtain⟨T,id,C,o,z⟩:=y a { c with heap:=c.heap.push { cls:=.type "slice",data:=.fields #[f,d,.none] } } σ H3 x v f d l u c.heap.objs.size Q I4 g (Heap.IsSliceOf.new ..) m A p
 show wpAny (model X.prog X.w) X.A (subscriptTail e (.Slice lo hi none p2) v (.ref c.heap.objs.size)) (EP X a σ Q) X.xe { c with heap:=c.heap.push { cls:=.type "slice",data:=.fields #[f,d,.none] } }
 exact tail_any (ops:=[.ref c.heap.objs.size,v]) o C z (by with_unfolding_all rfl)
def zaa (a:zz)(lo hi:yu):zz:=(a.drop (HT.sIx a.length 0 lo)).take (HT.sIx a.length a.length hi-HT.sIx a.length 0 lo)
def Xl (a:zz)(lo hi:yu):(zaa a lo hi).length<=a.length:=by
 unfold zaa
 rw[r0,r9]
 omega
def rSlT (K:zu):V->yu->yu->Hp->VK->Prop:=λx lo hi H Q=>∃ a b,x=.ref a/\SqT K H a b /\
 ¬ (HT.sIx b.length 0 lo=0/\HT.sIx b.length b.length hi=b.length)/\∀ p,H p=none->Q (.ref p) (upd H p (.tup (zaa b lo hi)))
def zjc:SlR X (rSlT X.K):=by
 intro i s σ H x v u p lo hi w Q I m j k n h
 obtain⟨a,d,rfl,l,hw,q⟩:=h
 cases m
 obtain⟨e,r,g,f⟩:=I.tuple l
 have c:e.toArray.size=d.length:=by rw[q7];exact r.length.symm
 refine⟨"tuple",_,o9.lookup,g.typeIs,?_⟩
 refine HT.getItem_tuple_cut g j k n (by rw[c];exact hw) ?_ (by rw[c];exact f)
 rw[c]
 refine⟨.ref s.heap.objs.size,_,I.laid (t':=s.toks) (o:=.tup (zaa d lo hi)) (λb t q=>u6 _ q) (t7 _) ?_,rfl,q _ (I.hok.fresh (t7 _))⟩
 exact⟨k9 (Xl d lo hi) f,_,(r.drop (HT.sIx d.length 0 lo)).take (HT.sIx d.length d.length hi-HT.sIx d.length 0 lo),IsTup.new _ _⟩
def zjO (K:zu):R2:=λx y H Q=>∃ a b d c,x=.ref a/\y=.ref b/\SqT K H a d/\SqT K H b c/\d≠[]/\d.length+c.length<=sizeLine /\
 (c=[]->Q (.ref a) H)/\(c≠[]->∀ p,H p=none->Q (.ref p) (upd H p (.tup (d++c))))
def yU.nil_iff (r:yU a b):b=[]↔a=[]:=by
 cases r with
 | nil=>simp
 | cons _ _=>simp
def zgN:OpR X (binaryOp .Add) (zjO X.K):=by
 intro g s σ H x y v u Q I t j h
 obtain⟨a,b,A,m,rfl,rfl,r,i,p,e,n,k⟩:=h
 cases t
 cases j
 obtain⟨B,d,l,_⟩:=I.tuple r
 obtain⟨f,c,p2,_⟩:=I.tuple i
 refine HT.cat_tup l p2 (λz=>p (d.nil_iff.mp z)) (λz=>⟨.ref a,H,I,rfl,n (c.nil_iff.mp z)⟩) (λz=>?_) (by rw[<-d.length,<- c.length];exact e)
 refine⟨.ref s.heap.objs.size,_,I.laid (t':=s.toks) (o:=.tup (A++m)) (λb C q=>u6 _ q) (t7 _) ?_,rfl,k (λw=>z (c.nil_iff.mpr w)) _ (I.hok.fresh (t7 _))⟩
 exact⟨by rw[q5];exact e,_,d.append c,IsTup.new _ _⟩
end
def ixN (n:Nat)(i:Int):Option Nat:=if 0<=i then (if i<n then some i.toNat else none)else if -(n:Int)<=i then some (i+n).toNat else none
def atI {α:Type}(a:List α)(i:Int):Option α:=(ixN a.length i).bind λj=>a[j]?
def zga (h:ixN n i=some j):seqIndex? i n=some j/\j<n/\-(n:Int)<=i/\i<n:=by
 unfold ixN at h
 by_cases h0:0<=i
 .rw[j0 h0]at h
  by_cases a:i<n
  .rw[j0 a]at h
   have e:i.toNat=j:=o6 h
   exact⟨by rw[seqIndex_of h0 a,e],by omega,by omega,a⟩
  .rw[j6 a]at h;cases h
 .rw[j6 h0]at h
  by_cases a:-(n:Int)<=i
  .rw[j0 a]at h
   have e:(i+n).toNat=j:=o6 h
   exact⟨by rw[seqIndex_neg (by omega) a,e],by omega,a,by omega⟩
  .rw[j6 a]at h;cases h
def zah {α:Type}{a:List α}{v:α}(h:atI a i=some v):∃ j,seqIndex? i a.length=some j/\a[j]?=some v/\j<a.length/\-(a.length:Int)<=i/\i<a.length:=by
 unfold atI at h
 cases e:ixN a.length i with
 | none=>rw[e]at h;cases h
 | some j =>
  rw[e]at h
  obtain⟨b,f,c,d⟩:=zga e
  exact⟨j,b,h,f,c,d⟩
def zf9 {α:Type}{a:List α}{j:Nat}{v:α}(h:a[j]?=some v):atI a (j:Int)=some v:=by
 have b:j<a.length:=(q4.mp h).1
 have e:ixN a.length (j:Int)=some j:=by
  unfold ixN
  rw[j0 (by omega),j0 (by omega)];simp
 unfold atI;rw[e];exact h
def VX (b:Expr):Prop:=∀ o i,subscripted b false o i=operate [o,i] (getItem o i)
def IxR (X:Cx)(r:R2):Prop :=
 ∀ (c a:Expr) (b:xo) (s:zi) (σ:St) (H:Hp) (x y:V) (v u:Value) (Q:VK),Inv X b σ H s->xW x v->xW y u->r x y H Q ->
  subscripted a false v u=operate [v,u] (getItem v u)->wpAny (model X.prog X.w) X.A (subscriptTail c a v u) (EP X b σ Q) X.xe s
def MtR (X:Cx)(id:String)(r:V->zz->Hp->VK->Prop):Prop :=
 ∀ (a:xo) (s:zi) (σ:St) (H:Hp) (x:V) (b:zz) (v:Value) (c:zH) (Q:VK),Inv X a σ H s->xW x v->yU b c->r x b H Q ->
  wpAny (model X.prog X.w) X.A (call (.builtin id) (v::c)) (EP X a σ Q) X.xe s
section
variable {X:Cx}{a b:Expr}{ta tb:TE}{pos:Pos}
def IxR.or {r f:R2}(h:IxR X r)(i:IxR X f):IxR X (λx y H Q=>r x y H Q\/f x y H Q):=by
 intro a b c s σ H x y v u Q I g e q d
 rcases q with q | q
 .exact h a b c s σ H x y v u Q I g e q d
 .exact i a b c s σ H x y v u Q I g e q d
def ziV (k:IxR X r)(i:PE X a ta)(e:PE X b tb)(d:VX b):PE X (.Subscript a b pos) (tOp r ta tb):=by
 intro c s σ H Q I h
 exact Subscript_ (zki i e I h λv u g x y H2 I2 j f q=>k a b c g σ H2 x y v u Q I2 j f q (d _ _))
def rIxL (K:zu):R2:=λx y H Q=>∃ p a i v,x=.ref p/\y=.int i/\SqL K H p a/\atI a i=some v/\Q v H
def rIxT (K:zu):R2:=λx y H Q=>∃ p a i v,x=.ref p/\y=.int i/\SqT K H p a/\atI a i=some v/\Q v H
def zjV:R2:=λx y H Q=>∃ z i c,x=.str z/\y=.int i/\z.length<=sizeLine/\atI z.cps.toList i=some c/\Q (.str ⟨#[c]⟩) H
def zhc:IxR X (rIxL X.K):=by
 intro c f a s σ H x y v u Q I A n h l
 obtain⟨p,J,i,z,rfl,rfl,B,o,q⟩:=h
 cases A
 obtain⟨t,rfl⟩:=n
 obtain⟨k,r,d,M⟩:=I.list B
 obtain⟨j,b,C,L,D,E⟩:=zah o
 obtain⟨w,m,e⟩:=r.get C
 have G:=r.length
 have K:=XV
 have fin:EP X a σ Q w s:=⟨z,H,I,e,q⟩
 by_cases h0:0<=i
 .have g:i.toNat=j:=by
   rw[seqIndex_of h0 E]at b
   exact o6 b
  exact item_listR d.isList h0 (by omega) (by rw[g];simpa using m) fin l
 .have g:(i+(k.toArray.size:Int)).toNat=j:=by
   rw[seqIndex_neg (by omega) D]at b
   rw[q7,<- G]
   exact o6 b
  exact subscriptTail_builtinR (x:=w) d.isList.typeIs slot_list_getitem.lookup
   (wpAny_getItem_list_neg (Q:=λr F=>r=w/\EP X a σ Q r F) d.isList (by omega) (by rw[q7] <;> omega) (by omega) (by rw[g];simpa using m) ⟨rfl,fin⟩) l
def zjf:IxR X (rIxT X.K):=by
 intro b d a s σ H x y v u Q I k f h m
 obtain⟨p,E,i,z,rfl,rfl,o,g,q⟩:=h
 cases k
 obtain⟨t,rfl⟩:=f
 obtain⟨C,r,e,L⟩:=I.tuple o
 obtain⟨j,l,A,G,J,K⟩:=zah g
 obtain⟨w,n,c⟩:=r.get A
 have D:=r.length
 have F:=XV
 have fin:EP X a σ Q w s:=⟨z,H,I,c,q⟩
 exact subscriptTail_builtinR (x:=w) e.typeIs slot_tuple_getitem.lookup
  (getItem_tuple (j:=j) (Q:=λr B=>r=w/\EP X a σ Q r B) e (by omega) (by omega) (by rw[q7,<- D];exact l) (by simpa using n) ⟨rfl,fin⟩) m
def zfq:IxR X zjV:=by
 intro a b e s σ H x y v u Q I r g h f
 obtain⟨z,i,c,rfl,rfl,B,o,q⟩:=h
 obtain⟨t,rfl⟩:=r
 obtain⟨C,rfl⟩:=g
 obtain⟨j,d,k,A,l,m⟩:=zah o
 have w:z.cps.toList.length=z.length:=by simp[Str.length]
 rw[w]at d l m
 have D:=XV
 exact tail_any (u0q s z t) slot_str_getitem.lookup (getItem_str (c:=c) (by
  have n:decide (i < -(2^63:Int))=false:=u7 (by omega)
  have p:decide (i >= 2^63)=false:=u7 (by omega)
  rw[n,p,Bool.or_false]) (by rw[d];simpa using k) ⟨.str ⟨#[c]⟩,H,I.tok _,⟨_,rfl⟩,q⟩) f
def rIx (K:zu):R2:=λx y H Q=>rIxL K x y H Q\/rIxT K x y H Q\/zjV x y H Q
def zhJ:IxR X (rIx X.K):=zhc.or (zjf.or zfq)
def WQ (b a:yu)(n:Nat):(sliceBounds b a none n).1=((HT.sIx n 0 b:Nat):Int)/\(sliceBounds b a none n).2.1=((HT.sIx n n a:Nat):Int)/\(sliceBounds b a none n).2.2=1:=by
 refine⟨?_,?_,rfl⟩
 .cases b with
  | none=>simp[sliceBounds,HT.sIx]
  | some i =>
   simp only[sliceBounds,HT.sIx,Option.getD_none,show(1:Int)>0 by decide,u1Q]
   by_cases h:i<0
   .simp only[h,u1Q] <;> omega
   .simp only[h,if_false] <;> omega
 .cases a with
  | none=>simp[sliceBounds,HT.sIx]
  | some i =>
   simp only[sliceBounds,HT.sIx,Option.getD_none,show(1:Int)>0 by decide,u1Q]
   by_cases h:i<0
   .simp only[h,u1Q] <;> omega
   .simp only[h,if_false] <;> omega
def WF (a:zH)(b c:yu):slicePick a.toArray b c none=((a.drop (HT.sIx a.length 0 b)).take (HT.sIx a.length a.length c-HT.sIx a.length 0 b)).toArray:=by
 obtain⟨d,f,e⟩:=WQ b c a.toArray.size
 unfold slicePick
 rw[d,f,e]
 simp only[sliceRange_one,pick_run,q7] <;> rfl
def rSlL (K:zu):V->yu->yu->Hp->VK->Prop:=λx d c H Q=>∃ a b,x=.ref a/\SqL K H a b/\∀ p,H p=none->Q (.ref p) (upd H p (.lst (zaa b d c)))
def zht:SlR X (rSlL X.K):=by
 intro i s σ H x v y u e f z Q I n j k p h
 obtain⟨a,c,rfl,m,q⟩:=h
 cases n
 obtain⟨t,r,g,l⟩:=I.list m
 have d:=r.length
 refine⟨"list",_,slot_list_getitem.lookup,g.isList.typeIs,?_⟩
 refine wpAny_getItem_list_slice g.isList j k p .none (by simp) ?_ (by rw[q7] <;> omega)
 rw[WF,<- d]
 refine⟨.ref s.heap.objs.size,_,I.laid (t':=s.toks) (o:=.lst (zaa c e f)) (λb w q=>u6 _ q) (t7 _) ?_,rfl,q _ (I.hok.fresh (t7 _))⟩
 exact⟨k9 (Xl c e f) l,_,0,(r.drop (HT.sIx c.length 0 e)).take (HT.sIx c.length c.length f-HT.sIx c.length 0 e),j4 _ rfl⟩
def zgv:V->Bool
 | .non=>true
 | .bl _=>true
 | .int _=>true
 | .str _=>true
 | _=>false
def eqV:V->V->Bool
 | .non,.non=>true
 | .bl a,.bl b=>a == b
 | .bl a,.int b=>(if a then 1 else 0) == b
 | .int a,.bl b=>a == (if b then 1 else 0)
 | .int a,.int b=>a == b
 | .str a,.str b=>a == b
 | _,_=>false
def zft (e:xW y u)(c:xW x v)(g:zgv y=true)(f:zgv x=true):SeqAt.EqAt A s u v (eqV y x):=by
 cases y with
 | non =>
  cases e
  cases x with
  | non=>cases c;exact SeqAt.EqAt.same _
  | bl b=>cases c;exact SeqAt.EqAt.none_bool b
  | int b=>obtain⟨t,rfl⟩:=c;exact SeqAt.EqAt.none_int b t
  | str b=>obtain⟨t,rfl⟩:=c;exact SeqAt.EqAt.none_str b t
  | _=>exact absurd (show false=true from f) u9
 | bl a =>
  cases e
  cases x with
  | non=>cases c;exact SeqAt.EqAt.bool_none a
  | bl b=>cases c;exact SeqAt.EqAt.bool_bool a b
  | int b=>obtain⟨t,rfl⟩:=c;exact SeqAt.EqAt.bool_int a b t
  | str b=>obtain⟨t,rfl⟩:=c;exact SeqAt.EqAt.bool_str a b t
  | _=>exact absurd (show false=true from f) u9
 | int a =>
  obtain⟨d,rfl⟩:=e
  cases x with
  | non=>cases c;exact SeqAt.EqAt.int_none a d
  | bl b=>cases c;exact SeqAt.EqAt.int_bool a d b
  | int b=>obtain⟨t,rfl⟩:=c;exact SeqAt.EqAt.int_int a d b t
  | str b=>obtain⟨t,rfl⟩:=c;exact SeqAt.EqAt.int_str a d b t
  | _=>exact absurd (show false=true from f) u9
 | str a =>
  obtain⟨d,rfl⟩:=e
  cases x with
  | non=>cases c;exact SeqAt.EqAt.str_none a d
  | bl b=>cases c;exact SeqAt.EqAt.str_bool a d b
  | int b=>obtain⟨t,rfl⟩:=c;exact SeqAt.EqAt.str_int a d b t
  | str b=>obtain⟨t,rfl⟩:=c;exact SeqAt.EqAt.str_str a d b t
  | _=>exact absurd (show false=true from f) u9
 | _=>exact absurd (show false=true from g) u9
def zI:Yy X (.builtin "len") (λg H Q=>∃ p b,g=[.ref p]/\(SqL X.K H p b\/SqT X.K H p b)/\Q (.int b.length) H):=by
 intro i s σ H g l Q I r h
 obtain⟨p,b,rfl,c,q⟩:=h
 obtain⟨u,rfl,k⟩:=WA r
 cases k
 have m:=XV
 rcases c with c | c
 .obtain⟨f,e,d,j⟩:=I.list c
  have a:=e.length
  exact Calls.call_len_list d.isList (by simp only[q7] <;> omega) ⟨.int b.length,H,I.tok _,⟨s.toks+1,by rw[q7,a]⟩,q⟩
 .obtain⟨f,e,d,j⟩:=I.tuple c
  have a:=e.length
  exact len_tuple d (by simp only[q7] <;> omega) ⟨.int b.length,H,I.tok _,⟨s.toks+1,by rw[q7,a]⟩,q⟩
def wL:Yy X (.builtin "len") (λa H Q=>∃ z,a=[.str z]/\z.length<=sizeLine/\Q (.int z.length) H):=by
 intro b s σ H a e Q I r h
 obtain⟨z,rfl,c,q⟩:=h
 obtain⟨u,rfl,t,rfl⟩:=WA r
 have d:=XV
 exact len_str (by omega) ⟨.int z.length,H,I.tok _,⟨_,rfl⟩,q⟩
def yZ:Yy X (.type "tuple") (λn H Q=>∃ p d,n=[.ref p]/\((SqL X.K H p d/\∀ l,H l=none->Q (.ref l) (upd H l (.tup d)))\/(SqT X.K H p d/\Q (.ref p) H))):=by
 intro a s σ H n w Q I r h
 obtain⟨p,d,rfl,h⟩:=h
 obtain⟨u,rfl,t⟩:=WA r
 cases t
 rcases h with ⟨j,q⟩ | ⟨j,q⟩
 .obtain⟨c,i,g,k⟩:=I.list j
  have m:=i.length
  refine call_tuple_list g.isList (λf v=>?_) (by simp only[q7] <;> omega)
  have I1:Inv X a σ H { s with heap:=f }:=I.kept (t':=s.toks) v
  have I2:Inv X a σ (upd H f.objs.size (.tup d)) { s with heap:=f.push { cls:=.type "tuple",data:=.seq c.toArray } } :=
   I1.laid (t':=s.toks) (λb o e=>u6 _ e) (t7 _) (show xI X.prog X.w _ _ _ (.tup d) from⟨k,c,i,IsTup.new _ _⟩)
  exact⟨.ref f.objs.size,_,I2,rfl,q _ (I1.hok.fresh (t7 _))⟩
 .obtain⟨c,i,g,k⟩:=I.tuple j
  exact call_tuple_same g ⟨.ref p,H,I,rfl,q⟩
def tyV (K:zu)(T:String)(x:V)(H:Hp):Prop:=match x with
 | .str _=>T="str"
 | .int _=>T="int"
 | .ref p=>(T="list"/\∃ b,SqL K H p b)\/(T="tuple"/\∃ o,K.lookup p=some o/\o.cls=.type "tuple"/\o.dict=none) \/
  (T="dict"/\((∃ a,H p=some (.dK a))\/∃ a,H p=some (.dT a)))\/(T="set"/\∃ S n,H p=some (.set S n))
 | _=>False
def zjh {s:zi}(I:Inv X d σ H s)(r:xW x v)(ty:tyV X.K T x H) :
 s.TypeIs v T/\∀ a,v=.ref a->∃ k,s.heap.get? a=some k/\k.dict=none:=by
 cases x with
 | str z =>
  obtain⟨t,rfl⟩:=r
  cases (show T="str" from ty)
  exact⟨u0q s z t,λ_ e=>nomatch e⟩
 | int i =>
  obtain⟨t,rfl⟩:=r
  cases (show T="int" from ty)
  exact⟨typeIs_int s i t,λ_ e=>nomatch e⟩
 | ref p =>
  cases r
  rcases ty with ⟨rfl,u,l⟩ | ⟨rfl,o,b,q,h⟩ | ⟨rfl,b⟩ | ⟨rfl,S,n,b⟩
  .obtain⟨m,_,j,_⟩:=I.list l
   refine⟨j.isList.typeIs,λa e=>?_⟩
   cases e
   obtain⟨o,n,e,c,h,_⟩:=j
   exact⟨o,e,h⟩
  .refine⟨⟨o,I.kIn p o b,q⟩,λa e=>?_⟩
   cases e
   exact⟨o,I.kIn _ o b,h⟩
  .have z:∃ o,s.heap.get? p=some o/\o.ExactDict:=by
    rcases b with ⟨f,b⟩ | ⟨f,b⟩
    .obtain⟨_,_,_,_,o,_,_,e,ex,_⟩:=I.hok p _ b
     exact⟨o,e,ex⟩
    .obtain⟨_,_,_,_,o,_,_,e,ex,_⟩:=I.hok p _ b
     exact⟨o,e,ex⟩
   obtain⟨o,e,ex⟩:=z
   refine⟨⟨o,e,ex.1⟩,λa g=>?_⟩
   cases g
   exact⟨o,e,ex.2.1⟩
  .obtain⟨o,_,_,_,e,ex,_⟩:=I.hok p _ b
   refine⟨⟨o,e,ex.1⟩,λa g=>?_⟩
   cases g
   exact⟨o,e,ex.2.1⟩
 | _=>exact False.elim ty
def tBM (K:zu)(T:String)(r:V->zz->Hp->VK->Prop)(a:TE)(t:TA):TE:=fun σ H Q=>a σ H λx H1=>tyV K T x H1/\t σ H1 λb H2=>r x b H2 Q
variable {o e:Expr}{es:yK}{to:TE}{t:TA}{name:Str}{apos cpos:Pos}{T id:String}{r:V->zz->Hp->VK->Prop}
theorem vV (B:PlainAttrs T) (g:Slot T name id) (i:typeOf (.builtin id)=pure (.type "method_descriptor")) (D:MtR X id r) (p:PE X o to) (C:PA X (e::es) t)
 (c:attributeBase o name X.env (eval o X.env)=eval o X.env:=by rfl)
 (f:((backTo cpos (starEach (e::es) X.env)).all (λx=>!x.1)&&(backToKw cpos (keywordEach [] X.env)).all (λx=>x.1.isSome)
  && decide ((e::es).length+([]:List Keyword).length+(if ([]:List Keyword).isEmpty then 0 else 1) < 30))=true:=by rfl)
 (d:(apos.endLine == cpos.line)=true:=by rfl) (l:starEach (e::es) X.env=(false,eval e X.env)::starEach es X.env:=by rfl) (b:(backTo cpos (starEach es X.env)).any (·.1)=false:=by rfl) :
 PE X (.Call (.Attribute o name apos) (e::es) [] cpos) (tBM X.K T r to t):=by
 intro a s σ H Q I h
 refine u03 c f d rfl (thn (p a s σ H _ I h) λv q hh9=>?_)
 obtain⟨x,H1,I1,j,ty,u⟩:=hh9
 obtain⟨n,y⟩:=zjh I1 j ty
 refine⟨T,id,B,g,i,n,y,?_⟩
 have k:=C cpos a q σ H1 _ I1 u
 rw[l]at k ⊢
 refine u0Z (by show(false||(backTo cpos (starEach es X.env)).any (·.1))=false;rw[b] <;> rfl) (u1k ?_)
 exact thn k λz w ⟨A,H2,I2,E,m⟩=>D a w σ H2 x A v z Q I2 j E m
/- xs.append(e),list.index on a module's tuple .. are MtR facts of 06m -/
end
def MtM (X:Cx)(id:String)(r:V->zz->Hp->VK->Prop):Prop :=
 ∀ (a:xo) (s:zi) (σ:St) (H:Hp) (x:V) (b:zz) (v:Value) (c:zH) (Q:VK),Inv X a σ H s->xW x v->yU b c->r x b H Q ->
  wpAny (model X.prog X.w) X.A (call (.builtin id) (v::c)) (EP X a σ Q) X.xe s
def yU.one:∀ {x:V} {a:zH},yU [x] a->∃ u,a=[u]/\xW x u:=by
 intro x a h
 cases h with | cons r t=>cases t;exact⟨_,rfl,r⟩
def yU.rep (h:yU a b):∀ k:Nat,yU (List.replicate k a).flatten (List.replicate k b).flatten
 | 0=>.nil
 | k+1=>by
  rw[l7,l7,u0l,u0l]
  exact yU.append h (yU.rep h k)
def WW (a:zH):∀ (k:Nat) (b:zH),
 List.foldl (λc f=>c++f) b.toArray (List.replicate k a.toArray)=(b++(List.replicate k a).flatten).toArray
 | 0,b=>by simp
 | k+1,b=>by
  have e:b.toArray++a.toArray=(b++a).toArray:=by simp
  have d:(b++a)++(List.replicate k a).flatten=b++(List.replicate (k+1) a).flatten:=by
   rw[l7,u0l,u05]
  rw[<-d,<- WW a k (b++a),<- e,l7,List.foldl_cons]
section
variable {X:Cx}{pins:xo}{σ:St}{H:Hp}{s:zi}{l b:Addr}{xs ys zs:zz}
def Inv.lset {a its':zH} {f:vC->vC} {j:Nat} (I:Inv X pins σ H s) (b:H l=some (.lst xs)) (e:s.heap.get? l=some { cls:=.type "list",data:=.seq a.toArray n }) (d:f a.toArray=its'.toArray) (g:yU ys its') (i:ys.length<=sizeLine) :
 Inv X pins σ (upd H l (.lst ys)) { s with heap:=s.heap.update l (Obj.mapSeq f),toks:=j }:=by
 have q:=PySem.IsL.update e f
 rw[d]at q
 refine I.write (x:=l) (e:=l) (by rw[b];exact trivial) (.inl rfl) (λk u c h=>(Heap.get?_update_other s.heap (Obj.mapSeq f) (u0d c)).trans h) ⟨_,q⟩ ?_
 exact⟨i,its',_,g,q⟩
def Inv.lnew {its:zH}{t':Nat}(I:Inv X pins σ H s)(a:yU ys its)(b:ys.length<=sizeLine) :
 Inv X pins σ (upd H s.heap.objs.size (.lst ys)) { s with heap:=s.heap.push { cls:=.type "list",data:=.seq its.toArray },toks:=t' } :=
 I.laid (λ_ _ q=>u6 _ q) (t7 _) ⟨b,its,0,a,j4 _ rfl⟩
def Inv.fresh (I:Inv X pins σ H s):H s.heap.objs.size=none:=I.hok.fresh (t7 _)
def Inv.lstM (I:Inv X pins σ H s) (b:H l=some (.lst xs)):xs.length<=sizeLine/\∃ (a:zH) (n:Nat),yU xs a/\xs.length=a.length/\s.heap.get? l=some { cls:=.type "list",data:=.seq a.toArray n }:=by
 obtain⟨z,a,n,r,e⟩:=I.hok l _ b
 exact⟨z,a,n,r,r.length,e⟩
def zdU {n:Nat}(h:n<=sizeLine):Builtin.List.listTooLong n=false:=by
 unfold Builtin.List.listTooLong
 exact u7 (by omega)
end
section
variable {X:Cx}
def zdf:V->zz->Hp->VK->Prop:=λx b H Q=>∃ l a y,x=.ref l/\b=[y]/\H l=some (.lst a)/\a.length<sizeLine/\Q .non (upd H l (.lst (a++[y])))
def YQ:MtM X "list.append" zdf:=by
 intro c s σ H x k v j Q I g d h
 obtain⟨l,m,y,rfl,rfl,b,i,q⟩:=h
 cases g
 obtain⟨u,rfl,f⟩:=d.one
 obtain⟨z,a,n,r,o,e⟩:=I.lstM b
 refine u09 F.slot_list_append ⟨_,e,rfl⟩ F.entry_list_append (F.args_list_append_2 _ _) (PySem.list_append l a.toArray n u (by rw[q7];omega)) ⟨e,?_⟩
 refine⟨.non,_,I.lset (its':=a++[u]) b e (by simp) (r.append (.cons f .nil)) ?_,rfl,q⟩
 rw[q5,List.length_singleton]
 omega
def zjN:R2:=λx y H Q=>∃ l b a zs,x=.ref l/\y=.ref b/\H l=some (.lst a)/\H b=some (.lst zs)/\a.length+zs.length<=sizeLine/\∀ p,H p=none->Q (.ref p) (upd H p (.lst (a++zs)))
def WT:OpR X (binaryOp .Add) zjN:=by
 intro d s σ H x y v u Q I m g h
 obtain⟨l,b,B,zs,rfl,rfl,f,j,w,q⟩:=h
 cases m
 cases g
 obtain⟨z,c,n,r,C,e⟩:=I.lstM f
 obtain⟨A,a,t,p,o,k⟩:=I.lstM j
 refine PySem.P.add_list e k ?_ (by rw[q7,q7];omega)
 have i:c.toArray++a.toArray=(c++a).toArray:=by simp
 rw[i]
 exact⟨.ref _,_,I.lnew (t':=s.toks) (r.append p) (by rw[q5];omega),rfl,q _ I.fresh⟩
def rRep:R2:=λx y H Q=>∃ l k a,x=.ref l/\y=.int k/\H l=some (.lst a)/\-(2^63)<=k/\k<2^63/\a.length*k.toNat<=sizeLine /\
 ∀ p,H p=none->Q (.ref p) (upd H p (.lst (List.replicate k.toNat a).flatten))
def zgA {α:Type}(a:List α)(k:Nat):(List.replicate k a).flatten.length=k*a.length:=by
 induction k with
 | zero=>simp
 | succ k b=>rw[l7,u0l,q5,b,Nat.succ_mul,Nat.add_comm]
theorem zjm:OpR X (binaryOp .Mult) rRep:=by
 intro p s σ H x y v u Q I C A h
 obtain⟨l,k,M,rfl,rfl,E,D,G,w,q⟩:=h
 cases C
 obtain⟨t,rfl⟩:=A
 obtain⟨z,b,n,r,K,e⟩:=I.lstM E
 have f:b.toArray.size*k.toNat<=sizeLine:=by rw[q7,<- K];exact w
 have g:¬ b.toArray.size*k.toNat > (2 ^ 63 - 1) / 8:=by
  have:(sizeLine:Nat)<=(2 ^ 63 - 1) / 8:=by decide
  omega
 have i:¬ (!Builtin.List.listFitsIndex k)=true:=by
  rw[fitsIndex_both D G]
  exact u9
 have c:¬ Builtin.List.listTooLong (b.toArray.size*k.toNat)=true:=by
  rw[zdU f]
  exact u9
 have d:List.foldl (λj o=>j++o) #[] (List.replicate (if b.toArray.isEmpty=true then 0 else k.toNat) b.toArray)=(List.replicate k.toNat b).flatten.toArray:=by
  have B:∀ m:Nat,List.foldl (λj o=>j++o) #[] (List.replicate m b.toArray)=(List.replicate m b).flatten.toArray:=λm=>by
   have:=WW b m []
   rw[List.nil_append]at this
   exact this
  rw[B]
  cases b with
  | nil=>simp
  | cons a L=>rw[j6 (by simp)]
 refine wpAny_binaryOp_repeat_ref (T:="list") (U:="int") (by decide) ⟨_,e,rfl⟩ (λJ=>typeIs_int J k t) noFill_list_mul F.fills_int_mul F.slot_int_rmul repeat_list F.slot_int_index.lookup
  (u09 F.slot_int_rmul (typeIs_int s k t) F.entry_int_rmul (F.args_int_rmul_2 _ _) (int___rmul___int_list k t l b.toArray n)
   ⟨e,rfl,⟨_,e,rfl⟩,u09 F.slot_list_mul ⟨_,e,rfl⟩ F.entry_list_mul (F.args_list_mul_2 _ _) (AutoListH.list___mul___list_int_3 l b.toArray n k t i g c) ⟨e,?_⟩⟩)
 rw[d]
 exact⟨.ref _,_,I.lnew (t':=s.toks) (r.rep k.toNat) (by rw[zgA,Nat.mul_comm];exact w),rfl,q _ I.fresh⟩
end
end L2
namespace Att
open PySem PySem.W PySem.Calls PyProof.Rows
def Xi:∀ (ns:zB) (c:zH),WellAll P h c (ns.map WData.int)->IntsAre c ns:=by
 intro ns
 induction ns with
 | nil =>
  intro c w
  rw[List.map_nil]at w
  cases w
  exact .nil
 | cons n ns d =>
  intro c w
  rw[u0w]at w
  cases w with
  | cons a b =>
   cases a
   exact .cons _ _ (d _ b)
def zcg {l:OpenLaw}(x:l.most=some n){h:Heap}(b:l.row.toRowW.claim.pre args=true)(j:WellAll P h c args) :
 ∃ a o ns,c=[Value.ref a]/\args=[WData.list (ns.map WData.int)]/\h.get? a=some { cls:=.type "list",data:=.seq o.toArray }/\IntsAre o ns/\ns.length<=n:=by
 have k:WShape.hasAll [] args [.list .int]=true:=(pre_splitW b).1
 have m:l.pre.holds [] { args:=args }=true:=(pre_splitW b).2
 obtain⟨d,r,rfl,p,w⟩:=hasAllW_cons k
 obtain rfl:=hasAllW_nil w
 obtain⟨z,rfl,s⟩:=hasW_list p
 obtain⟨ns,rfl⟩:=items_int s
 have e:ns.length<=n:=by
  unfold OpenLaw.pre at m
  have g:(WTm.not (.lt (.lit (.int (n:Int))) (.len (.arg 0)))).holds [] { args:=[.list (ns.map .int)] }=true:=by
   have g:=(holds_andW m).1
   rw[x]at g
   exact g
  have i:=condW_of g (w_not (w_lt w_lit (w_len_list (w_arg rfl))))
  rw[t1]at i
  refine u15 λq=>?_
  have v:(n:Int)<((ns.length:Nat):Int):=by omega
  first
   | (rw[u8 v]at i;exact absurd i (by decide))
   | (simp at i;omega)
 cases j with
 | cons t y =>
  cases y
  cases t with
  | list u f=>exact⟨_,_,ns,rfl,rfl,u,Xi ns _ f,e⟩
def zds (l:OpenLaw)(args:List WData):l.row.toRowW.claim.post args (.bool true) args=true :=
 postW_of (r:=l.row.toRowW) (X:=(true == true))
  (show WShape.has [] (.bool true) .bool=true by first | rfl | decide | simp[WShape.has,WShape.arms,WShape.armsAll])
  (show(WTm.eq .res (.lit (.bool true))).value [] { args:=args,res:=some (.bool true),after:=args }=some (.bool (true == true))from w_eq_bool (w_res rfl) w_lit) rfl
def attach_call {l:OpenLaw}{YP:World->Heap->Prop}{d:DefRec}(H:l.most=some n)(z:d.params.defaults=[]) (call:∀ (w:World) (s₀ b:zi) (s x:wH) (j:Addr) (o:Obj) (u p e:Value) (a:Addr) (h:zH) (ns:zB),
 Ground q c [] XP w s₀ s x b.heap->YP w b.heap ->
 b.heap.get? j=some o->o.data=.func (docDef d.name d.params d.body d.scope u p e)->b.heap.CodeRec p d.name->s d.name=some (.ref j) ->
 b.heap.get? a=some { cls:=.type "list",data:=.seq h.toArray }->IntsAre h ns->ns.length<=n->b.gens=#[] ->
 codeAny (model l.prog w) callerA (.call (.ref j) ⟨[.ref a],[]⟩) (λr t=>r=.ok (.ret (.bool true))/\OldK b.heap t.heap/\t.os=b.os/\AllBare t.gens) b) :
 WalkO q c XP YP l.row.toRowW d [] (λf h=>PySem.call f h):=by
 intro w s₀ b s x G Y j o u p e K kV J F v B y Q args D R m C E A O
 obtain rfl:K=.none:=Dflts.none B z
 obtain rfl:kV=.none:=Dflts.noKw B
 obtain⟨a,h,ns,rfl,rfl,k,g,i⟩:=zcg H m A
 refine enter_call (u0t (call w s₀ b s x j o u p e a h ns G Y J (fd_plain F) v y k g i Q) λr t L=>?_)
 obtain⟨rfl,M,I,N⟩:=L
 exact⟨.inl ⟨.bool true,.bool true,[],rfl,λ_=>rfl,.bool true,zds l _,λ_=>⟨List.Pairwise.nil,λ_ P=>(nomatch P)⟩⟩,M,I,N⟩
section
variable {prog:zX}{w:World}{A:z5}{E:xa}{s:zi}{K:Frag}
def ledger (h:Heap)(L d:Addr):xo:=(List.range h.objs.size).filterMap λa=>if a=L\/a=d then none else (h.get? a).map λo=>(a,o)
end
end Att
namespace L2
open PySem PySem.Spec PyProof.Rows
def zcj:∀ {a:zH} {ns:zB},IntsAre a ns->yU (ns.map V.int) a:=by
 intro a ns h
 induction h with
 | nil=>exact .nil
 | cons n t h b=>exact .cons ⟨t,rfl⟩ b
def zkh (H:Hp):Prop:=∀ b,H b=none\/∃ o a,H b=some (.frz o (.lst a))
def zew {w:World} {K:zu} {N W:wH} {CX:CXT} {sp:Sp} {c:zi} {t:zH} {ns:zB} (KX:K.In c.heap) (M:c.heap.Ns mainGlobals N) (g:c.heap.Ns builtinsNs W) (S:∀ x:Str,x≠"__name__"->W x=bootBuiltins x) (L:c.heap.NoLimit) (hg:c.gens=#[]) (O:c.heap.get? a=some { cls:=.type "list",data:=.seq t.toArray }) (hi:IntsAre t ns) (hl:ns.length<=sizeLine) (hr:wF k callerA) (F:∀ i:Heap,K.In i->i.Ns mainGlobals N->vP P w K N i CX k R fd [x] sp) (y:∀ (s:zi) (u:Value),BindsTo s fd ⟨[u],[]⟩ [(x,u)]) (Y:∀ H:Hp,zkh H->SqL K H a (ns.map V.int)->sp [.ref a] H (λv _=>v=.bl true) λ_ _ _=>False) (X:∀ H e j,CX [] H c (λ_ _ _=>False) e j->False) :
 codeAny (model P w) callerA (.call (.ref R) ⟨[.ref a],[]⟩) (λr j=>r=.ok (.ret (.bool true))/\OldK c.heap j.heap/\j.os=c.os/\AllBare j.gens) c:=by
 have rv:=zcj hi
 have C:=hi.length
 -- from an abstract heap in which nothing but the script may be tracked
 have p:∀ H:Hp,zkh H->SqL K H a (ns.map V.int)->HOk P w H c.heap->(∀ b,H b≠none->b=a)->(H a≠none->K.lookup a=none) ->
  codeAny (model P w) callerA (.call (.ref R) ⟨[.ref a],[]⟩) (λr j=>r=.ok (.ret (.bool true))/\OldK c.heap j.heap/\j.os=c.os/\AllBare j.gens) c:=by
  intro H hO hS I Z hK
  have f:∀ {b:Addr} {o:Obj},c.heap.get? b=some o->H b=none->(zd4 c.heap H).get? b=some o:=λe n=>zeV e n
  have Q:∀ {b:Addr} {o:Obj} {J:Array DictEntry} {E:Nat},c.heap.get? b=some o->o.data=.dict J E->H b=none:=λ{b o J E} e d=>by
   cases q:H b with
   | none=>rfl
   | some u =>
    have T:b=a:=Z b (by rw[q];simp)
    subst T
    rw[O]at e;cases e
    have d':Data.seq t.toArray _=Data.dict J E:=d
    cases d'
  have l:∀ {b:Addr} {m:wH},c.heap.Ns b m->(zd4 c.heap H).Ns b m:=λ{b m} ⟨o,J,E,e,d,r⟩=>⟨o,J,E,f e (Q e d),d,r⟩
  have D:K.In (zd4 c.heap H):=λb o e=>f (KX b o e) (by
   cases q:H b with
   | none=>rfl
   | some u =>
    have T:b=a:=Z b (by rw[q];simp)
    subst T
    rw[hK (by rw[q];simp)]at e;cases e)
  have hM:Mod K N (zd4 c.heap H):=⟨D,l M,⟨W,l g,S⟩,let ⟨mc,h1,h2⟩:=L;⟨mc,l h1,h2⟩⟩
  have e0:zfa P w K N (zd4 c.heap H) callerA [] c H:=⟨rfl,hM,λb o e=>zhk e,Nat.le_of_eq (zde _ _),trivial,λb g=>absurd (show b∈([]:xw)from g) (by simp),I,.of_eq hg⟩
  refine u0t ((F _ D (l M)).run callerA [] c H ⟨[.ref a],[]⟩ [.ref a] [.ref a] _ _ hr e0 (y c (.ref a)) (.cons rfl .nil) (Y H hO hS)) λr j h=>?_
  cases r with
  | error e=>exact(X H e j h).elim
  | ok fl =>
   cases fl with
   | next=>exact False.elim h
   | brk=>exact False.elim h
   | cont=>exact False.elim h
   | ret u =>
    obtain⟨v,H',os,B,un,G,r',q⟩:=h
    have q':v=.bl true:=q
    subst q'
    obtain rfl:u=Value.bool true:=r'
    refine⟨rfl,OldK.of_keep λb o e=>?_,os,B⟩
    cases q:H b with
    | none=>exact un.keep b o e q (by intro z;exact absurd (show b∈([]:xw)from z) (by simp)) (by simp)
    | some u =>
     rcases hO b with z | ⟨ob,xs,z⟩
     .rw[q]at z;cases z
     .have z2:=un.frzs b ob _ z
      obtain⟨e1,_⟩:=I b _ z
      obtain⟨e2,_⟩:=G b _ z2
      rw[e]at e1;cases e1
      exact e2
 cases U:K.lookup a with
 | some o =>
  -- the script is one of the module's own objects
  have e:=KX a o U
  rw[O]at e
  cases e
  refine p (λ_=>none) (λ_=>.inl rfl) (.inr ⟨_,t.toArray,_,U,rfl,rfl,rfl,by rw[q7,C];exact hl,by simpa using rv⟩) (λb u z=>by have A:(none:Option HO)=some u:=z;cases A) (λb z=>absurd rfl z) λz=>absurd rfl z
 | none =>
  refine p (λb=>if b=a then some (.frz { cls:=.type "list",data:=.seq t.toArray } (.lst (ns.map V.int)))else none) (λb=>?_) (.inl (.inr ⟨{ cls:=.type "list",data:=.seq t.toArray },j0 rfl⟩)) (λb u z=>?_) (λb z=>?_) λ_=>U
  .by_cases g:b=a
   .exact .inr ⟨_,_,j0 g⟩
   .exact .inl (j6 g)
  .by_cases g:b=a
   .have A:=(j0 g).symm.trans z
    cases A
    subst g
    exact⟨O,by rw[t1];exact hl,t,_,rv,O⟩
   .have A:=(j6 g).symm.trans z
    cases A
  .by_cases g:b=a
   .exact g
   .exact absurd (j6 g) z
def walk_of {l:PySem.W.OpenLaw}{g:zr}{YP:World->Heap->Prop}{d:DefRec}{K:Params->PySem.W.Frag}{CX:World->CXT}{sp:World->Sp}(Q:l.most=some n)(r:n<=sizeLine)(z:d.params.defaults=[])(R:wF k callerA)(I:∀ (w:World) (h:Heap),YP w h->(K w.params).In h) (F:∀ (w:World) (j:wH) (p:Addr) (h:Heap),(K w.params).In h->h.Ns mainGlobals j->j d.name=some (.ref p) ->
 ∃ y:FuncData,(∀ (s:zi) (u:Value),BindsTo s y ⟨[u],[]⟩ [(x,u)]) /\
  ∀ b:Heap,(K w.params).In b->b.Ns mainGlobals j->vP l.prog w (K w.params) j b (CX w) k p y [x] (sp w)) (B:∀ (w:World) (H:Hp) (a:Addr) (ns:zB),ns.length<=n->zkh H->SqL (K w.params) H a (ns.map V.int)->sp w [.ref a] H (λv _=>v=.bl true) λ_ _ _=>False) (A:∀ (w:World) (H:Hp) (s:zi) (e:Value) (C:zi),CX w [] H s (λ_ _ _=>False) e C->False) :
 PySem.W.WalkO q g XP YP l.row.toRowW d [] (λf D=>PySem.call f D):=by
 refine Att.attach_call Q z λw s₀ O j W p o Z T E a D ns G Y X U P t m i c S=>?_
 have KX:=I w _ Y
 obtain⟨y,L,J⟩:=F w j p _ KX G.T.g t
 exact zew KX G.T.g G.T.b G.T.builtins G.T.nolimit S m i (k9 c r) R J L (λH M N=>B w H a ns c M N) λH e C=>A w H O e C
def vj (s:Stmt):Arguments:=match s with
 | .FunctionDef _ a _ _ _ _ _ _ _ _=>a
 | _=>{ posonlyargs:=[],args:=[],vararg:=none,kwonlyargs:=[],kw_defaults:=[],kwarg:=none,defaults:=[] }
def xb (s:Stmt):v3:=match s with
 | .FunctionDef _ _ b _ _ _ _ _ _ _=>b
 | _=>[]
def zw (s:Stmt):Scope:=match s with
 | .FunctionDef _ _ _ _ _ _ sc _ _ _=>sc
 | _=>{ kind:=.function,names:=[],isGenerator:=false,isCoroutine:=false }
abbrev CX0:CXT:=λ_ _ _ _ _ _=>False
abbrev E0:XK:=λ_ _ _=>False
def zjl:Ys CX0 X E0:=λ_ _ _ _ _ _ _ h=>h.elim
structure Fun (K:zu) (x qual:Str) (st:Stmt) (f:Addr) (fd:vy):Prop where
 ex:∃ (oc:Value) (od:xT) (kV doc pm:Value) (an:xT) (cdv ct:Value) (osl:Array (Option Value)),
  fd=W.fnOf x qual (vj st) (xb st) (zw st) .none kV doc pm an cdv ct/\K.lookup f=some ⟨oc,od,.func fd,osl⟩/\W.codeIn K cdv qual=true
 kp:W.keepIn K (.ref f)=true
section
variable {P:zX}{w:World}{K:zu}{mg:wH}{base:Heap}
def Fun.ok {f:Addr}{N l:zr}{m:Sp}(F:Fun K x a e f n)(S:we N l (zw e))(g:∀ c H Q E,m c H Q E->c.length=l.length) (d:∀ (b:Value) (A:z5) (outer:List Env) (s:zi) (H:Hp) (c:zz) (Q:VK) (E:XK),wF k (A.deeper (envOfC a (zw e) s.heap.objs.size f b))->m c H Q E ->
 ∃ t,PSs (vQ CX0 P w K mg base N a (zw e) f b A outer s H E).nox (xb e) t/\t { nx:=λ_ H'=>Q .non H',rt:=Q } (start N c) H):vP P w K mg base CX0 (k+1) f n l m:=by
 obtain⟨y,z,kV,o,v,B,b,ct,r,rfl,p,i⟩:=F.ex
 refine zhV p i S g λA outer s H c Q E u j=>?_
 obtain⟨t,h,q⟩:=d b A outer s H c Q E u j
 exact⟨t,h.nox,q⟩
def Fun.binds {f:Addr}{ps:zr}(F:Fun K x a d f j)(h:∀ (kV c g:Value) (e:xT) (b ct:Value) (i:zH),i.length=ps.length->bindArgs (W.fnOf x a (vj d) (xb d) (zw d) .none kV c g e b ct) ⟨i,[]⟩=pure (ps.zip i)):YB K j ps []:=by
 obtain⟨m,n,kV,c,g,e,b,ct,l,rfl,o,k⟩:=F.ex
 exact .all (h kV c g e b ct)
def zdL {x a:Str}{st:Stmt}{f:Addr}{i:Value}{j g:xT}{e:Array (Option Value)}{kV d h b ct:Value}(l:K.lookup f=some ⟨i,j,.func (W.fnOf x a (vj st) (xb st) (zw st) .none kV d h g b ct),e⟩)
 (c:W.codeIn K b a=true) (k:W.keepIn K (.ref f)=true):Fun K x a st f (W.fnOf x a (vj st) (xb st) (zw st) .none kV d h g b ct):=⟨⟨i,j,kV,d,h,g,b,ct,e,rfl,l,c⟩,k⟩
end
def YK {n:Nat}(h:n<=1000):n<sizeLine:=p4 h (by decide)
section
variable {X:Cx}
def pv (i:Nat) (d:X.N[i]?=some x:=by rfl) (e:Vis X.env.scope x:=by first | exact Or.inl rfl | exact Or.inr (Or.inl rfl) | exact Or.inr (Or.inr rfl)) (c:(x == ("__debug__":Str))=false:=by decide) (a:(x == ("__classdict__":Str))=false:=by decide):PE X (.Name x b) (zao i):=zjq d e c a
end
def yt (H H':Hp):Prop:=∀ b o,H b=some o->H' b=some o
def yt.refl (H:Hp):yt H H:=λ_ _ h=>h
def yt.trans (a:yt H H1)(b:yt H1 H2):yt H H2:=λc o h=>b c o (a c o h)
def yt.free {H H':Hp}(e:yt H H')(h:H' l=Option.none):H l=Option.none:=by
 cases q:H l with
 | none=>rfl
 | some o =>
  rw[e l o q]at h
  cases h
def yt.seq {K:zu}{H H':Hp}{a:Addr}{b:zz}(e:yt H H')(h:SqL K H a b):SqL K H' a b:=by
 rcases h with (h | ⟨o,h⟩) | h
 .exact .inl (.inl (e _ _ h))
 .exact .inl (.inr ⟨o,e _ _ h⟩)
 .exact .inr h
section
variable {X:Cx}{pins:xo}{σ:St}{H:Hp}{s:zi}{a:Addr}{y v:V}{u r:Value}{o:Option V}{A:z5}{E:xa}
def Inv.big (I:Inv X pins σ H s):sysModules<s.heap.objs.size:=by
 have h:mainGlobals<s.heap.objs.size:=(I.mod.glob.keeps I.bk).lt
 exact Nat.lt_trans (by decide) h
end
def zen {w:World} (h:Heap) (a:sysModules<h.objs.size):xI P w H (h.push { cls:=.type "dict",data:=.dict #[] }) h.objs.size (.dK []) :=
 ⟨u07 _,u0b.mpr (u0d (j5 a)),[],.nil,Heap.DictOf.new h⟩
def zje:TE:=λ_ H Q=>∀ p,H p=none->Q (.ref p) (upd H p (.dK []))
section
variable {X:Cx}{pos:Pos}
def ze0:PE X (.Dict [] [] pos) zje:=λb s σ H Q I h =>
 wpAny_Dict_empty ⟨.ref s.heap.objs.size,_,I.laid (a:=s.heap.objs.size) (o:=.dK []) (t':=s.toks) (λ_ _ q=>u6 _ q) (t7 _) (zen s.heap I.big),rfl,h _ (I.hok.fresh (t7 _))⟩
end
def VR {X:Cx}:Yy X (.builtin "isinstance") (λa H Q=>∃ x n t b,a=[x,.ty n]/\zau X.K H x t/\W.kitOne X.K t (.type n)=some b/\Q (.bl b) H):=by
 intro c s σ H a i Q I r h
 obtain⟨x,n,t,b,rfl,ty,e,q⟩:=h
 obtain⟨u,d,rfl,f,rt⟩:=zhr r
 cases (show d=Value.type n from rt)
 exact zcW I f ty e λg=>⟨.bl b,H,I.tok _,rfl,q⟩
def zeR:OpR X (compareOp .Is) (λx y H Q=>∃ i j,x=.bl i/\y=.bl j/\Q (.bl (i == j)) H):=by
 intro a s σ H x y v u Q I c b h
 obtain⟨i,j,rfl,rfl,q⟩:=h
 cases c
 cases b
 refine wpAny_is_plain (by rfl) ⟨.bl (i == j),H,I,?_,q⟩
 cases i <;> cases j <;> rfl
def zfd (K:zu):R2:=λx y H Q=>∃ a b c d,x=.ref a/\y=.ref b/\SqT K H a c/\SqT K H b d/\c.length+d.length<=sizeLine /\
 (c=[]->Q (.ref b) H)/\(c≠[]->d=[]->Q (.ref a) H)/\(c≠[]->d≠[]->∀ p,H p=none->Q (.ref p) (upd H p (.tup (c++d))))
def zdT {X:Cx}:OpR X (binaryOp .Add) (zfd X.K):=by
 intro i s σ H x y v u Q I w o h
 obtain⟨a,b,A,K,rfl,rfl,t,C,P,F,L,E⟩:=h
 by_cases j:A=[]
 .subst j
  cases w
  cases o
  obtain⟨O,r,p,_⟩:=I.tuple t
  obtain⟨g,R,M,_⟩:=I.tuple C
  cases r
  obtain⟨⟨cls,G,data,N⟩,D,B,n,z⟩:=id p
  obtain⟨⟨q,l,m,k⟩,f,d,J,c⟩:=id M
  simp only at B z d c
  subst B z d c
  exact concat_meets ⟨_,D,rfl⟩ ⟨_,f,rfl⟩ noFill_tuple_add seq_tuple_add u01 u0U (u0M _ _)
   (tuple_addW0 a b #[] g.toArray n J G l N k rfl) ⟨D,f,⟨.ref b,H,I,rfl,F rfl⟩⟩
 .refine zgN i s σ H (.ref a) (.ref b) v u Q I w o ⟨a,b,A,K,rfl,rfl,t,C,j,P,?_⟩
  exact⟨λe=>L j e,λe=>E j e⟩
inductive Zw:St->St->Prop where
 | nil:Zw [] []
 | non {a:Option V} {s t:St}:Zw s t->Zw (none::s) (a::t)
 | same {a:Option V} {s t:St}:Zw s t->Zw (a::s) (a::t)
def Zw.refl:∀ s:St,Zw s s
 | []=>.nil
 | _::r=>.same (Zw.refl r)
def Zw.length {s t:St}(h:Zw s t):s.length=t.length:=by
 induction h with
 | nil=>rfl
 | non _ a=>simp[a]
 | same _ a=>simp[a]
def Zw.get (h:Zw s t):∀ (i:Nat) (v:V),s[i]?=some (some v)->t[i]?=some (some v):=by
 induction h with
 | nil=>intro i v e;exact e
 | non _ a =>
  intro i v e
  cases i with
  | zero=>simp at e
  | succ i=>simpa using a i v (by simpa using e)
 | same _ a =>
  intro i v e
  cases i with
  | zero=>simpa using e
  | succ i=>simpa using a i v (by simpa using e)
def Zw.set {n:Nat}:∀ {s t:St},Zw s t->s[n]?=some none->Zw s (t.set n (some v))
 | _,_,.nil,_=>.nil
 | _,_,.non (a:=a) h,e=>by
  cases n with
  | zero=>exact .non h
  | succ n=>exact .non (Zw.set h (by simpa using e))
 | _,_,.same (a:=a) h,e=>by
  cases n with
  | zero =>
   have b:a=none:=by simpa using e
   subst b
   exact .non h
  | succ n=>exact .same (Zw.set h (by simpa using e))
def Inv.sub (I:Inv X a σ H s)(h:Zw b σ):Inv X a b H s:=I.weak h.length h.get
def PIf (X:Cx)(b:yK)(t:TT):Prop :=
 ∀ (a:xo) (s:zi) (σ:St) (H:Hp) (Q:Bool->Hp->Prop),Inv X a σ H s->t σ H Q ->
  wpAny (model X.prog X.w) X.A (forIn b true λc r=>if r=true then do let ok<-isTrue c X.env (eval c X.env);pure (ForInStep.yield ok)else pure (ForInStep.yield r)) (TP X a σ Q) X.xe s
def tYes:TT:=λ_ H Q=>Q true H
def zc5:PIf X [] tYes:=by
 intro a s σ H Q I h
 rw[u1O]
 exact t9 ⟨H,I,h⟩
def zg6 (d:PT X c t):PIf X [c] t:=by
 intro a s σ H Q I h
 rw[u1u]
 refine u5 ?_
 rw[j0 rfl]
 refine u5 (thn (d a s σ H Q I h) λb e q=>t9 ?_)
 show wpAny _ _ (forIn [] b _) _ _ _
 rw[u1O]
 exact t9 q
section
variable {prog:zX}{w:World}{A:z5}{R:Result->Shared->Prop}{s:zi}
def Yk {g:Expr}{f:yK}(I:Nat->Shared->Prop) (turn:∀ n s,I n s->wpAny (model prog w) A (pyNext l) (λr o=>match r with
 | none=>R (.ok .next) o
 | some v=>wpAny (model prog w) A (letOwnedTupleGo a l v) (λ_ k=>wpAny (model prog w) A (assign a env v) (λ_ B =>
  wpAny (model prog w) A (forIn f true λc r=>if r=true then do let ok<-isTrue c env (eval c env);pure (ForInStep.yield ok)else pure (ForInStep.yield r)) (λok p =>
   if ok=true then wpAny (model prog w) A (eval g env) (λx z =>
    wpAny (model prog w) A (call (.builtin "list.append") [i,x]) (λ_ y=>∃ m,m<n/\I m y) (λ_ _=>False) z) (λ_ _=>False) p
   else ∃ m,m<n/\I m p) (λ_ _=>False) B) (λ_ _=>False) k) (λ_ _=>False) o) (λ_ _=>False) s) (n:Nat) (h:I n s) :
 codeAny (model prog w) A (.compLoop (.ListComp g [⟨a,e,f,0⟩] b j) 0 l i env) R s:=by
 refine codeAny_loop rfl I (λn s D=>?_) n h
 show wpAny _ A ((compTurn (.ListComp g [⟨a,e,f,0⟩] b j) 0 l i env).onRaise (λx=>do noteFrame x env;theTreesLotGoes x)) _ _ s
 refine wpAny_noted ?_
 rw[compTurn_list]
 refine u5 (u0Y (u5 (n8 (turn n s D) (λr o t=>?_) λ_ _ d=>d.elim)))
 cases r with
 | none=>exact t9 t
 | some v =>
  refine u5 (n8 t (λ_ k q=>?_) λ_ _ d=>d.elim)
  refine u5 (n8 q (λ_ B F=>u5 (n8 F (λok p u=>?_) λ_ _ d=>d.elim)) λ_ _ d=>d.elim)
  cases ok with
  | false=>exact t9 ⟨rfl,u⟩
  | true =>
   exact u5 (u5 (n8 u (λx z C=>u5 (n8 C (λ_ y E=>t9 (t9 ⟨rfl,E⟩)) λ_ _ d=>d.elim)) λ_ _ d=>d.elim))
end
def tLC (e:TI)(n:Nat)(g:TG)(f:TT)(h:TE):TE:=fun σ H Q=>e σ H λJ H1=>∀ D,H1 D=none->∃ W:Nat->Nat->zz->Hp->Prop,(∃ m,W 0 m [] (upd H1 D (.lst []))) /\
 ∀ i m a H2,W i m a H2->(J.stop i H2/\Q (.ref D) H2)\/(J.go i H2/\a.length<sizeLine/\∀ x H3,J.yld i H2 x H3->g x (List.replicate n none++σ) H3 λd H4=>f d H4 λb H5 =>
  if b=true then h d H5 λy H6=>H6 D=some (.lst a)/\∃ c,c<m/\W (i+1) c (a++[y]) (upd H6 D (.lst (a++[y])))else ∃ c,c<m/\W (i+1) c a H5)
def Yt {α:Type}:∀ {l:List (Str × α)} {y:Str},y∈l.map Prod.fst->∃ c,l.lookup y=some c
 | [],_,h=>by simp at h
 | (k,v)::r,y,h=>by
  by_cases e:y=k
  .exact⟨v,by simp[List.lookup,e]⟩
  .obtain⟨c,b⟩:=Yt (l:=r) (y:=y) (by simpa [e]using h)
   have a:(y == k)=false:=u0b.mpr e
   exact⟨c,by simp only[List.lookup,a];exact b⟩
def vz {α:Type}{P:α->Prop}:∀ p∈([]:List α),P p:=λ_ h=>nomatch h
def all_cons {α:Type}{P:α->Prop}{a:α}{l:List α}(h:P a)(t:∀ p∈l,P p):∀ p∈a::l,P p:=λp hp=>by
 rcases q3.mp hp with e | hp
 .rw[e];exact h
 .exact t p hp
def gs1 (σ:St)(v:V)(H:Hp)(Q:w6)(h:vN 0 v (List.replicate 1 none++σ) H Q):vN 0 v (List.replicate 1 none++σ) H (λa H2=>Zw (List.replicate 1 none++σ) a/\Q a H2):=⟨.set (.refl _) rfl,h⟩
def gs2 {K:zu}(σ:St)(v:V)(H:Hp)(Q:w6)(h:zjD K 2 (zab (vN 0) (zab (vN 1) zjB)) v (List.replicate 2 none++σ) H Q) :
 zjD K 2 (zab (vN 0) (zab (vN 1) zjB)) v (List.replicate 2 none++σ) H (λb H2=>Zw (List.replicate 2 none++σ) b/\Q b H2):=by
 obtain⟨a,i,e,d,j,x,r,f,y,k,g,c,q⟩:=h
 exact⟨a,i,e,d,j,x,r,f,y,k,g,c,.set (.set (.refl _) rfl) rfl,q⟩
def X3 (X:Cx)(L M:zr)(a:Scope)(b:XG)(s₀:zi)(H₀:Hp)(ex:xw)(pn:xo):Cx :=
 { X with N:=L++M,s₀:=s₀,H₀:=H₀,env:=compEnvC a b s₀.heap.objs.size X.env,outer:=X.stack,stack:=X.stack,ex:=ex,fn:=λ_=>false,pn:=pn,xe:=λ_ _=>False }
structure xS (X:Cx) (L M:zr) (scope:Scope) (cl:XG):Prop where
 clos:closureFor scope X.env=pure cl
 cell:∀ y∈scope.names,y.2≠.cell
 kind:scope.kind=.function
 names:∀ y∈scope.names,y.2=.local->scope.names.lookup y.1=some .local
 sub:∀ y c,cl.lookup y=some c->X.env.cells.lookup y=some c
 has:∀ y,((relabel scope X.env).names.lookup y=some .cell\/(relabel scope X.env).names.lookup y=some .free)->∃ c,cl.lookup y=some c
 mlen:M.length=X.N.length
 msk:∀ (i:Nat) y,M[i]?=some y->Vis (relabel scope X.env) y->X.N[i]?=some y
 vis:∀ (i:Nat) y,M[i]?=some y->Vis (relabel scope X.env) y->((relabel scope X.env).names.lookup y=some .cell\/(relabel scope X.env).names.lookup y=some .free)
 out:∀ (i:Nat) y,M[i]?=some y->Vis (relabel scope X.env) y->Vis X.env.scope y/\X.env.kindOf y≠some .local
def Inv.letGo {s:zi}(I:Inv X a σ H s)(f:VZ X a H C)(g:Heap.SameBut C s.heap i):Inv X a σ H { s with heap:=i }:=by
 obtain⟨k,t,w,p,u,l⟩:=f
 have j:∀ b,b∉[C]->b≠C:=λb h z=>h (by rw[z];exact t2.mpr rfl)
 refine I.call' (s':={ s with heap:=i }) (ch:=[C]) rfl ⟨λb o e _ _ d=>(g.2 b (j b d)).trans e,λb o e _ _ d=>⟨o.slots,(g.2 b (j b d)).trans e⟩,λ_ _ _ n _=>n,λb o e d=>⟨o,(g.2 b (j b d)).trans e⟩,λ_ _ q=>q,λ_ _ _ q=>q,λ_ x q=>⟨#[],by rw[q];simp⟩⟩ ?_ I.bare λb h=>?_
 .intro b m e
  refine(I.hok b m e).stay (λc v r q=>(g.2 c ?_).trans q) (λ_ q=>q) λ_ _ q=>q
  rintro rfl
  rcases r with z | z
  .rw[<-z,k]at e;cases e
  .rw[k]at z;cases z
 .rw[t2.mp h]
  exact⟨p,t,u,l⟩
def zb0 {X:Cx}{L:zr}{g:TG}(hc:X.calm=true)(S:xS X L M a cl)(hi:PI X tg t wi)(e5:∀ (σ:St) (v:V) (H:Hp) (Q:w6),g v (List.replicate L.length none++σ) H Q->g v (List.replicate L.length none++σ) H (fun σ2 H2=>Zw (List.replicate L.length none++σ) σ2/\Q σ2 H2))(hg:∀ s₀ H₀ ex pn,PG (X3 X L M a cl s₀ H₀ ex pn) tg g)(ht:∀ s₀ H₀ ex pn,PIf (X3 X L M a cl s₀ H₀ ex pn) b0 tt)(he:∀ s₀ H₀ ex pn,PE (X3 X L M a cl s₀ H₀ ex pn) a8 te)(hs:∀ x,foldedSetIterable t X.env x=pure x:=by intro _;rfl) :
 ∀ (O:Pos) (f:xo) (s:zi) (σ:St) (H:Hp) (Q:VK),Inv X f σ H s->tLC wi L.length g tt te σ H Q ->
  (∀ (D C:Addr) (H':Hp) (B:zi),Inv X f σ H' B->(∃ m,B.heap.Ns C m)->VZ X f H' C->Q (.ref D) H'->compPost (model X.prog X.w) X.A X.xe use Qf (.ref D) C (.ok .next) B) ->
  wpAny (model X.prog X.w) X.A (comprehension (.ListComp a8 [⟨tg,t,b0,0⟩] a c4) a X.env O (newList []) false (eval t X.env) use) Qf X.xe s:=by
 intro O f s σ H Q I h fin
 refine wpAny_comprehension_free (use:=use) rfl hs S.clos S.kind S.names (thn (hi f s σ H _ I h) λv s1 h1=>thn h1 λe9 l h2=>?_)
 obtain⟨it,A,tn,J,H2,e,I2,T,b5,f2,q⟩:=h2
 subst e
 have hD:H2 l.heap.objs.size=none:=I2.hok.fresh (t7 _)
 obtain⟨W,⟨m0,w0⟩,turn⟩:=q _ hD
 refine h7 (wpAny_newFunctionEnv S.cell (by intro y hy;simp at hy) (λh₁ R P=>?_) S.kind)
 have I3:Inv X f σ (upd H2 l.heap.objs.size (.lst [])) { l with heap:=l.heap.push { cls:=.type "list",data:=.seq ([]:zH).toArray } }:=by
  refine I2.laid (t':=l.toks) (λb u e=>u6 _ e) (t7 _) ?_
  exact⟨u07 _,[],0,.nil,j4 _ rfl⟩
 generalize d1:({ l with heap:=l.heap.push { cls:=.type "list",data:=.seq ([]:zH).toArray } }:zi)=s3 at I3 R P ⊢
 have U:∀ b∈A,b<l.heap.objs.size:=λb j=>by
  obtain⟨o,ho,_⟩:=T.obj _ _ b5 b j
  exact t8 ho
 have e4:s3.heap.objs.size=l.heap.objs.size+1:=by rw[<-d1];exact g6 ..
 have d9:∀ b o,l.heap.get? b=some o->s3.heap.get? b=some o:=λb o e=>by rw[<-d1];exact u6 _ e
 have w:∀ b o,s3.heap.get? b=some o->h₁.get? b=some o:=λb o e=>(P.2 b (j5 (t8 e))).trans (u6 _ e)
 generalize e6:upd H2 l.heap.objs.size (.lst [])=H3 at I3 w0
 have d0:∀ b∈A,H3 b=none:=λb j=>by
  rw[<-e6,zn (j5 (U b j))]
  exact(f2 b j).1
 have c9:∀ b∈A,b∉frs X.stack:=λb j z=>by
  obtain⟨_,n1,n2,_⟩:=f2 b j
  rcases q3.mp (I3.stkSub b z)with e | e
  .exact n1 e
  .exact n2 e
 let Y:Cx:=X3 X L M a cl s3 H3 A (X.pn++f)
 have OkY:Y.Ok:=by
  refine⟨I.ok.mod,S.kind,I.ok.glob,I.ok.blt,t7 _,λx y c h1 h2=>I.ok.inj x y c (S.sub x c h1) (S.sub y c h2),λx hx=>S.has x hx,(λx c h _=>absurd h u9),I.ok.hd,I.ok.frames,.inl rfl,λb j=>⟨?_,λx c e z=>?_⟩,
   λb o e=>I3.bs b o e,k9 I.ok.bsz I3.sz,λb o e j=>?_,c9,I3.stack,I3.stkFree⟩
  .show b≠s3.heap.objs.size
   exact j5 (j3 (U b j) (by rw[e4];exact u06 _))
  .exact(f2 b j).2.2.2.2.1 x c (S.sub x c e) z
  .rcases(f2 b j).2.2.2.1 with z | z
   .exact I.ok.noex b o e z
   .have h1:=t8 e
    have h2:=I.ok.bsz
    exact absurd (j3 h1 (k9 h2 z)) (u0g _)
 have I4:Inv Y [] (List.replicate L.length none++σ) H3 { s3 with heap:=h₁,toks:=s3.toks+([]:List (Str × Value)).length }:=by
  refine⟨OkY,rfl,I3.bare,Un.kept w,⟨_,R,λi y v e1 e2 e3=>?_⟩,λx c e=>?_,I3.hok.fresh (t7 _),λx c e=>I3.freeC x c (S.sub x c e),λp hp=>?_,I3.hok.kept w,?_⟩
  .have hi:¬ i<L.length:=λe8=>by
    rw[i0 (by simpa using e8),u0v]at e2
    split at e2 <;> cases e2
   have a0:M[i-L.length]?=some y:=by
    have e1:(L++M)[i]?=some y:=e1
    rw[p0 (by omega)]at e1
    exact e1
   have d3:σ[i-L.length]?=some (some v):=by rw[p0 (by simpa using u15 hi)]at e2;simpa using e2
   have d7:=S.msk _ y a0 e3
   obtain⟨ov,ok⟩:=S.out _ y a0 e3
   obtain⟨m,hn,hl⟩:=I3.loc
   obtain⟨u,ru,lk⟩:=hl _ y v d7 d3 ov
   refine⟨u,ru,?_⟩
   rcases lk with ⟨hk,_⟩ | ⟨_,c,d5,a6⟩
   .exact absurd hk ok
   .have kn:=S.vis _ y a0 e3
    obtain⟨c',c2⟩:=S.has y kn
    have:=S.sub y c' c2
    rw[d5]at this
    cases this
    refine .inr ⟨kn,c,c2,?_⟩
    obtain⟨o,ho,hd⟩:=a6
    exact⟨o,w _ _ ho,hd⟩
  .obtain⟨v,o,ho,hd⟩:=I3.cell x c (S.sub x c e)
   exact⟨v,o,w _ _ ho,hd⟩
  .have a9:p∈X.pn++f:=n0 (X.pn++f) ▸ hp
   obtain⟨a1,a2,a3,a4,a5⟩:=I3.pin p a9
   refine⟨w _ _ a1,a2,j5 (t8 a1),λz=>?_,a5⟩
   rcases q3.mp (I3.stkSub p.1 z)with e | e
   .exact a3 e
   .exact a4 e
  .show(List.replicate L.length none++σ).length=(L++M).length
   rw[q5,q5,List.length_replicate,I.len,S.mlen]
 have a7:∀ {H':Hp},(∀ b∈A,H' b=none)->∀ b∈A,VZ Y [] H' b:=λ{H'} hn b j=>by
  refine⟨hn b j,(OkY.exf b j).1,c9 b j,.inl j,(OkY.exf b j).2,λp hp=>?_⟩
  have a9:p∈X.pn++f:=n0 (X.pn++f) ▸ hp
  exact(f2 b j).2.2.2.2.2 p a9
 have c1:tn 0 h₁:=T.keep _ _ _ b5 λb j o e=>w b o (d9 b o e)
 -- behind the F
 have b7:∀ (H':Hp) (B:zi),Inv Y [] (List.replicate L.length none++σ) H' B->Q (.ref l.heap.objs.size) H'->compPost (model X.prog X.w) X.A X.xe use Qf (.ref l.heap.objs.size) s3.heap.objs.size (.ok .next) B:=λH' B J' q'=>by
  obtain⟨m,hn,_⟩:=J'.loc
  refine fin _ _ H' B (I3.call' (ch:=A) J'.os J'.base J'.hok J'.bare λb j=>?_) ⟨m,hn⟩ (I3.fpOk (t7 _) J'.free) q'
  obtain⟨_,n1,_,n3,n4,n5⟩:=f2 b j
  exact⟨n3,n1,n4,n5⟩
 have F:codeAny (model X.prog X.w) X.A (.compLoop (.ListComp a8 [⟨tg,t,b0,0⟩] a c4) 0 (.ref it) (.ref l.heap.objs.size) (compEnvC a cl s3.heap.objs.size X.env))
  (compPost (model X.prog X.w) X.A X.xe use Qf (.ref l.heap.objs.size) s3.heap.objs.size) { s3 with heap:=h₁,toks:=s3.toks+([]:List (Str × Value)).length }:=by
  refine Yk (λn B=>∃ i K H',Inv Y [] (List.replicate L.length none++σ) H' B/\tn i B.heap/\(∀ b∈A,H' b=none)/\W i n K H') ?_ m0 ⟨0,[],H3,I4,c1,d0,w0⟩
  rintro n s5 ⟨i,K,H5,I5,c5,c6,w5⟩
  rcases turn i n K H5 w5 with ⟨b8,qn⟩ | ⟨go,c3,c7⟩
  .refine thn (T.done Y rfl rfl rfl hc i [] s5 _ H5 _ I5 (a7 c6) c5 b8) λr s6 hh9=>?_
   obtain⟨hr,I6⟩:=hh9
   subst hr
   exact b7 H5 s6 I6 qn
  .refine thn (T.item Y rfl rfl rfl hc i [] s5 _ H5 _ I5 (a7 c6) c5 go) λr s6 hh9=>?_
   obtain⟨u,hr,h6⟩:=hh9
   subst hr
   refine thn h6 λ_ s7 hh9=>?_
   obtain⟨x,H7,I7,r7,y7,b4,d6⟩:=hh9
   have I7':=I7.pinned (a7 d6) (T.obj _ _ b4)
   have g7:=e5 σ x H7 _ (c7 x H7 y7)
   refine thn (hg _ _ _ _ _ s7 _ H7 x u _ I7' r7 g7) λ_ s8 hh9=>?_
   obtain⟨σ8,H8,I8,Z,q8⟩:=hh9
   have again:∀ {σ9:St} {H9:Hp} {s9:zi} {zs:zz},Inv Y ([]++XJ A s7.heap) σ9 H9 s9->Zw (List.replicate L.length none++σ) σ9->(∃ m',m'<n/\W (i+1) m' zs H9) ->
    ∃ m,m<n/\∃ i K H',Inv Y [] (List.replicate L.length none++σ) H' s9/\tn i s9.heap/\(∀ b∈A,H' b=none)/\W i m K H':=λ{σ9 H9 s9 zs} I9 sub9 w9=>by
    obtain⟨m',hm,w9⟩:=w9
    refine⟨m',hm,i+1,zs,H9,(I9.sub sub9).unpinned,T.keep _ _ _ b4 λb j o e=>(I9.pin (b,o) (j9 _ (j9 _ (w8 j e)))).1,λb j=>?_,w9⟩
    obtain⟨o,e,d⟩:=T.obj _ _ b4 b j
    exact(I9.pin (b,o) (j9 _ (j9 _ (w8 j e)))).2.1
   refine thn (ht _ _ _ _ _ s8 σ8 H8 _ I8 q8) λb s9 hh9=>?_
   obtain⟨H9,I9,q9⟩:=hh9
   cases b with
   | false =>
    rw[j6 u9]at q9
    rw[j6 u9]
    exact again I9 Z q9
   | true =>
    rw[j0 rfl]at q9
    rw[j0 rfl]
    refine thn (he _ _ _ _ _ s9 σ8 H9 _ I9 q9) λy G hh9=>?_
    obtain⟨yv,H10,I10,e0,N,d8⟩:=hh9
    obtain⟨d4,E,k,rv,d2⟩:K.length<=sizeLine/\∃ (E:zH) (n:Nat),yU K E/\G.heap.get? l.heap.objs.size=some { cls:=.type "list",data:=.seq E.toArray n }:=I10.hok _ _ N
    have c0:G.heap.PlainList l.heap.objs.size E.toArray:=⟨k,d2⟩
    refine wpAny_list_append_plain (hsz:=by rw[q7,<- rv.length];exact d4) c0 λe7 b6 c8=>?_
    obtain⟨k',b9⟩:=b6
    have I11:Inv Y ([]++XJ A s7.heap) σ8 (upd H10 l.heap.objs.size (.lst (K++[yv]))) { G with heap:=e7 }:=by
     refine I10.write (x:=l.heap.objs.size) (e:=l.heap.objs.size) (t':=G.toks) (by rw[N];exact True.intro) (.inl rfl) (λb u j e=>(c8.2 b j).trans e) ⟨_,b9⟩ ?_
     refine⟨by rw[q5];show K.length+1<=sizeLine;exact c3,E++[y],k',rv.append (.cons e0 .nil),?_⟩
     rw[b9]
     simp
    exact again I11 Z d8
 exact codeAny_compStart_list F (T.self _ 0 _ _ _ c1 F)
def zfi {X:Cx}{L:zr}{g:TG}(A:X.calm=true)(S:xS X L M a i)(w:PI X l b p)(k:∀ (σ:St) (v:V) (H:Hp) (Q:w6),g v (List.replicate L.length none++σ) H Q->g v (List.replicate L.length none++σ) H (λn H2=>Zw (List.replicate L.length none++σ) n/\Q n H2))(E:∀ s₀ H₀ ex pn,PG (X3 X L M a i s₀ H₀ ex pn) l g)(u:∀ s₀ H₀ ex pn,PIf (X3 X L M a i s₀ H₀ ex pn) d r)(y:∀ s₀ H₀ ex pn,PE (X3 X L M a i s₀ H₀ ex pn) c o)(B:∀ x,foldedSetIterable b X.env x=pure x:=by intro _;rfl) :
 PE X (.ListComp c [⟨l,b,d,0⟩] a j) (tLC p L.length g r o):=by
 intro e s σ H Q I h
 rw[eval_ListComp]
 refine zb0 A S w k E u y B _ e s σ H Q I h λD C H' G I' ⟨m,z⟩ f q=>⟨m,z,λF t=>⟨.ref D,_,I'.letGo f t,rfl,q⟩⟩
def zis {i:Nat}{x:Str}{u n:Pos}{X:Cx}{k r c:Expr}{l:yK}{L M:zr}{a:Scope}{y:XG}{j:Pos}{N:TI}{g:TG}{R:TT}{K:TE}
 (hN:X.N.Nodup) (G:X.N[i]?=some x) (U:Loc X.env.scope x) (hc:X.calm=true) (S:xS X L M a y) (hi:PI X r c N)
 (F:∀ (σ:St) (v:V) (H:Hp) (Q:w6),g v (List.replicate L.length none++σ) H Q->g v (List.replicate L.length none++σ) H (λw H2=>Zw (List.replicate L.length none++σ) w/\Q w H2))
 (hg:∀ s₀ H₀ ex pn,PG (X3 X L M a y s₀ H₀ ex pn) r g) (W:∀ s₀ H₀ ex pn,PIf (X3 X L M a y s₀ H₀ ex pn) l R) (he:∀ s₀ H₀ ex pn,PE (X3 X L M a y s₀ H₀ ex pn) k K)
 (hs:∀ x,foldedSetIterable c X.env x=pure x:=by intro _;rfl)
 (A:swapsWith (.ListComp k [⟨r,c,l,0⟩] a j) (some (.Name x u)) n.line X.env=pure true:=by rfl)
 (Z:X.fn x=true\/X.env.scope.names.lookup x=some .local:=by first | exact .inl rfl | exact .inr rfl | assumption) :
 PS X (.Assign [.Name x u] (.ListComp k [⟨r,c,l,0⟩] a j) n) (zgr (tLC N L.length g R K) (vN i)):=by
 intro p s σ H D I h
 rw[exec_Assign_Name_used _ _ _ _ A]
 refine u5 (u0Y (u5 ?_))
 show wpAny _ X.A (do let _<-comprehension (.ListComp k [⟨r,c,l,0⟩] a j) a X.env _ (newList []) false (eval c X.env) (some (assign (.Name x u) X.env))) _ _ s
 refine u5 (thn (zb0 (use:=some (assign (.Name x u) X.env)) (Qf:=λ_ t=>SP X p D .next t) hc S hi F hg W he hs _ p s σ H _ I h λD' C H' t I' ⟨m,P⟩ f q=>?_) λ_ t hq=>t9 (t9 hq))
 have B:∀ b∈[C],∃ o,t.heap.get? b=some o/\∀ v,o.data≠.cell v:=λb E=>by
  rw[t2.mp E]
  obtain⟨o,O,J,e,d,_⟩:=P
  exact⟨o,e,λv z=>by rw[z]at d;cases d⟩
 have I2:=I'.pinned (fp:=[C]) (λb E=>by rw[t2.mp E];exact f) B
 refine thn (yx (pos:=u) hN G U Z _ t σ H' (.ref D') (.ref D') _ I2 rfl q) λ_ s2 hh9=>?_
 obtain⟨w,H2,I3,Y⟩:=hh9
 obtain⟨o,O,J,e,d⟩:=P
 have pn:=I3.pin (C,o) (j9 _ (j9 _ (w8 (t2.mpr rfl) e)))
 exact⟨m,⟨o,O,J,pn.1,d⟩,λh' T=>⟨w,H2,I3.unpinned.letGo ⟨pn.2.1,f.2⟩ T,Y⟩⟩
def Zu (names a dn:List (Str × NameKind))(N M b:zr):Bool :=
 names.all (λy=>decide (y.2≠.cell))&&names.all (λy=>decide (y.2=.local->names.lookup y.1=some .local)) &&
 a.all (λy=>decide ((y.2=.cell\/y.2=.free)->y.1∈b)) &&
 (M.length == N.length)&&(M.zip N).all (λp=>decide ((a.lookup p.1=some .local\/a.lookup p.1=some .cell\/a.lookup p.1=some .free)->p.1=p.2)) &&
 M.all (λy=>decide ((a.lookup y=some .local\/a.lookup y=some .cell\/a.lookup y=some .free) ->
  (a.lookup y=some .cell\/a.lookup y=some .free)/\(dn.lookup y=some .local\/dn.lookup y=some .cell\/dn.lookup y=some .free)/\dn.lookup y≠some .local))
def XN {X:Cx}{N:zr}{a:Scope}{g:XG}{dn:List (Str × NameKind)}(j:(relabel a X.env).names=q)(s:X.env.scope.names=dn)(m:X.N=N)(d:closureFor a X.env=pure g)(kind:a.kind=.function)(C:g.map Prod.fst=k)(b:Zu a.names q dn N M k=true)(l:∀ p∈g,X.env.cells.lookup p.1=some p.2):xS X L M a g:=by
 unfold Zu at b
 simp only[t5,k7,r8]at b
 obtain⟨⟨⟨⟨⟨x,g2⟩,o⟩,f⟩,z⟩,n⟩:=b
 have f:M.length=N.length:=by simpa using f
 refine⟨d,x,kind,g2,λy c h=>l (y,c) (p6 h),λy h=>?_,by rw[m];exact f,λi y e v=>?_,λi y e v=>?_,λi y e v=>?_⟩
 .rw[j]at h
  have B:y∈k:=by
   rcases h with h | h
   .exact o _ (p6 h) (.inl rfl)
   .exact o _ (p6 h) (.inr rfl)
  exact Yt (by rw[C];exact B)
 .unfold Vis at v
  rw[j]at v
  have A:=(q4.mp e).1
  have r:i<N.length:=by rw[<-f];exact A
  have u:(M.zip N)[i]?=some (y,N[i]):=by
   rw[List.getElem?_zip_eq_some]
   exact⟨e,u0m r⟩
  have:=z _ (o7 u) v
  rw[m,u0m r]
  exact i3 some this.symm
 .unfold Vis at v
  rw[j]at v ⊢
  exact(n y (o7 e) v).1
 .unfold Vis at v
  rw[j]at v
  obtain⟨_,t,w⟩:=n y (o7 e) v
  refine⟨?_,?_⟩
  .unfold Vis;rw[s];exact t
  .show X.env.scope.names.lookup y≠_;rw[s];exact w
end L2
namespace PySem
open Sem (wp)
open AutoSeq1 (wpAny_loadPart')
section
variable {prog:zX}{w:World}{A:z5}{E:xa}{s:zi}
def v7 {items}{Q:xa}(hit:s.heap.IsTupleIter a l i)(hl:s.heap.IsTuple l items)(hx:items[i]?=some x)(hQ:∀ f,f.IsTupleIter a l (i+1)->Heap.SameBut a s.heap f->Q x { s with heap:=f }) :
 wpAny (model prog w) A (Builtin.SmallTypes.nextOf (.ref a)) Q E s:=by
 obtain⟨o,c,g,b⟩:=id hit
 obtain⟨j,e,_,h,d⟩:=hl
 unfold Builtin.SmallTypes.nextOf
 refine u5 (g9 (name:=Str.ofString "__next__") hit.typeIs u0c
  (u0e u0c hit.typeIs F.entry_tuple_iterator_next ?_ (F.args_tuple_iterator_next_1 _)))
 show wpAny _ _ (field (.ref a) 0>>=_) _ _ s
 refine u5 (p7 c b (x:=.ref l) rfl ?_)
 show wpAny _ _ (if (Value.ref l == Value.none)=true then _ else _) _ _ s
 rw[j6 (show ¬ ((Value.ref l == Value.none)=true)from u9)]
 show wpAny _ _ (field (.ref a) 1>>=_) _ _ s
 refine u5 (p7 c b (x:=.int i 0) rfl ?_)
 show wpAny _ _ (seqItems? (.ref l)>>=_) _ _ s
 refine u5 (u0A e d ?_)
 simp only[u04,hx]
 refine u5 (wpAny_setField c b (by simp) (t9 ⟨x,rfl,t9 (hQ _ ?_ (Heap.SameBut.update ..))⟩))
 exact⟨_,Heap.get?_update_self _ c (Obj.isFreed_of_fields (Obj.data_mapFields b _)),(Obj.cls_mapFields ..).trans g,by
  rw[Obj.data_mapFields b];simp[rawInt]⟩
def wh {items} (hh:A.handled=none) (hit:s.heap.IsTupleIter b l i) (hl:s.heap.IsTuple l items) (hx:items[i]?=none) (hE:∀ h e,Heap.ExtBut b s.heap h->(∃ o,h.get? e=some o/\o.cls=.type "StopIteration")->E (.ref e) { s with heap:=h }) :
 wpAny (model prog w) A (Builtin.SmallTypes.nextOf (.ref b)) Q E s:=by
 obtain⟨o,d,n,g⟩:=id hit
 obtain⟨k,f,_,j,c⟩:=hl
 unfold Builtin.SmallTypes.nextOf
 refine u5 (g9 (name:=Str.ofString "__next__") hit.typeIs u0c
  (u0e u0c hit.typeIs F.entry_tuple_iterator_next ?_ (F.args_tuple_iterator_next_1 _)))
 show wpAny _ _ (field (.ref b) 0>>=_) _ _ s
 refine u5 (p7 d g (x:=.ref l) rfl ?_)
 show wpAny _ _ (if (Value.ref l == Value.none)=true then _ else _) _ _ s
 rw[j6 (show ¬ ((Value.ref l == Value.none)=true)from u9)]
 show wpAny _ _ (field (.ref b) 1>>=_) _ _ s
 refine u5 (p7 d g (x:=.int i 0) rfl ?_)
 show wpAny _ _ (seqItems? (.ref l)>>=_) _ _ s
 refine u5 (u0A f c ?_)
 simp only[u04,hx]
 refine u5 (wpAny_rule (u5 (wpAny_setField d g (by simp) ?_)))
 show wpAny _ _ (newExc (.type "StopIteration") []>>=_) _ _ _
 refine u5 ?_
 simp only[newExc,newTuple]
 refine u5 (h7 ?_ (by size_fits))
 refine u5 (m:=firstArgMember _ _) (wpAny_of_eq (a:=Value.none) (by first | rfl | (simp only[firstArgMember];rfl)) ?_)
 refine h7 ?_ (by size_fits)
 simp only[raiseNew]
 refine u5 (wpAny_handled ?_)
 first | rw[show A.in1.handled=none from hh] | rw[hh]
 refine u5 (t9 (wpAny_throw ?_))
 exact hE _ _ (((Heap.SameBut.update ..).extBut.push _).push _) ⟨_,j4 _ rfl,rfl⟩
end
def Yg {c:zX}{w:World}{A:z5}{E:xa}{s:zi}{e d l:Addr}{i:Nat}{a:vC}{f:Value}{Q:Option Value->Shared->Prop}(q:A.handled=none)
 (m:IsEnum s.heap e d i f) (g:s.heap.IsTupleIter d l i) (u:s.heap.IsTuple l a) (r:a[i]?=none)
 (t:∀ h,Heap.ExtBut d s.heap h->Q none { s with heap:=h }):wpAny (model c w) A (pyNext (.ref e)) Q E s:=by
 have n:s.TypeIs (.ref e) "enumerate":=⟨_,m,rfl⟩
 unfold pyNext
 refine u5 (u0W (g9 (name:=Str.ofString "__next__") n F.slot_enumerate_next
  (u0e F.slot_enumerate_next n F.entry_enumerate_next ?_ (F.args_enumerate_next_1 _))))
 show wpAny _ _ (field (.ref e) 2>>=_) _ _ _
 refine u5 (p7 m rfl (x:=.ref d) rfl ?_)
 refine u5 (wh q g u r λh x k j=>?_)
 obtain⟨o,p,v⟩:=j
 refine u5 (wpAny_isInstance (T:="StopIteration") (b:=true) ⟨o,p,v⟩ isSubtype_stop ?_)
 exact t9 (t _ k)
def v4 {prog:zX}{w:World}{A:z5}(hh:A.handled=none)(it l:Addr)(hne:l≠it)(items:vC) :
 Draws prog w A it [it,l] items.size (λi v=>items[i]?=some v) (λi h=>h.IsTupleIter it l i/\h.IsTuple l items) where
 live:=λ_ _ st=>let ⟨o,ho,_⟩:=st.1;⟨o,ho⟩
 frame:=λ_ _ _ st hk=>by
  obtain⟨⟨o,ho,r⟩,⟨o2,ho2,r2⟩⟩:=st
  exact⟨⟨o,hk it (by simp) o ho,r⟩,⟨o2,hk l (by simp) o2 ho2,r2⟩⟩
 item:=λi s Q E hi st hQ=>by
  refine v7 st.1 st.2 (x:=items[i]) (by simp[hi]) λh' hit' hs'=>?_
  exact hQ _ h' s.toks (by simp[hi]) ⟨hit',st.2.extBut hs'.extBut hne⟩ hs'
 done:=λs Q E st hE=>wh hh st.1 st.2 (by simp) hE
def YX (l:Addr)(a:vC)(n:Nat)(m:xT)(k:Array (Option Value)) :
 Meets (Builtin.«enumerate.__new__» ⟨[.type "enumerate",.ref l],[]⟩) (λ_ R s=>s.heap.get? l=some { cls:=.type "tuple",dict:=m,data:=.seq a n,slots:=k } /\
  R (.ok (.ret (.ref (s.heap.push { cls:=.type "tuple_iterator",data:=.fields #[.ref l,.int 0 0] }).objs.size)))
   { s with heap:=(s.heap.push { cls:=.type "tuple_iterator",data:=.fields #[.ref l,.int 0 0] }).push { cls:=.type "enumerate",data:=.fields #[.none,.bool false,.ref s.heap.objs.size,rawInt 0,.none,.none] } }) :=
 .of_wp λi w A R s h=>by
  obtain⟨hp,g,d,j,os⟩:=s;obtain⟨b,h⟩:=h
  have f:=sub_enumerate
  have e:Heap.IsTuple (Shared.heap ⟨hp,g,d,j,os⟩) l a:=⟨_,b,rfl,n,rfl⟩
  wp_walk using f8 b
  refine wpAny_stack_any λo=>t9 ?_
  split
  .rename_i c _ _ _ _ _
   cases (c == Value.type "enumerate")
   .wp_walk using f8 b,p5 e
    exact⟨_,rfl,h⟩
   .wp_walk using f8 b,p5 e
    exact⟨_,rfl,h⟩
  .wp_walk using f8 b,p5 e
   exact⟨_,rfl,h⟩
section
variable {prog:zX}{w:World}{A:z5}{E:xa}{s:zi}
def Yh {Q:xa}(k:s.heap.IsTuple l a) (h:∀ c,IsEnum c (s.heap.objs.size+1) s.heap.objs.size 0 .none->c.IsTupleIter s.heap.objs.size l 0->c.objs.size=s.heap.objs.size+2 ->
 (∀ b o,s.heap.get? b=some o->c.get? b=some o)->Q (.ref (s.heap.objs.size+1)) { s with heap:=c }) :
 wpAny (model prog w) A (call (.type "enumerate") [.ref l]) Q E s:=by
 obtain⟨⟨cls,m,data,j⟩,i,g,n,f⟩:=k
 simp only at g f
 subst g f
 refine callType_new o0 (by decide) (F.typeCall_enumerate_1 _) (F.newCall_enumerate_1 _) (λobj=>F.args_object_init_2 obj _) F.entry_enumerate_new
  (YX l a n m j) ⟨i,?_⟩
 have d:(s.heap.push { cls:=.type "tuple_iterator",data:=.fields #[.ref l,.int 0 0] }).objs.size=s.heap.objs.size+1:=g6 ..
 show _/\_
 rw[d]
 have e:IsEnum ((s.heap.push { cls:=.type "tuple_iterator",data:=.fields #[.ref l,.int 0 0] }).push
  { cls:=.type "enumerate",data:=.fields #[.none,.bool false,.ref s.heap.objs.size,rawInt 0,.none,.none] }) (s.heap.objs.size+1) s.heap.objs.size 0 .none:=by
  have:=j4 (s.heap.push { cls:=.type "tuple_iterator",data:=.fields #[.ref l,.int 0 0] })
   (o:={ cls:=.type "enumerate",data:=.fields #[.none,.bool false,.ref s.heap.objs.size,rawInt 0,.none,.none] }) rfl
  rw[d]at this;exact this
 refine⟨⟨_,e,rfl⟩,h _ e ⟨_,u6 _ (j4 _ rfl),rfl,rfl⟩ (by rw[g6,d]) λb o x=>u6 _ (u6 _ x)⟩
end
end PySem
namespace L2
open PySem PySem.Spec PyProof.Rows
section
variable {X:Cx}{pins:xo}{σ:St}{H:Hp}{s:zi}{h':Heap}
def Inv.grown {ch:xw}{T:Addr}{o:HO}{w:Nat}(I:Inv X pins σ H s)(d:∀ b∈ch,VZ X pins H b)(t:s.heap.objs.size<=T)(k:∀ b u,b∉ch->s.heap.get? b=some u->h'.get? b=some u)
 (i:xI X.prog X.w (upd H T o) h' T o):Inv X pins σ (upd H T o) { s with heap:=h',toks:=w }:=by
 have f:H T=none:=I.hok.fresh t
 have j:∀ b u,s.heap.get? b=some u->b≠T:=λb u e=>j5 (j3 (t8 e) t)
 have g:∀ b u,H b=some u->b∉ch:=λb u e z=>by rw[(d b z).1]at e;cases e
 refine I.step (g':=s.gens) (d':=s.drawn) (ch:=ch) (λb h=>?_) (λb u _ _ a e _=>k b u a e) (λb u _ _ a e _=>⟨u.slots,k b u a e⟩) (λb u _ e n=>by rw[zn (j b u e)];exact n)
  (λb u a e=>⟨u,k b u a e⟩) (λb p e=>by rw[zn (zj e f)];exact e) (λb u p e=>by rw[zn (zj e f)];exact e) (λb G e=>⟨#[],by rw[zn (zj e f),e];simp⟩) (λm E=>?_) (λb u e=>?_) I.bare
 .obtain⟨_,A,_,C,F,x⟩:=d b h
  exact⟨C,A,F,x⟩
 .obtain⟨l,y,D,B,r⟩:=E
  exact⟨l,y,D,k _ l (λz=>(d _ z).2.1 rfl) B,r⟩
 .by_cases h:b=T
  .subst h;rw[zx]at e;cases e;exact i
  .rw[zn h]at e
   refine(I.hok b u e).stay (λc v a q=>k c v ?_ q) (λc q=>by rw[zn (zj q f)];exact q) λc p q=>by rw[zn (zj q f)];exact q
   rcases a with z | z
   .rw[z];exact g b u e
   .exact g c _ z
def Inv.turnedN {ch:xw}{t':Nat}(I:Inv X pins σ H s)(a:∀ b∈ch,VZ X pins H b)(k:∀ b u,b∉ch->s.heap.get? b=some u->h'.get? b=some u):Inv X pins σ H { s with heap:=h',toks:=t' }:=by
 have f:∀ b u,H b=some u->b∉ch:=λb u e z=>by rw[(a b z).1]at e;cases e
 refine I.step (g':=s.gens) (d':=s.drawn) (ch:=ch) (λb i=>?_) (λb u _ _ d e _=>k b u d e) (λb u _ _ d e _=>⟨u.slots,k b u d e⟩) (λb u _ e n=>n)
  (λb u d e=>⟨u,k b u d e⟩) (λb h e=>e) (λb u h e=>e) (λb A e=>⟨#[],by rw[e];simp⟩) (λm x=>?_) (λb u e=>?_) I.bare
 .obtain⟨_,j,_,p,y,o⟩:=a b i
  exact⟨p,j,y,o⟩
 .obtain⟨g,t,w,l,r⟩:=x
  exact⟨g,t,w,k _ g (λz=>(a _ z).2.1 rfl) l,r⟩
 .refine(I.hok b u e).stay (λc v d q=>k c v ?_ q) (λc q=>q) λc h q=>q
  rcases d with z | z
  .rw[z];exact f b u e
  .exact f c _ z
end
def Iel (K:zu)(a:Addr):It :=
 ⟨λi H=>∃ b x,SqL K H a b/\b[i]?=some x,λi H v H'=>∃ T x,v=.ref T/\H T=none/\H'=upd H T (.tup [.int i,x])/\∀ b,SqL K H a b->b[i]?=some x,λi H=>∃ b,SqL K H a b/\b.length<=i⟩
def Iet (K:zu)(a:Addr):It :=
 ⟨λi H=>∃ b x,SqT K H a b/\b[i]?=some x,λi H v H'=>∃ T x,v=.ref T/\H T=none/\H'=upd H T (.tup [.int i,x])/\∀ b,SqT K H a b->b[i]?=some x,λi H=>∃ b,SqT K H a b/\b.length<=i⟩
def zbv {P:zX}{w:World}{K:zu}{es:yK}{k:Nat}{tp:Pos}(a e it:Addr)(hne:e≠it) :
 zeJ P w K (.Tuple es k tp) (Iel K a) [e,it] e (λi h=>(∃ old,IsEnum h e it i old)/\h.IsListIter it a i) where
 mem:=by simp
 obj:=λi h st b hb=>by
  obtain⟨⟨old,he⟩,o,ho,_,hd⟩:=st
  rcases q3.mp hb with rfl | hb
  .exact⟨_,he,λv z=>by cases z⟩
  .rw[t2.mp hb]
   exact⟨o,ho,λv z=>by rw[hd]at z;cases z⟩
 keep:=λi h h' st kk=>by
  obtain⟨⟨old,he⟩,hit⟩:=st
  exact⟨⟨old,kk e (by simp) _ he⟩,hit.at λo q=>kk it (by simp) o q⟩
 item:=by
  intro X hP hw hK hc i pins s σ H E I hf st hg
  subst hP hw hK
  obtain⟨⟨old,he⟩,hit⟩:=st
  obtain⟨xs,x,hq,hx⟩:=hg
  obtain⟨its,rv,p,hz⟩:=I.list hq
  obtain⟨u,hu,ru⟩:=rv.get hx
  refine wpAny_pyNext_enum_item he hit p.isList (x:=u) (by simpa using hu) hne λh1 ho1 hit1 hT1 hz1 hk1=>?_
  refine⟨_,rfl,u0H ho1 λh2 he2 hs2=>?_⟩
  have hfr:H s.heap.objs.size=none:=I.hok.fresh (t7 _)
  have neE:s.heap.objs.size≠e:=u0h (t8 he)
  have hT2:h2.get? s.heap.objs.size=some { cls:=.type "tuple",data:=.seq #[.int i s.toks,u] }:=(hs2.2 _ neE).trans hT1
  refine⟨.ref s.heap.objs.size,upd H s.heap.objs.size (.tup [.int i,x]),?_,rfl,⟨_,x,rfl,hfr,rfl,λys hy=>by rw[I.list_inj hy hq];exact hx⟩,⟨⟨_,by simpa using he2⟩,hit1.at λo q=>(hs2.2 it (u0d hne)).trans q⟩,λb hb=>?_⟩
  .refine I.grown (ch:=[e,it]) hf (t7 _) (λb v hb q=>?_) ?_
   .have n1:b≠e:=λz=>hb (by simp[z])
    have n2:b≠it:=λz=>hb (by simp[z])
    exact(hs2.2 b n1).trans (hk1 b v n1 n2 q)
   .exact⟨by show 2<=sizeLine;decide,[.int i s.toks,u],.cons ⟨_,rfl⟩ (.cons ru .nil),⟨_,hT2,rfl,0,rfl⟩⟩
  .obtain⟨o,hb2,_⟩:∃ o,s.heap.get? b=some o/\True:=by
    rcases q3.mp hb with rfl | hb
    .exact⟨_,he,trivial⟩
    .rw[t2.mp hb]
     obtain⟨o,ho,_⟩:=hit
     exact⟨o,ho,trivial⟩
   rw[zn (j5 (t8 hb2))]
   exact(hf b hb).1
 done:=by
  intro X hP hw hK hc i pins s σ H E I hf st hg
  subst hP hw hK
  obtain⟨⟨old,he⟩,hit⟩:=st
  obtain⟨xs,hq,hx⟩:=hg
  obtain⟨its,rv,p,hz⟩:=I.list hq
  have hl:=rv.length
  exact wpAny_pyNext_enum_end (I.ok.hd hc) he hit p.isList (by simp;omega) λh1 hx1=>⟨rfl,I.turnedN (ch:=[e,it]) (t':=s.toks) hf λb v hb q=>hx1 b v (λz=>hb (by simp[z])) q⟩
 self:=λ_ _ _ _ _ st h=>u0r st.1.choose_spec h
def zbE {P:zX}{w:World}{K:zu}{es:yK}{k:Nat}{tp:Pos}(a e it:Addr)(hne:e≠it)(hai:a≠it)(hae:a≠e) :
 zeJ P w K (.Tuple es k tp) (Iet K a) [e,it] e (λi h=>(∃ old,IsEnum h e it i old)/\h.IsTupleIter it a i) where
 mem:=by simp
 obj:=λi h st b hb=>by
  obtain⟨⟨old,he⟩,o,ho,_,hd⟩:=st
  rcases q3.mp hb with rfl | hb
  .exact⟨_,he,λv z=>by cases z⟩
  .rw[t2.mp hb]
   exact⟨o,ho,λv z=>by rw[hd]at z;cases z⟩
 keep:=λi h h' st kk=>by
  obtain⟨⟨old,he⟩,o,ho,r⟩:=st
  exact⟨⟨old,kk e (by simp) _ he⟩,o,kk it (by simp) o ho,r⟩
 item:=by
  intro X hP hw hK hc i pins s σ H E I hf st hg
  subst hP hw hK
  obtain⟨⟨old,he⟩,hit⟩:=st
  obtain⟨xs,x,hq,hx⟩:=hg
  obtain⟨its,rv,p,hz⟩:=I.tuple hq
  obtain⟨u,hu,ru⟩:=rv.get hx
  have p':s.heap.IsTuple a its.toArray:=p
  have D:=v4 (prog:=X.prog) (w:=X.w) (A:=X.A.in1) (I.ok.hd hc) it a hai its.toArray
  have hlt:i<its.toArray.size:=by
   obtain⟨h1,_⟩:=q4.mp hu
   simpa using h1
  refine wpAny_pyNext_enum_itemD D he ⟨hit,p'⟩ hlt hne (by simp[hne,u0d hae]) λu' h1 tk hP1 ho1 hit1 hT1 hz1 hk1=>?_
  have eu:u'=u:=by
   have:its[i]?=some u':=by simpa using hP1
   rw[hu]at this
   exact(o6 this).symm
  subst eu
  refine⟨_,rfl,u0H ho1 λh2 he2 hs2=>?_⟩
  have hfr:H s.heap.objs.size=none:=I.hok.fresh (t7 _)
  have neE:s.heap.objs.size≠e:=u0h (t8 he)
  have hT2:h2.get? s.heap.objs.size=some { cls:=.type "tuple",data:=.seq #[.int i tk,u'] }:=(hs2.2 _ neE).trans hT1
  refine⟨.ref s.heap.objs.size,upd H s.heap.objs.size (.tup [.int i,x]),?_,rfl,⟨_,x,rfl,hfr,rfl,λys hy=>by rw[I.tuple_inj hy hq];exact hx⟩,⟨⟨_,by simpa using he2⟩,?_⟩,λb hb=>?_⟩
  .refine I.grown (ch:=[e,it]) hf (t7 _) (λb v hb q=>?_) ?_
   .have n1:b≠e:=λz=>hb (by simp[z])
    have n2:b≠it:=λz=>hb (by simp[z])
    exact(hs2.2 b n1).trans (hk1 b v n1 n2 q)
   .exact⟨by show 2<=sizeLine;decide,[.int i tk,u'],.cons ⟨_,rfl⟩ (.cons ru .nil),⟨_,hT2,rfl,0,rfl⟩⟩
  .obtain⟨o,ho,r⟩:=hit1.1
   exact⟨o,(hs2.2 it (u0d hne)).trans ho,r⟩
  .obtain⟨o,hb2,_⟩:∃ o,s.heap.get? b=some o/\True:=by
    rcases q3.mp hb with rfl | hb
    .exact⟨_,he,trivial⟩
    .rw[t2.mp hb]
     obtain⟨o,ho,_⟩:=hit
     exact⟨o,ho,trivial⟩
   rw[zn (j5 (t8 hb2))]
   exact(hf b hb).1
 done:=by
  intro X hP hw hK hc i pins s σ H E I hf st hg
  subst hP hw hK
  obtain⟨⟨old,he⟩,hit⟩:=st
  obtain⟨xs,hq,hx⟩:=hg
  obtain⟨its,rv,p,hz⟩:=I.tuple hq
  have hl:=rv.length
  have p':s.heap.IsTuple a its.toArray:=p
  exact Yg (I.ok.hd hc) he hit p' (by simp;omega) λh1 hx1=>⟨rfl,I.turnedN (ch:=[e,it]) (t':=s.toks) hf λb v hb q=>hx1 b v (λz=>hb (by simp[z])) q⟩
 self:=λ_ _ _ _ _ st h=>u0r st.1.choose_spec h
def zj9 (K:zu)(c:TA):TI:=fun σ H R=>c σ H λd H1=>∃ a,d=[.ref a]/\((∃ b,H1 a=some (.lst b)/\R (Iel K a) H1)\/(∃ b,SqT K H1 a b/\R (Iet K a) H1))
def zf3 {X:Cx} {tp:Pos} (O:Gl X "enumerate") (N:X.mg "enumerate"=none) (g:bootBuiltins "enumerate"=some (.type "enumerate")) (D:PA X [a] A) (F:starEach [a] X.env=[(false,eval a X.env)]:=by rfl):PI X (.Tuple E k tp) (.Call (.Name "enumerate" p) [a] [] m) (zj9 X.K A):=by
 intro c s σ H R I h
 refine Call_ (ZG I O N g (s0 (thn (D m c s σ H _ I h) λQ f hh9=>?_) F rfl))
 obtain⟨P,H1,I1,C,K⟩:=hh9
 obtain⟨l,e,q⟩:=K
 subst e
 obtain⟨u,rfl,M⟩:=WA C
 cases M
 have B:∀ b,f.heap.objs.size<=b->VZ X c H1 b:=λb g=>I1.fpOk g (I1.hok.fresh g)
 have j:f.heap.objs.size+1≠f.heap.objs.size:=by omega
 have t:∀ b∈[f.heap.objs.size+1,f.heap.objs.size],VZ X c H1 b:=λb g=>by
  rcases q3.mp g with rfl | g
  .exact B _ (u06 _)
  .rw[t2.mp g];exact B _ (t7 _)
 rcases q with ⟨w,v,q⟩ | ⟨w,v,q⟩
 .obtain⟨_,d,n,_,e⟩:w.length<=sizeLine/\∃ (d:zH) (n:Nat),yU w d/\f.heap.get? l=some { cls:=.type "list",data:=.seq d.toArray n }:=I1.hok _ _ v
  refine call_enumerate_1 e λL r i J x=>u0r r ?_
  exact⟨_,_,_,_,H1,rfl,I1.kept (t':=f.toks) x,zbv l _ _ j,⟨⟨_,r⟩,i⟩,t,q⟩
 .obtain⟨d,_,y,_⟩:=I1.tuple v
  have z:l<f.heap.objs.size:=by
   obtain⟨o,G,_⟩:=y
   exact t8 G
  refine Yh (show f.heap.IsTuple l d.toArray from y) λL r i J x=>u0r r ?_
  exact⟨_,_,_,_,H1,rfl,I1.kept (t':=f.toks) x,zbE l _ _ j (j5 z) (j5 (i9 z)),⟨⟨_,r⟩,i⟩,t,q⟩
end L2
namespace HT
open PySem PyProof.Rows
def lexLe:zB->zB->Bool
 | [],_=>true
 | _::_,[]=>false
 | x::xs,y::ys=>if x=y then lexLe xs ys else decide (x<=y)
def zbK (x y:Int)(b a:zB):lexLe (x::b) (y::a)=if x=y then lexLe b a else decide (x<=y):=rfl
def zek (A:z5)(s:zi)(a:Int)(t:Tok)(c:Int)(u:Tok)(b:zX)(w:World)(E:xa)(Q:xa)(h:Q (.bool (decide (a<=c))) s) :
 wpAny (model b w) A (richCompare .LtE (.int a t) (.int c u)) Q E s :=
 (PyProof.Rows.le_int h:wpAny (model b w) A (compareOp .LtE (.int a t) (.int c u)) Q E s)
section
open PySem.SeqAt
open PySem.AutoSeq1 (wpAny_loadPart')
open PySem.MeetsSeq PySem.MeetsSeq2 PySem.MeetsSeq3
theorem X9 (l b:Addr)(i f:vC)(n U:Nat)(S K:xT)(V M:Array (Option Value))(ns G:zB)(N:IntsAre i.toList ns)(P:IntsAre f.toList G) :
 Meets (Builtin.«tuple.__le__» ⟨[.ref l,.ref b],[]⟩)
  (λ_ R s=>s.heap.get? l=some { cls:=.type "tuple",dict:=S,data:=.seq i n,slots:=V }/\s.heap.get? b=some { cls:=.type "tuple",dict:=K,data:=.seq f U,slots:=M } /\
   R (.ok (.ret (.bool (lexLe ns G)))) s) :=
 .of_wp λv w A R s h=>by
  obtain⟨hp,g,d,I,os⟩:=s;obtain⟨W,T,h⟩:=h
  have Y:=AutoSeq1.sub_tuple_tuple
  have Z:i.size=ns.length:=by rw[<-N.length];simp
  have X:f.size=G.length:=by rw[<-P.length];simp
  wp_walk using f8 W,f8 T,wpAny_forIn_list _ (λrest b L=>b.1=none/\L=⟨hp,g,d,I,os⟩/\∃ (F H:zH) (m k:zB),rest=F.zip H /\
   IntsAre F m/\IntsAre H k/\m.length+f.size=k.length+i.size/\R (.ok (.ret (.bool (lexLe m k)))) ⟨hp,g,d,I,os⟩) _
  case turn =>
   rintro⟨y,x⟩ rest b L ⟨B,rfl,F,H,m,k,o,z,C,j,p⟩
   cases z with
   | nil=>rw[List.zip_nil_left]at o;cases o
   | cons a t D =>
    cases C with
    | nil=>rw[List.zip_nil_right]at o;cases o
    | cons c u E =>
     rw[List.zip_cons_cons]at o
     injection o with hyx hrest
     injection hyx with hy hx
     subst hy hx
     rw[zbK]at p
     simp only[j8]at j
     obtain⟨e,Q,r⟩:=zeF A.in1 ⟨hp,g,d,I,os⟩ a t c u
     refine u5 (Q v w _ _ ?_)
     cases e with
     | true =>
      rw[j0 (r.mp rfl)]at p
      wp_walk
      exact⟨rfl,rfl,_,_,_,_,hrest,D,E,by omega,p⟩
     | false =>
      rw[j6 (λq=>absurd (r.mpr q) u9)]at p
      have J:=zek A.in1 ⟨hp,g,d,I,os⟩ a t c u v w
      wp_walk using J
      exact⟨_,rfl,by simpa using p⟩
  case fin =>
   rintro⟨b1,b2⟩ L ⟨B,rfl,F,H,m,k,o,z,C,j,p⟩
   simp only at B
   subst B
   have O:lexLe m k=decide (i.size<=f.size):=by
    cases z with
    | nil =>
     simp only[u2a]at j
     show true=_
     exact(u8 (by omega)).symm
    | cons a t O =>
     cases C with
     | nil =>
      simp only[u2a,j8]at j
      show false=_
      exact(u7 (by omega)).symm
     | cons c u hw =>
      rw[List.zip_cons_cons]at o
      cases o
   rw[O]at p
   wp_walk
   exact⟨_,rfl,by simpa [Builtin.Tuple.tupleCompareSizes]using p⟩
  case h =>
   exact⟨rfl,rfl,i.toList,f.toList,ns,G,rfl,N,P,by omega,h⟩
end
section
variable {prog:zX}{w:World}{A:z5}{E:xa}{s:zi}
def le_tupInts {c a:vC}{Q:xa}(B:IsTup s.heap l c)(r:IsTup s.heap b a)(v:IntsAre c.toList ns)(z:IntsAre a.toList e)(u:A.units<cLine)(h:Q (.bool (lexLe ns e)) s):wpAny (model prog w) A (compareOp .LtE (.ref l) (.ref b)) Q E s:=by
 obtain⟨⟨cls,C,data,y⟩,m,q,n,p⟩:=id B
 obtain⟨⟨o,j,i,k⟩,g,f,t,d⟩:=id r
 simp only at q p f d
 subst q p f d
 exact richCompare_meets_room (op:=.LtE) ⟨_,m,rfl⟩ ⟨_,g,rfl⟩ PySem.F.slot_tuple_le PySem.F.entry_tuple_le (PySem.F.args_tuple_le_2 _ _) (X9 l b c a n t C j y k ns e v z)
  ⟨m,g,show Value.bool (lexLe ns e)≠Value.notImplemented/\Q (.bool (lexLe ns e)) s from⟨(λx=>nomatch x),h⟩⟩ u
end
end HT
namespace L2
open PySem PySem.Spec PyProof.Rows
def rLeT (K:zu):R2:=λx y H Q=>∃ a b ns c,x=.ref a/\y=.ref b/\SqT K H a (ns.map V.int)/\SqT K H b (c.map V.int)/\Q (.bl (HT.lexLe ns c)) H
def zfF {X:Cx}(l:X.A.units<cLine):OpR X (compareOp .LtE) (rLeT X.K):=by
 intro f s σ H x y v u Q I r j h
 obtain⟨a,b,ns,e,rfl,rfl,p,i,q⟩:=h
 cases r
 cases j
 obtain⟨d,g,k,_⟩:=I.tuple p
 obtain⟨c,t,m,_⟩:=I.tuple i
 have o:IntsAre d.toArray.toList ns:=X2 g
 have n:IntsAre c.toArray.toList e:=X2 t
 exact HT.le_tupInts k m o n l ⟨.bl (HT.lexLe ns e),H,I,rfl,q⟩
end L2
namespace HT
open PySem PyProof.Rows
section
variable {prog:zX}{w:World}{A:z5}{E:xa}{s:zi}
def own_getItem_whole {a:vC}{Q:xa}(c:IsTup s.heap t a)(k:s.heap.IsSliceOf j n l .none)(p:IsPart n b)(q:IsPart l e)(hw:sIx a.size 0 b=0/\sIx a.size a.size e=a.size)(h:Q (.ref t) s):wpAny (model prog w) A (getItem (.ref t) (.ref j)) Q E s:=by
 obtain⟨os,g,i,o⟩:=id k
 have f:s.TypeIs (.ref j) "slice":=⟨os,g,i⟩
 unfold getItem
 try with_reducible refine l5 ?_
 first | refine u5 (t9 ?_) | skip
 refine u5 (wpAny_sequenceKey c.typeIs (by decide) ?_)
 refine u5 (g9 (name:=Str.ofString "__getitem__") c.typeIs o9
  (u0e o9 c.typeIs entry_tuple_getitem ?_ (args_tuple_getitem _ _)))
 show wpAny _ _ (Builtin.Tuple.tupleItemsOf (.ref t)>>=_) _ _ s
 refine u5 (tupleItemsOf_ c ?_)
 refine u5 (u2c f ?_)
 rw[j0 (by decide)]
 refine u5 (vG k p q ?_)
 have d:(((sIx a.size 0 b:Nat):Int) == 0&&(1:Int) == 1&&(sIx a.size a.size e-sIx a.size 0 b) == a.size)=true:=by
  rw[hw.1,hw.2]
  simp
 show wpAny _ _ (if (((sIx a.size 0 b:Nat):Int) == 0&&(1:Int) == 1&&(sIx a.size a.size e-sIx a.size 0 b) == a.size)=true then _ else _) _ _ s
 rw[j0 d]
 refine u5 (m:=Builtin.Tuple.tupleIsExact (.ref t)) ?_
 unfold Builtin.Tuple.tupleIsExact
 refine u5 (u2c c.typeIs (t9 ?_))
 rw[j0 (by decide)]
 refine u5 (wpAny_rule ?_)
 first
  | exact t9 ⟨_,rfl,t9 h⟩
  | exact u5 (t9 (t9 ⟨_,rfl,t9 h⟩))
end
end HT
namespace PySem
open Sem (wp)
def xE {w:World}{f:xw}{St:Nat->Heap->Prop}(D:Draws c w A l f n P St)(j:St k h)(i:Heap.SameBut a h d)(m:a∉f):St k d :=
 D.frame _ _ _ j λb g o e=>(i.2 b λz=>m (z ▸ g)).trans e
structure zfb (z TI TO i1 i2:Addr) (fp1 fp2:xw):Prop where
 nd:[z,TI,TO,i1,i2].Nodup
 z1:z∉fp1
 z2:z∉fp2
 o1:TO∉fp1
 o2:TO∉fp2
 i12:i1∉fp2
 i21:i2∉fp1
section
variable {prog:zX}{w:World}{A:z5}{E:xa}{s:zi}{z TI TO i1 i2:Addr}{fp1 fp2:xw}{n1 n2 k1 k2:Nat}{P1 P2:Nat->Value->Prop}{St1 St2:Nat->Heap->Prop}{a b:Value}
theorem WU {Q:xa}(D1:Draws prog w A i1 fp1 n1 P1 St1)(D2:Draws prog w A i2 fp2 n2 P2 St2)(ap:zfb z TI TO i1 i2 fp1 fp2)
 (k:IsZip s.heap z TI TO .none) (H:IsPair s.heap TI (.ref i1) (.ref i2)) (I:IsPair s.heap TO a b) (h1:St1 k1 s.heap) (h2:St2 k2 s.heap) (l1:k1 < n1) (l2:k2 < n2)
 (hQ:∀ x y g tk,P1 k1 x->P2 k2 y->IsZip g z TI TO (rawInt s.heap.objs.size)->IsPair g TO x y->St1 (k1+1) g->St2 (k2+1) g->IsPair g s.heap.objs.size x y ->
  (∀ c o,c∉[z,TO,i1,i2]->s.heap.get? c=some o->g.get? c=some o)->Q (.ref s.heap.objs.size) { s with heap:=g,toks:=tk }) :
 wpAny (model prog w) A (Builtin.«zip.__next__» ⟨[.ref z],[]⟩) (λfin s'=>∃ v,fin=.done (.ret v)/\Q v s') E s:=by
 obtain⟨W,p,m,r,u,M,N⟩:=ap
 simp only[h9,q3,r4,u0i,u2d,u1a,u1P,and_true]at W
 obtain⟨⟨a2,f,K,F⟩,⟨n5,n6,n7⟩,⟨Z,n9⟩,a3⟩:=W
 show wpAny _ _ (field (.ref z) 2>>=_) _ _ _
 refine u5 (p7 k rfl (x:=.bool false) rfl ?_)
 show wpAny _ _ (field (.ref z) 3>>=_) _ _ _
 refine u5 (p7 k rfl (x:=.ref TI) rfl (u5 (u0A H rfl ?_)))
 show wpAny _ _ (Builtin.SmallTypes.ownedTupleIsFree (.ref z)>>=_) _ _ _
 refine u5 ?_
 unfold Builtin.SmallTypes.ownedTupleIsFree
 refine u5 (p7 k rfl (x:=.none) rfl (t9 ?_))
 simp only[u1Q]
 refine u5 (wpAny_rule (u5 (p7 k rfl (x:=.ref TO) rfl (u5 (u0C k (by simp) λg1 z1 b1=>?_)))))
 refine u5 ?_
 simp only[List.zipIdx_cons,List.zipIdx_nil,u1u,u1O]
 refine u5 (u5 (wpAny_onRaise ?_))
 show wpAny _ _ (Builtin.SmallTypes.nextOf (.ref i1)>>=_) _ _ _
 refine u5 (D1.item k1 _ _ _ l1 (xE D1 h1 b1 p) λx g2 a0 px G b2=>t9 ?_)
 have T:IsPair g2 TO a b:=(b2.2 TO Z).trans ((b1.2 TO (u0d f)).trans I)
 refine u5 (u0A T rfl (u5 (wpAny_updateSeq_pair T λg3 o3 b3=>?_)))
 refine u5 (wpAny_letGo (t9 ?_))
 refine u5 (u5 (wpAny_onRaise ?_))
 show wpAny _ _ (Builtin.SmallTypes.nextOf (.ref i2)>>=_) _ _ _
 have L:St2 k2 g3:=xE D2 (xE D2 (xE D2 h2 b1 m) b2 M) b3 u
 refine u5 (D2.item k2 _ _ _ l2 L λy g4 a1 py J j=>t9 ?_)
 have P:IsPair g4 TO x b:=(j.2 TO n9).trans o3
 refine u5 (u0A P rfl (u5 (wpAny_updateSeq_pair P λd B t=>?_)))
 replace B:IsPair d TO x y:=B
 refine u5 (wpAny_letGo (t9 (t9 ?_)))
 refine u5 (u0A B rfl ?_)
 show wpAny _ _ (newTuple [x,y]>>=_) _ _ _
 refine u5 (wpAny_newTuple ?_)
 have i:d.objs.size=s.heap.objs.size:=by rw[t.1,j.1,b3.1,b2.1,b1.1]
 have R:IsZip d z TI TO .ellipsis:=(t.2 z f).trans ((j.2 z F).trans ((b3.2 z f).trans ((b2.2 z K).trans z1)))
 have l:z < d.objs.size:=t8 R
 show wpAny _ _ (Builtin.SmallTypes.ownedTupleHandOut (.ref z) (.ref d.objs.size)>>=_) _ _ _
 refine u5 ?_
 unfold Builtin.SmallTypes.ownedTupleHandOut
 have z6:IsZip (d.push { cls:=.type "tuple",data:=.seq #[x,y] }) z TI TO .ellipsis:=u6 _ R
 refine u5 (u0C z6 (by simp) λg7 z7 S=>?_)
 refine u0C z7 (by simp) λD z8 O=>?_
 have C:∀ c o,c≠z->d.get? c=some o->D.get? c=some o:=λc o n e=>(O.2 c n).trans ((S.2 c n).trans (u6 _ e))
 have Y:IsPair D d.objs.size x y:=(O.2 _ (u0h l)).trans ((S.2 _ (u0h l)).trans (j4 _ rfl))
 have U:IsZip D z TI TO (rawInt d.objs.size):=z8
 rw[i]at U Y
 refine t9 ⟨_,rfl,?_⟩
 show Q (.ref d.objs.size) _
 rw[i]
 have f1:St1 (k1+1) d:=xE D1 (xE D1 (xE D1 G b3 r) j N) t r
 have f2:St2 (k2+1) d:=xE D2 J t u
 refine hQ x y D _ px py U (C _ _ (u0d f) B) (D1.frame _ _ _ f1 λc h o e=>C c o (λq=>p (q ▸ h)) e) (D2.frame _ _ _ f2 λc h o e=>C c o (λq=>m (q ▸ h)) e) Y λc o h e=>?_
 simp only[q3,r4,u0i,u2d]at h
 obtain⟨X,V,c3,c4⟩:=h
 exact C c o X ((t.2 c V).trans ((j.2 c c4).trans ((b3.2 c V).trans ((b2.2 c c3).trans ((b1.2 c X).trans e)))))
def VT (D1:Draws prog w A i1 fp1 n1 P1 St1) (f:z∉fp1) (t:i1≠z) (d:IsZip s.heap z TI TO .none) (i:IsPair s.heap TI (.ref i1) (.ref i2)) (p:St1 n1 s.heap) (u:∀ h e,(∀ c o,c≠z->c≠i1->s.heap.get? c=some o->h.get? c=some o)->(∃ o,h.get? e=some o/\o.cls=.type "StopIteration")->E (.ref e) { s with heap:=h }) :
 wpAny (model prog w) A (Builtin.«zip.__next__» ⟨[.ref z],[]⟩) Q E s:=by
 show wpAny _ _ (field (.ref z) 2>>=_) _ _ _
 refine u5 (p7 d rfl (x:=.bool false) rfl ?_)
 show wpAny _ _ (field (.ref z) 3>>=_) _ _ _
 refine u5 (p7 d rfl (x:=.ref TI) rfl (u5 (u0A i rfl ?_)))
 show wpAny _ _ (Builtin.SmallTypes.ownedTupleIsFree (.ref z)>>=_) _ _ _
 refine u5 ?_
 unfold Builtin.SmallTypes.ownedTupleIsFree
 refine u5 (p7 d rfl (x:=.none) rfl (t9 ?_))
 simp only[u1Q]
 refine u5 (wpAny_rule (u5 (p7 d rfl (x:=.ref TO) rfl (u5 (u0C d (by simp) λy v b1=>?_)))))
 refine u5 ?_
 simp only[List.zipIdx_cons,List.zipIdx_nil,u1u,u1O]
 refine u5 (u5 (wpAny_onRaise ?_))
 show wpAny _ _ (Builtin.SmallTypes.nextOf (.ref i1)>>=_) _ _ _
 refine u5 (D1.done _ _ _ (xE D1 p b1 f) λg2 e b2 n=>?_)
 obtain⟨r,a,b⟩:=n
 have j:IsZip g2 z TI TO .ellipsis:=b2 _ _ (u0d t) v
 have g:e≠z:=λq=>by subst q;rw[j]at a;cases a;simp at b
 exact u0C j (by simp) λm _ b3=>u m e (λc o k l q=>(b3.2 c k).trans (b2 c o l ((b1.2 c k).trans q))) ⟨r,(b3.2 e g).trans a,b⟩
end
def Wq (b:Bool)(h:Heap)(a l:Addr)(k:Nat):Prop:=if b=true then h.IsListIter a l k else h.IsTupleIter a l k
def zbp (b:Bool)(h:Heap)(l:Addr)(a:vC):Prop:=if b=true then h.IsList l a else h.IsTuple l a
def Xm {w:World}{A:z5}(e:A.handled=none)(b:Bool)(c l:Addr)(d:l≠c)(a:vC) :
 Draws prog w A c [c,l] a.size (λi v=>a[i]?=some v) (λi h=>Wq b h c l i/\zbp b h l a):=by
 cases b with
 | true=>exact Draws.list e c l d a
 | false=>exact v4 e c l d a
def zb9 (b:Bool) (l:Addr):Obj:={ cls:=.type (if b=true then "list_iterator" else "tuple_iterator"),data:=.fields #[.ref l,.int 0 0] }
abbrev zpA (h:Heap)(b1:Bool)(a:Addr):Heap:=h.push (zb9 b1 a)
abbrev zpB (h:Heap)(b1 b2:Bool)(b a:Addr):Heap:=(zpA h b1 b).push (zb9 b2 a)
abbrev zpC (h:Heap) (b1 b2:Bool) (a b:Addr):Heap:=(zpB h b1 b2 a b).push (Obj.mk (.type "tuple") none (.seq #[.ref h.objs.size,.ref (zpA h b1 a).objs.size]) #[])
abbrev zpD (h:Heap) (b1 b2:Bool) (b a:Addr):Heap:=(zpC h b1 b2 b a).push (Obj.mk (.type "tuple") none (.seq #[.none,.none]) #[])
abbrev zpE (h:Heap) (b1 b2:Bool) (b a:Addr):Heap:=(zpD h b1 b2 b a).push (Obj.mk (.type "zip") none (.fields #[.none,.bool false,.bool false,.ref (zpB h b1 b2 b a).objs.size,.ref (zpC h b1 b2 b a).objs.size]) #[])
def V0 (b1 b2:Bool)(c f:Addr)(l j:vC) :
 Meets (Builtin.«zip.__new__» ⟨[.type "zip",.ref c,.ref f],[]⟩) (λ_ R s=>zbp b1 s.heap c l/\zbp b2 s.heap f j /\
  R (.ok (.ret (.ref (zpD s.heap b1 b2 c f).objs.size))) { s with heap:=zpE s.heap b1 b2 c f }) :=
 .of_wp λn w A R s h=>by
  obtain⟨hp,g,d,i,os⟩:=s;obtain⟨k,e,h⟩:=h
  have m:=sub_zip
  cases b1 with
  | true =>
   have b:Heap.IsList (Shared.heap ⟨hp,g,d,i,os⟩) c l:=k
   cases b2 with
   | true =>
    have a:Heap.IsList (Shared.heap ⟨hp.push { cls:=.type "list_iterator",data:=.fields #[.ref c,.int 0 0] },g,d,i,os⟩) f j:=Heap.IsList.push e _
    wp_walk using p8 b,p8 a
    exact⟨_,rfl,h⟩
   | false =>
    have a:Heap.IsTuple (Shared.heap ⟨hp.push { cls:=.type "list_iterator",data:=.fields #[.ref c,.int 0 0] },g,d,i,os⟩) f j:=Heap.IsTuple.push e _
    wp_walk using p8 b,p5 a
    exact⟨_,rfl,h⟩
  | false =>
   have b:Heap.IsTuple (Shared.heap ⟨hp,g,d,i,os⟩) c l:=k
   cases b2 with
   | true =>
    have a:Heap.IsList (Shared.heap ⟨hp.push { cls:=.type "tuple_iterator",data:=.fields #[.ref c,.int 0 0] },g,d,i,os⟩) f j:=Heap.IsList.push e _
    wp_walk using p5 b,p8 a
    exact⟨_,rfl,h⟩
   | false =>
    have a:Heap.IsTuple (Shared.heap ⟨hp.push { cls:=.type "tuple_iterator",data:=.fields #[.ref c,.int 0 0] },g,d,i,os⟩) f j:=Heap.IsTuple.push e _
    wp_walk using p5 b,p5 a
    exact⟨_,rfl,h⟩
end PySem
namespace PySem
section
variable {prog:zX}{w:World}{A:z5}{E:xa}{s:zi}
def VI {b1 b2:Bool}{Q:xa}(k:zbp b1 s.heap a v)(m:zbp b2 s.heap d q) (h:∀ f,IsZip f (s.heap.objs.size+4) (s.heap.objs.size+2) (s.heap.objs.size+3) .none->IsPair f (s.heap.objs.size+2) (.ref s.heap.objs.size) (.ref (s.heap.objs.size+1)) ->
 IsPair f (s.heap.objs.size+3) .none .none->Wq b1 f s.heap.objs.size a 0->Wq b2 f (s.heap.objs.size+1) d 0 ->
 (∀ c o,s.heap.get? c=some o->f.get? c=some o)->Q (.ref (s.heap.objs.size+4)) { s with heap:=f }) :
 wpAny (model prog w) A (call (.type "zip") [.ref a,.ref d]) Q E s:=by
 refine callType_new F.called_zip (by decide) (F.typeCall_zip_2 _ _) (F.newCall_zip_2 _ _) (λobj=>F.args_object_init_3 obj _ _) F.entry_zip_new
  (V0 b1 b2 a d v q) ⟨k,m,?_⟩
 have p:(zpA s.heap b1 a).objs.size=s.heap.objs.size+1:=g6 ..
 have i:(zpB s.heap b1 b2 a d).objs.size=s.heap.objs.size+2:=by rw[g6,p]
 have n:(zpC s.heap b1 b2 a d).objs.size=s.heap.objs.size+3:=by rw[g6,i]
 have u:(zpD s.heap b1 b2 a d).objs.size=s.heap.objs.size+4:=by rw[g6,n]
 have j:(zpE s.heap b1 b2 a d).get? (zpD s.heap b1 b2 a d).objs.size=some _:=j4 _ rfl
 have r:(zpE s.heap b1 b2 a d).get? (zpC s.heap b1 b2 a d).objs.size=some _:=u6 _ (j4 _ rfl)
 have t:(zpE s.heap b1 b2 a d).get? (zpB s.heap b1 b2 a d).objs.size=some _:=u6 _ (u6 _ (j4 _ rfl))
 have g2:(zpE s.heap b1 b2 a d).get? (zpA s.heap b1 a).objs.size=some (zb9 b2 d):=u6 _ (u6 _ (u6 _ (j4 _ rfl)))
 have y:(zpE s.heap b1 b2 a d).get? s.heap.objs.size=some (zb9 b1 a):=u6 _ (u6 _ (u6 _ (u6 _ (j4 _ rfl))))
 show _/\_
 rw[i,n,u]at j
 rw[p,i]at t
 rw[n]at r
 rw[p]at g2
 rw[u]
 have g:∀ {b:Bool} {l c:Addr},(zpE s.heap b1 b2 a d).get? c=some (zb9 b l)->Wq b (zpE s.heap b1 b2 a d) c l 0:=λ{b l c} e=>by
  cases b
  .exact⟨_,e,rfl,rfl⟩
  .exact⟨_,e,rfl,rfl⟩
 exact⟨⟨_,j,rfl⟩,h _ j t r (g y) (g g2) λc o x =>
  u6 _ (u6 _ (u6 _ (u6 _ (u6 _ x))))⟩
variable {z TI TO i1 i2:Addr}{fp1 fp2:xw}{n1 n2 k1 k2:Nat}{P1 P2:Nat->Value->Prop}{St1 St2:Nat->Heap->Prop}{a b:Value}
theorem Yv {Q:Option Value->Shared->Prop}(D1:Draws prog w A.in1 i1 fp1 n1 P1 St1)(D2:Draws prog w A.in1 i2 fp2 n2 P2 St2)(p:zfb z TI TO i1 i2 fp1 fp2)
 (i:IsZip s.heap z TI TO .none) (g:IsPair s.heap TI (.ref i1) (.ref i2)) (e:IsPair s.heap TO a b) (n:St1 k1 s.heap) (r:St2 k2 s.heap) (q:k1 < n1) (v:k2 < n2)
 (l:∀ x y d f,P1 k1 x->P2 k2 y->IsZip d z TI TO (rawInt s.heap.objs.size)->IsPair d TO x y->St1 (k1+1) d->St2 (k2+1) d->IsPair d s.heap.objs.size x y ->
  (∀ c o,c∉[z,TO,i1,i2]->s.heap.get? c=some o->d.get? c=some o)->Q (some (.ref s.heap.objs.size)) { s with heap:=d,toks:=f }) :
 wpAny (model prog w) A (pyNext (.ref z)) Q E s:=by
 have h:s.TypeIs (.ref z) "zip":=⟨_,i,rfl⟩
 unfold pyNext
 exact u5 (u0W (g9 (name:=Str.ofString "__next__") h u1s
  (u0e u1s h F.entry_zip_next
   (WU D1 D2 p i g e n r q v λx y d f t B k u D C m j=>t9 (l x y d f t B k u D C m j)) (F.args_zip_next_1 _))))
def Y3 {Q:Option Value->Shared->Prop}(D1:Draws prog w A.in1 i1 fp1 n1 P1 St1)(d:z∉fp1)(l:i1≠z)
 (h:IsZip s.heap z TI TO .none) (a:IsPair s.heap TI (.ref i1) (.ref i2)) (i:St1 n1 s.heap)
 (m:∀ f,(∀ c o,c≠z->c≠i1->s.heap.get? c=some o->f.get? c=some o)->Q none { s with heap:=f }):wpAny (model prog w) A (pyNext (.ref z)) Q E s:=by
 have g:s.TypeIs (.ref z) "zip":=⟨_,h,rfl⟩
 unfold pyNext
 refine u5 (u0W (g9 (name:=Str.ofString "__next__") g u1s
  (u0e u1s g F.entry_zip_next (VT D1 d l h a i λf e n k=>?_) (F.args_zip_next_1 _))))
 obtain⟨o,j,p⟩:=k
 refine u5 (wpAny_isInstance (T:="StopIteration") (b:=true) ⟨o,j,p⟩ isSubtype_stop ?_)
 exact t9 (m _ n)
end
end PySem
namespace L2
open PySem PySem.Spec PyProof.Rows
def Sq (b:Bool)(K:zu)(H:Hp)(a:Addr)(c:zz):Prop:=if b=true then SqL K H a c else SqT K H a c
def Inv.sq {X:Cx}{s:zi}(I:Inv X d σ H s)(h:Sq b X.K H a e):∃ c:zH,yU e c/\zbp b s.heap a c.toArray/\a<s.heap.objs.size:=by
 cases b with
 | true =>
  obtain⟨c,r,p,_⟩:=I.list (show SqL X.K H a e from h)
  exact⟨c,r,p.isList,by obtain⟨o,n,f,_⟩:=p;exact t8 f⟩
 | false =>
  obtain⟨c,r,p,_⟩:=I.tuple (show SqT X.K H a e from h)
  exact⟨c,r,p,by obtain⟨o,f,_⟩:=p;exact t8 f⟩
def Inv.sq_inj {X:Cx}(I:Inv X c σ H s)(h:Sq b X.K H a e)(f:Sq b X.K H a d):e=d:=by
 cases b with
 | true=>exact I.list_inj h f
 | false=>exact I.tuple_inj h f
def Izp (K:zu)(b1 b2:Bool)(c d:Addr):It :=
 ⟨λi H=>∃ a b x y,Sq b1 K H c a/\Sq b2 K H d b/\a[i]?=some x/\b[i]?=some y,
  λi H v H'=>∃ T x y,v=.ref T/\H T=none/\H'=upd H T (.tup [x,y])/\(∀ a,Sq b1 K H c a->a[i]?=some x)/\(∀ b,Sq b2 K H d b->b[i]?=some y),
  λi H=>∃ a,Sq b1 K H c a/\i=a.length⟩
def YY {h:Heap}(x:Wq b h d l k):∃ o,h.get? d=some o/\∀ v,o.data≠.cell v:=by
 cases b
 .obtain⟨o,a,_,c⟩:=x
  exact⟨o,a,λv z=>by rw[c]at z;cases z⟩
 .obtain⟨o,a,_,c⟩:=x
  exact⟨o,a,λv z=>by rw[c]at z;cases z⟩
def Z0 {h d:Heap}(x:Wq b h a l k)(e:∀ o,h.get? a=some o->d.get? a=some o):Wq b d a l k:=by
 cases b
 .obtain⟨o,c,r⟩:=x
  exact⟨o,e o c,r⟩
 .obtain⟨o,c,r⟩:=x
  exact⟨o,e o c,r⟩
def zeB {P:zX}{w:World}{K:zu}{es:yK}{k:Nat}{tp:Pos}(b1 b2:Bool)(l1 l2 z TI TO i1 i2:Addr)(ap:zfb z TI TO i1 i2 [i1,l1] [i2,l2])(n1:l1≠i1)(n2:l2≠i2) :
 zeJ P w K (.Tuple es k tp) (Izp K b1 b2 l1 l2) [z,TI,TO,i1,i2] z (λi h=>IsZip h z TI TO .none/\IsPair h TI (.ref i1) (.ref i2)/\(∃ a b,IsPair h TO a b)/\Wq b1 h i1 l1 i/\Wq b2 h i2 l2 i) where
 mem:=by simp
 obj:=λi h st b hb=>by
  obtain⟨hz,hTI,⟨a,c,hTO⟩,h1,h2⟩:=st
  simp only[q3,r4,u0i]at hb
  rcases hb with rfl | rfl | rfl | rfl | rfl
  .exact⟨_,hz,λv z=>by cases z⟩
  .exact⟨_,hTI,λv z=>by cases z⟩
  .exact⟨_,hTO,λv z=>by cases z⟩
  .exact YY h1
  .exact YY h2
 keep:=λi h h' st kk=>by
  obtain⟨hz,hTI,⟨a,c,hTO⟩,h1,h2⟩:=st
  exact⟨kk z (by simp) _ hz,kk TI (by simp) _ hTI,⟨a,c,kk TO (by simp) _ hTO⟩,Z0 h1 λo q=>kk i1 (by simp) o q,Z0 h2 λo q=>kk i2 (by simp) o q⟩
 item:=by
  intro X hP hw hK hc i pins s σ H E I hf st hg
  subst hP hw hK
  obtain⟨hz,hTI,⟨a,c,hTO⟩,h1,h2⟩:=st
  obtain⟨xs,ys,x,y,hq1,hq2,hx,hy⟩:=hg
  obtain⟨its,rv,p,_⟩:=I.sq hq1
  obtain⟨its2,rv2,p2,_⟩:=I.sq hq2
  obtain⟨u,hu,ru⟩:=rv.get hx
  obtain⟨u2,hu2,ru2⟩:=rv2.get hy
  have hl1:i<its.toArray.size:=by simpa using (q4.mp hu).1
  have hl2:i<its2.toArray.size:=by simpa using (q4.mp hu2).1
  have hh:X.A.in1.handled=none:=I.ok.hd hc
  refine Yv (Xm hh b1 i1 l1 n1 its.toArray) (Xm hh b2 i2 l2 n2 its2.toArray) ap hz hTI hTO ⟨h1,p⟩ ⟨h2,p2⟩ hl1 hl2 λv1 v2 h' tk e1 e2 hz' hTO' s1 s2 hT' hk=>?_
  have eu:v1=u:=by
   have:its[i]?=some v1:=by simpa using e1
   rw[hu]at this
   exact(o6 this).symm
  have eu2:v2=u2:=by
   have:its2[i]?=some v2:=by simpa using e2
   rw[hu2]at this
   exact(o6 this).symm
  subst eu eu2
  obtain⟨nd,az1,az2,ao1,ao2,a12,a21⟩:=ap
  simp only[h9,q3,r4,u0i,u2d,u1a,u1P,and_true]at nd
  obtain⟨⟨m1,m2,m3,m4⟩,⟨m5,m6,m7⟩,⟨m8,m9⟩,m10⟩:=nd
  refine⟨_,rfl,wpAny_letOwnedTupleGo_zip hz' λh2' hz2 hs2=>?_⟩
  have hfr:H s.heap.objs.size=none:=I.hok.fresh (t7 _)
  have neZ:s.heap.objs.size≠z:=u0h (t8 hz)
  have hT2:IsPair h2' s.heap.objs.size v1 v2:=(hs2.2 _ neZ).trans hT'
  have hTI':IsPair h' TI (.ref i1) (.ref i2):=hk TI _ (by simp[u0d m1,m5,m6,m7]) hTI
  have lt:∀ b∈[z,TI,TO,i1,i2],b<s.heap.objs.size:=λb hb=>by
   simp only[q3,r4,u0i]at hb
   rcases hb with rfl | rfl | rfl | rfl | rfl
   .exact t8 hz
   .exact t8 hTI
   .exact t8 hTO
   .obtain⟨o,ho,_⟩:=YY h1;exact t8 ho
   .obtain⟨o,ho,_⟩:=YY h2;exact t8 ho
  refine⟨.ref s.heap.objs.size,upd H s.heap.objs.size (.tup [x,y]),?_,rfl,⟨_,x,y,rfl,hfr,rfl,λzs hz=>by rw[I.sq_inj hz hq1];exact hx,λzs hz=>by rw[I.sq_inj hz hq2];exact hy⟩,
   ⟨hz2,(hs2.2 TI (u0d m1)).trans hTI',⟨_,_,(hs2.2 TO (u0d m2)).trans hTO'⟩,Z0 s1.1 λo q=>(hs2.2 i1 (u0d m3)).trans q,Z0 s2.1 λo q=>(hs2.2 i2 (u0d m4)).trans q⟩,λb hb=>?_⟩
  .refine I.grown (ch:=[z,TI,TO,i1,i2]) hf (t7 _) (λb v hb q=>?_) ?_
   .have nb:b≠z:=λw=>hb (by simp[w])
    refine(hs2.2 b nb).trans (hk b v (λw=>hb ?_) q)
    simp only[q3,r4,u0i]at w ⊢
    rcases w with w | w | w | w
    .exact .inl w
    .exact .inr (.inr (.inl w))
    .exact .inr (.inr (.inr (.inl w)))
    .exact .inr (.inr (.inr (.inr w)))
   .exact⟨by show 2<=sizeLine;decide,[v1,v2],.cons ru (.cons ru2 .nil),⟨_,hT2,rfl,0,rfl⟩⟩
  .rw[zn (j5 (lt b hb))]
   exact(hf b hb).1
 done:=by
  intro X hP hw hK hc i pins s σ H E I hf st hg
  subst hP hw hK
  obtain⟨hz,hTI,⟨a,c,hTO⟩,h1,h2⟩:=st
  obtain⟨xs,hq,rfl⟩:=hg
  obtain⟨its,rv,p,_⟩:=I.sq hq
  have hl:=rv.length
  have hh:X.A.in1.handled=none:=I.ok.hd hc
  have D:=Xm (prog:=X.prog) (w:=X.w) hh b1 i1 l1 n1 its.toArray
  refine Y3 D ap.z1 ?_ hz hTI ⟨by rw[q7,<- hl];exact h1,p⟩ λh' hk=>⟨rfl,I.turnedN (ch:=[z,TI,TO,i1,i2]) (t':=s.toks) hf λb v hb q=>hk b v (λw=>hb (by simp[w])) (λw=>hb (by simp[w])) q⟩
  have nd:=ap.nd
  simp only[h9,q3,r4,u0i,u2d,u1a,u1P,and_true]at nd
  exact u0d nd.1.2.2.1
 self:=λ_ _ _ _ _ st h=>wpAny_pyIter_zip st.1 h
def iZip (K:zu)(e:TA):TI:=fun σ H R=>e σ H λf H1=>∃ b1 b2 b a d c,f=[.ref b,.ref a]/\Sq b1 K H1 b d/\Sq b2 K H1 a c/\R (Izp K b1 b2 b a) H1
def ziQ {X:Cx} {T:yK} {k:Nat} {tp:Pos} {a b:Expr} {K:TA} {p t:Pos} (hg:Gl X "zip") (hm:X.mg "zip"=none) (o:bootBuiltins "zip"=some (.type "zip")) (S:PA X [a,b] K)
 (W:starEach [a,b] X.env=[(false,eval a X.env),(false,eval b X.env)]:=by rfl) (w:starEach [b] X.env=[(false,eval b X.env)]:=by rfl):PI X (.Tuple T k tp) (.Call (.Name "zip" p) [a,b] [] t) (iZip X.K K):=by
 intro l s σ H R I h
 refine Call_ (ZG I hg hm o (s0 (thn (S t l s σ H _ I h) λus c hh9=>?_) (by rw[W,w]) (by rw[w];rfl)))
 obtain⟨vs,H1,I1,O,M⟩:=hh9
 obtain⟨b1,b2,x,E,xs,ys,e,z,C,q⟩:=M
 subst e
 obtain⟨u,u2,rfl,ru,A⟩:=zhr O
 cases ru
 cases A
 obtain⟨V,rv,P,d⟩:=I1.sq z
 obtain⟨L,Q,Z,r⟩:=I1.sq C
 refine VI P Z λh2 N J B G F U=>wpAny_pyIter_zip N ?_
 have v:∀ b,c.heap.objs.size<=b->VZ X l H1 b:=λb o=>I1.fpOk o (I1.hok.fresh o)
 have Y:zfb (c.heap.objs.size+4) (c.heap.objs.size+2) (c.heap.objs.size+3) c.heap.objs.size (c.heap.objs.size+1) [c.heap.objs.size,x] [c.heap.objs.size+1,E]:=by
  have M:x≠c.heap.objs.size:=j5 d
  have y:∀ j:Nat,c.heap.objs.size+j≠x:=λj e=>u0g _ (j3 (by rw[<-e]at d;exact d) (g8 _ _))
  have D:∀ j:Nat,c.heap.objs.size+j≠E:=λj e=>u0g _ (j3 (by rw[<-e]at r;exact r) (g8 _ _))
  have g:∀ i j:Nat,i≠j->c.heap.objs.size+i≠c.heap.objs.size+j:=λi j h e=>h (Nat.add_left_cancel e)
  have f:∀ i:Nat,i≠0->c.heap.objs.size+i≠c.heap.objs.size:=λi h e=>h (Nat.add_left_cancel (n:=c.heap.objs.size) (m:=i) (k:=0) e)
  refine⟨?_,?_,?_,?_,?_,?_,?_⟩
  .simp only[h9,q3,r4,u0i,u2d,u1a,u1P,and_true]
   exact⟨⟨g 4 2 (by decide),g 4 3 (by decide),f 4 (by decide),g 4 1 (by decide)⟩,⟨g 2 3 (by decide),f 2 (by decide),g 2 1 (by decide)⟩,⟨f 3 (by decide),g 3 1 (by decide)⟩,u0d (f 1 (by decide))⟩
  .simp only[q3,r4,u0i,u2d];exact⟨f 4 (by decide),y 4⟩
  .simp only[q3,r4,u0i,u2d];exact⟨g 4 1 (by decide),D 4⟩
  .simp only[q3,r4,u0i,u2d];exact⟨f 3 (by decide),y 3⟩
  .simp only[q3,r4,u0i,u2d];exact⟨g 3 1 (by decide),D 3⟩
  .simp only[q3,r4,u0i,u2d];exact⟨u0d (f 1 (by decide)),D 0⟩
  .simp only[q3,r4,u0i,u2d];exact⟨f 1 (by decide),y 1⟩
 refine⟨_,_,_,_,H1,rfl,I1.kept (t':=c.toks) U,zeB b1 b2 x E _ _ _ _ _ Y (j5 d) (j5 (i9 r)),⟨N,J,⟨_,_,B⟩,G,F⟩,λb o=>?_,q⟩
 simp only[q3,r4,u0i]at o
 rcases o with rfl | rfl | rfl | rfl | rfl
 .exact v _ (g8 _ _)
 .exact v _ (g8 _ _)
 .exact v _ (g8 _ _)
 .exact v _ (t7 _)
 .exact v _ (g8 _ _)
end L2
namespace OwnSort
open PySem PyProof.Rows
section pure
variable {κ:KeyKind}{xs:Array Keyed}
def turned {n:Nat}(a:n<=xs.size)(h:NonIncK κ xs n):SortedToK κ (mirror xs 0 n ((n-0)/2)) n:=λi j b c=>by
 rw[KK_mirror a,KK_mirror a,j0 ⟨by omega,by omega⟩,j0 ⟨by omega,by omega⟩]
 exact h _ _ (by omega) (by omega)
end pure
abbrev Pr:=Int × Int
def zhP (s t:Pr):Bool:=decide (s.1<t.1\/(s.1=t.1/\s.2<t.2))
def TP (h:Heap) (v:Value) (t:Pr):Prop:=∃ a o n b ty,v=.ref a/\h.get? a=some o/\o.cls=.type "tuple"/\o.data=.seq #[.int t.1 b,.int t.2 ty] n
def TP.uniq (x:TP h v s)(y:TP h v t):s=t:=by
 obtain⟨a,o,n,m,ty,rfl,f,_,g⟩:=x
 obtain⟨b,l,j,i,k,e,d,_,c⟩:=y
 cases e
 rw[f]at d
 cases d
 rw[g]at c
 injection c with c _
 have:=i3 Array.toList c
 simp at this
 exact Prod.ext this.1.1 this.2.1
open Classical in
noncomputable def keyP (h:Heap)(v:Value):Option Pr:=if x:∃ t,TP h v t then some x.choose else none
@[reducible] noncomputable def kindP (h:Heap):KeyKind where
 α:=Pr
 blt:=zhP
 irrefl a:=by unfold zhP;exact u7 (by omega)
 trans a b c h1 h2:=by unfold zhP at *;rw[r8]at *;omega
 negTrans a b c h:=by unfold zhP at *;rw[r8]at *;rw[r8];omega
 total a b h1 h2:=by
  unfold zhP at *
  rw[l4]at *
  exact Prod.ext (by omega) (by omega)
 keyOf:=keyP h
 dflt:=(0,0)
end OwnSort
namespace Dl
open PySem L2
class KK where
 K:W.Frag
 dk:Addr
inductive D where
 | non | bl (b:Bool) | int (i:Int) | str (x:Str) | tup (ds:List D) | lst (ds:List D) | scr (ns:zB)
  | dct (z t:Bool) (ks:List (List Key)) (vs:List D)
  | obj (w h:D) (ps:List D)
 deriving Inhabited
abbrev zgO:=List D->Option (List D)
abbrev vp:=List D->Option D
abbrev zhB:=List D->Option Nat
abbrev xC:=D->D->Option D
abbrev W4:=D->Option (List (Option D))
abbrev zo:=List D
def V8 (a b:V) (q:Addr):List (Str × V):=[("web",a),("heap",b),("past",.ref q)]
section
variable [KK]
def zhA (o:HO)(t:Bool)(b:List (List Key))(c:zz):Prop :=
 if t=true then ∃ a,o=.dT a/\a.map (·.1)=b/\a.map (·.2)=c else ∃ a:List (Key × V),o=.dK a/\a.map (λp=>[p.1])=b/\a.map (·.2)=c
def zak (H:Hp)(a:Addr)(z t:Bool)(b:List (List Key))(c:zz):Prop :=
 ∃ u,zhA u t b c/\if z=true then ∃ d,H a=some (.frz d u)else H a=some u
def zak.mono (s:yt H H')(h:zak H a z t c d):zak H' a z t c d:=by
 obtain⟨u,e,b⟩:=h
 refine⟨u,e,?_⟩
 cases z with
 | true =>
  rw[j0 rfl]at b ⊢
  obtain⟨f,b⟩:=b
  exact⟨f,s _ _ b⟩
 | false =>
  rw[j6 u9]at b ⊢
  exact s _ _ b
def zak.rd (h:zak H a z t c d):∃ u,zhA u t c d/\Rd H a u:=by
 obtain⟨u,e,b⟩:=h
 refine⟨u,e,?_⟩
 cases z with
 | true =>
  rw[j0 rfl]at b
  obtain⟨f,b⟩:=b
  exact .inr ⟨f,b⟩
 | false =>
  rw[j6 u9]at b
  exact .inl b
mutual
def At (H:Hp):D->V->Prop
 | .non,v=>v=.non
 | .bl b,v=>v=.bl b
 | .int i,v=>v=.int i
 | .str x,v=>v=.str x
 | .tup ds,v=>∃ a c,v=.ref a/\H a=some (.tup c)/\AtL H ds c
 | .lst ds,v=>∃ a c,v=.ref a/\H a=some (.lst c)/\AtL H ds c
 | .scr ns,v=>∃ a,v=.ref a/\SqL KK.K H a (ns.map V.int)
 | .dct z t ks vs,v=>∃ a c,v=.ref a/\zak H a z t ks c/\AtL H vs c
 | .obj w h ps,v=>∃ p f q d e c,v=.ref p/\H p=some (.ins KK.dk f (V8 d e q))/\H q=some (.lst c)/\At H w d/\At H h e/\AtL H ps c
def AtL (H:Hp):zo->zz->Prop
 | [],xs=>xs=[]
 | d::ds,xs=>∃ x r,xs=x::r/\At H d x/\AtL H ds r
end
mutual
def At.mono (s:yt H H'):∀ {d:D} {v:V},At H d v->At H' d v
 | .non,_,h=>by unfold At at h ⊢;exact h
 | .bl _,_,h=>by unfold At at h ⊢;exact h
 | .int _,_,h=>by unfold At at h ⊢;exact h
 | .str _,_,h=>by unfold At at h ⊢;exact h
 | .tup ds,_,h=>by
  unfold At at h ⊢
  obtain⟨a,c,e,b,f⟩:=h
  exact⟨a,c,e,s _ _ b,AtL.mono s f⟩
 | .lst ds,_,h=>by
  unfold At at h ⊢
  obtain⟨a,c,e,b,f⟩:=h
  exact⟨a,c,e,s _ _ b,AtL.mono s f⟩
 | .scr ns,_,h=>by
  unfold At at h ⊢
  obtain⟨a,e,b⟩:=h
  exact⟨a,e,s.seq b⟩
 | .dct z t ks vs,_,h=>by
  unfold At at h ⊢
  obtain⟨a,c,e,b,f⟩:=h
  exact⟨a,c,e,b.mono s,AtL.mono s f⟩
 | .obj w d ps,_,h=>by
  unfold At at h ⊢
  obtain⟨p,l,q,g,i,c,e,b,j,k,m,f⟩:=h
  exact⟨p,l,q,g,i,c,e,s _ _ b,s _ _ j,At.mono s k,At.mono s m,AtL.mono s f⟩
def AtL.mono (s:yt H H'):∀ {a:zo} {b:zz},AtL H a b->AtL H' a b
 | [],_,h=>by unfold AtL at h ⊢;exact h
 | d::a,_,h=>by
  unfold AtL at h ⊢
  obtain⟨x,r,e,c,f⟩:=h
  exact⟨x,r,e,At.mono s c,AtL.mono s f⟩
end
mutual
def noL:D->Bool
 | .tup a=>zjA a
 | .lst _=>false
 | .scr _=>false
 | .dct _ _ _ _=>false
 | .obj _ _ _=>false
 | _=>true
def zjA:zo->Bool
 | []=>true
 | d::ds=>noL d&&zjA ds
end
mutual
def At.flat {G F:Hp}(h:∀ q b,G q=some (.tup b)->F q=some (.tup b)):∀ {d:D} {v:V},noL d=true->At G d v->At F d v
 | .non,_,_,a=>by unfold At at a ⊢;exact a
 | .bl _,_,_,a=>by unfold At at a ⊢;exact a
 | .int _,_,_,a=>by unfold At at a ⊢;exact a
 | .str _,_,_,a=>by unfold At at a ⊢;exact a
 | .tup ds,_,n,a=>by
  unfold At at a ⊢
  unfold noL at n
  obtain⟨p,b,e,c,f⟩:=a
  exact⟨p,b,e,h _ _ c,AtL.flat h n f⟩
 | .lst ds,_,n,_=>by unfold noL at n;cases n
 | .scr ds,_,n,_=>by unfold noL at n;cases n
 | .dct _ _ _ _,_,n,_=>by unfold noL at n;cases n
 | .obj _ _ _,_,n,_=>by unfold noL at n;cases n
def AtL.flat {G F:Hp}(h:∀ q b,G q=some (.tup b)->F q=some (.tup b)):∀ {c:zo} {b:zz},zjA c=true->AtL G c b->AtL F c b
 | [],_,_,a=>by unfold AtL at a ⊢;exact a
 | d::c,_,n,a=>by
  unfold AtL at a ⊢
  unfold zjA at n
  rw[t5]at n
  obtain⟨x,r,e,f,g⟩:=a
  exact⟨x,r,e,At.flat h n.1 f,AtL.flat h n.2 g⟩
end
section
variable {H H':Hp}{d:D}{ds es:zo}{v x:V}{xs ys:zz}
def At.int:At H (.int i) (.int i):=by unfold At;rfl
def At.bl:At H (.bl b) (.bl b):=by unfold At;rfl
def At.non:At H .non .non:=by unfold At;rfl
def At.str:At H (.str y) (.str y):=by unfold At;rfl
def At.tup {a:Addr}(h:H a=some (.tup xs))(b:AtL H ds xs):At H (.tup ds) (.ref a):=by unfold At;exact⟨a,xs,rfl,h,b⟩
def At.lst {a:Addr}(h:H a=some (.lst xs))(b:AtL H ds xs):At H (.lst ds) (.ref a):=by unfold At;exact⟨a,xs,rfl,h,b⟩
def AtL.nil:AtL H [] []:=by unfold AtL;rfl
def AtL.cons (h:At H d x)(a:AtL H ds xs):AtL H (d::ds) (x::xs):=by unfold AtL;exact⟨x,xs,rfl,h,a⟩
def At.int_inv (h:At H (.int i) v):v=.int i:=by unfold At at h;exact h
def At.bl_inv (h:At H (.bl b) v):v=.bl b:=by unfold At at h;exact h
def At.non_inv (h:At H .non v):v=.non:=by unfold At at h;exact h
def At.str_inv (h:At H (.str y) v):v=.str y:=by unfold At at h;exact h
def At.tup_inv (h:At H (.tup ds) v):∃ a xs,v=.ref a/\H a=some (.tup xs)/\AtL H ds xs:=by unfold At at h;exact h
def At.lst_inv (h:At H (.lst ds) v):∃ a xs,v=.ref a/\H a=some (.lst xs)/\AtL H ds xs:=by unfold At at h;exact h
def At.scr_inv {ns:zB}(h:At H (.scr ns) v):∃ a,v=.ref a/\SqL KK.K H a (ns.map V.int):=by unfold At at h;exact h
def At.dct_inv (h:At H (.dct z t b c) v):∃ a xs,v=.ref a/\zak H a z t b xs/\AtL H c xs:=by unfold At at h;exact h
def At.obj_inv {w d:D}(h:At H (.obj w d b) v):∃ p e q a c xs,v=.ref p/\H p=some (.ins KK.dk e (V8 a c q))/\H q=some (.lst xs)/\At H w a/\At H d c/\AtL H b xs:=by unfold At at h;exact h
def AtL.nil_inv (h:AtL H [] xs):xs=[]:=by unfold AtL at h;exact h
def AtL.cons_inv (h:AtL H (d::ds) xs):∃ x r,xs=x::r/\At H d x/\AtL H ds r:=by unfold AtL at h;exact h
def AtL.length:∀ {ds:zo} {xs:zz},AtL H ds xs->xs.length=ds.length
 | [],_,h=>by rw[h.nil_inv];rfl
 | _::_,_,h=>by
  obtain⟨x,r,rfl,_,a⟩:=h.cons_inv
  rw[j8,j8,AtL.length a]
def AtL.get:∀ {ds:zo} {xs:zz} {i:Nat} {d:D},AtL H ds xs->ds[i]?=some d->∃ x,xs[i]?=some x/\At H d x
 | [],_,_,_,_,e=>by simp at e
 | _::_,_,i,_,h,e=>by
  obtain⟨x,r,rfl,a,f⟩:=h.cons_inv
  cases i with
  | zero =>
   simp at e
   subst e
   exact⟨x,rfl,a⟩
  | succ i =>
   obtain⟨y,c,b⟩:=AtL.get (i:=i) f (by simpa using e)
   exact⟨y,by simpa using c,b⟩
def AtL.append:∀ {ds es:zo} {xs ys:zz},AtL H ds xs->AtL H es ys->AtL H (ds++es) (xs++ys)
 | [],_,_,_,h,k=>by rw[h.nil_inv];exact k
 | _::_,_,_,_,h,k=>by
  obtain⟨x,r,rfl,a,b⟩:=h.cons_inv
  exact .cons a (AtL.append b k)
def AtL.snoc (h:AtL H ds xs)(k:At H d v):AtL H (ds++[d]) (xs++[v]):=h.append (.cons k .nil)
def AtL.take:∀ (n:Nat) {ds:zo} {xs:zz},AtL H ds xs->AtL H (ds.take n) (xs.take n)
 | 0,_,_,_=>by simpa using AtL.nil
 | n+1,[],_,h=>by rw[h.nil_inv];simpa using AtL.nil
 | n+1,_::_,_,h=>by
  obtain⟨x,r,rfl,a,b⟩:=h.cons_inv
  rw[List.take_succ_cons,List.take_succ_cons]
  exact .cons a (AtL.take n b)
def AtL.drop:∀ (n:Nat) {ds:zo} {xs:zz},AtL H ds xs->AtL H (ds.drop n) (xs.drop n)
 | 0,_,_,h=>h
 | n+1,[],_,h=>by rw[h.nil_inv];simpa using AtL.nil
 | n+1,_::_,_,h=>by
  obtain⟨x,r,rfl,b,a⟩:=h.cons_inv
  rw[List.drop_succ_cons,List.drop_succ_cons]
  exact AtL.drop n a
def AtL.rep (h:AtL H ds xs):∀ k:Nat,AtL H (List.replicate k ds).flatten (List.replicate k xs).flatten
 | 0=>.nil
 | k+1=>by
  rw[l7,l7,u0l,u0l]
  exact h.append (AtL.rep h k)
def AtL.ints (ns:zB):AtL H (ns.map D.int) (ns.map V.int):=by
 induction ns with
 | nil=>exact .nil
 | cons n r a=>exact .cons .int a
def AtL.of_ints:∀ {ns:zB} {xs:zz},AtL H (ns.map D.int) xs->xs=ns.map V.int
 | [],_,h=>h.nil_inv
 | n::r,_,h=>by
  obtain⟨x,c,rfl,a,b⟩:=AtL.cons_inv (by simpa using h)
  rw[a.int_inv,AtL.of_ints b]
  rfl
end
def tyN:D->String
 | .non=>"NoneType" | .bl _=>"bool" | .int _=>"int" | .str _=>"str" | .tup _=>"tuple" | .lst _=>"list" | .scr _=>"list" | .dct _ _ _ _=>"dict" | .obj _ _ _=>"object"
def Hid (F':Hp)(p:Addr)(o:HO):Prop:=F' p=none\/((∃ a,o=.tup a)/\F' p=some o)
def Keep (F H F' H':Hp):Prop:=∀ p o,F p=none->H p=some o->Hid F' p o/\H' p=some o
structure Gr (F H F' H':Hp):Prop where
 ff:yt F F'
 fh:yt F' H'
 kp:Keep F H F' H'
def Gr.refl (s:yt F H):Gr F H F H:=⟨yt.refl _,s,λ_ _ a b=>⟨.inl a,b⟩⟩
def Gr.trans (a:Gr F H F1 H1)(b:Gr F1 H1 F2 H2):Gr F H F2 H2 :=
 ⟨a.ff.trans b.ff,b.fh,λp o d f=>by
  obtain⟨x,y⟩:=a.kp p o d f
  rcases x with x | ⟨e,c⟩
  .exact b.kp p o x y
  .exact⟨.inr ⟨e,b.ff _ _ c⟩,b.fh _ _ (b.ff _ _ c)⟩⟩
def Gr.kl {F H F' H':Hp}(g:Gr F H F' H')(n:∀ a,o≠.tup a)(b:F p=none)(d:H p=some o):F' p=none/\H' p=some o:=by
 obtain⟨x,y⟩:=g.kp p o b d
 rcases x with x | ⟨⟨a,c⟩,_⟩
 .exact⟨x,y⟩
 .exact absurd c (n a)
def Gr.alloc {H:Hp}(s:yt F H)(h:H p=none)(o:HO):Gr F H (upd F p o) (upd H p o):=by
 have a:F p=none:=s.free h
 refine⟨λb u q=>?_,λb u q=>?_,λb u q r=>?_⟩
 .rw[zn (zj q a)];exact q
 .by_cases e:b=p
  .subst e;rw[zx]at q ⊢;exact q
  .rw[zn e]at q ⊢;exact s b u q
 .have e:b≠p:=zj r h
  rw[zn e];exact⟨.inl (by rw[zn e];exact q),r⟩
def Gr.hide {H:Hp}(s:yt F H)(h:H p=none)(o:HO):Gr F H F (upd H p o):=by
 refine⟨yt.refl _,λb u q=>?_,λb u q r=>?_⟩
 .rw[zn (zj (s b u q) h)];exact s b u q
 .have e:b≠p:=zj r h
  rw[zn e];exact⟨.inl q,r⟩
def Gr.show {F H:Hp}{H0:Hp}(g:Gr F0 H0 F H)(h0:H0 p=none)(a:F p=none)(h:H p=some o):Gr F0 H0 (upd F p o) H:=by
 refine⟨λb u q=>?_,λb u q=>?_,λb u q r=>?_⟩
 .have:=g.ff b u q
  rw[zn (zj this a)];exact this
 .by_cases e:b=p
  .subst e;rw[zx]at q;rw[<-q];exact h
  .rw[zn e]at q;exact g.fh b u q
 .have e:b≠p:=zj r h0
  obtain⟨x,y⟩:=g.kp b u q r
  refine⟨?_,y⟩
  unfold Hid
  rw[zn e]
  exact x
abbrev Ev:=List (Option D)
abbrev yT:=Ev->Option (List D)
abbrev vO:=Ev->Option Bool
abbrev zfu:=Ev->Option Nat
abbrev ya:=Ev->Option D
def VAt (F:Hp)(ρ:Ev)(σ:St):Prop:=∀ (i:Nat) (d:D),ρ[i]?=some (some d)->∃ v,σ[i]?=some (some v)/\At F d v
def VAt.mono (h:VAt F ρ σ)(s:yt F F'):VAt F' ρ σ:=λi d e=>let ⟨v,e1,a⟩:=h i d e;⟨v,e1,a.mono s⟩
def RE (t:TE)(f:ya):Prop :=
 ∀ (σ:St) (ρ:Ev) (F H:Hp) (d:D) (Q:VK),yt F H->VAt F ρ σ->f ρ=some d->(∀ F' H' v,Gr F H F' H'->At F' d v->Q v H')->t σ H Q
def RT (t:TT)(f:vO):Prop :=
 ∀ (σ:St) (ρ:Ev) (F H:Hp) (b:Bool) (Q:Bool->Hp->Prop),yt F H->VAt F ρ σ->f ρ=some b->(∀ F' H',Gr F H F' H'->Q b H')->t σ H Q
def RA (t:TA)(f:yT):Prop :=
 ∀ (σ:St) (ρ:Ev) (F H:Hp) (a:zo) (Q:zz->Hp->Prop),yt F H->VAt F ρ σ->f ρ=some a->(∀ F' H' b,Gr F H F' H'->AtL F' a b->Q b H')->t σ H Q
def RF (t:TE)(f:yT):Prop :=
 ∀ (σ:St) (ρ:Ev) (F H:Hp) (a:zo) (Q:VK),yt F H->VAt F ρ σ->f ρ=some a->(∀ F' H' p b,Gr F H F' H'->H p=none->F' p=none->H' p=some (.lst b)->AtL F' a b->Q (.ref p) H')->t σ H Q
def ED (X:Cx)(e:Expr)(f:ya):Prop:=∃ t,PE X e t/\RE t f
def TD (X:Cx)(e:Expr)(f:vO):Prop:=∃ t,PT X e t/\RT t f
def WD (X:Cx)(e:Expr)(f:vO):Prop:=∃ t,PW X e t/\RT t f
def AD (X:Cx)(a:yK)(f:yT):Prop:=∃ t,PA X a t/\RA t f
def FL (X:Cx)(e:Expr)(f:yT):Prop:=∃ t,PE X e t/\RF t f
section
variable {X:Cx}{a b c:Expr}{pos:Pos}
def yy (f:yT):ya:=fun ρ=>(f ρ).map .lst
def x9 {f:yT}(h:FL X a f):ED X a (yy f):=by
 obtain⟨t,l,r⟩:=h
 refine⟨t,l,fun σ ρ F H d Q s n e q=>?_⟩
 obtain⟨j,k,rfl⟩:=t0.mp e
 refine r σ ρ F H j Q s n k λF' H' p o g h0 c m i=>?_
 have g2:=g.show h0 c m
 exact q _ _ _ g2 (At.lst zx (i.mono (λb u e=>by rw[zn (zj e c)];exact e)))
def zc (i:Nat):ya:=fun ρ=>(ρ[i]?).getD none
def zid (i:Nat)(h:PE X a (zao i)):ED X a (zc i):=by
 refine⟨_,h,fun σ ρ F H d Q s b e q=>?_⟩
 have g:ρ[i]?=some (some d):=by
  unfold zc at e
  cases h:ρ[i]? with
  | none=>rw[h]at e;cases e
  | some x=>rw[h]at e;cases x with
   | none=>cases e
   | some y=>cases e;rfl
 obtain⟨v,f,c⟩:=b i d g
 exact⟨v,f,q _ _ _ (.refl s) c⟩
def eC (d:D):ya:=λ_=>some d
def zg (h:PE X a (tC (.int i))):ED X a (eC (.int i)):=⟨_,h,λ_ _ _ _ _ _ s _ e q=>by cases e;exact q _ _ _ (.refl s) .int⟩
def zei (h:PE X a (tC (.bl i))):ED X a (eC (.bl i)):=⟨_,h,λ_ _ _ _ _ _ s _ e q=>by cases e;exact q _ _ _ (.refl s) .bl⟩
def zD (h:PE X a (tC (.str i))):ED X a (eC (.str i)):=⟨_,h,λ_ _ _ _ _ _ s _ e q=>by cases e;exact q _ _ _ (.refl s) .str⟩
def wj (h:PE X a (tC .non)):ED X a (eC .non):=⟨_,h,λ_ _ _ _ _ _ s _ e q=>by cases e;exact q _ _ _ (.refl s) .non⟩
def OpD (r:R2)(g:xC):Prop :=
 ∀ (F H:Hp) (x y:V) (d e z:D) (Q:VK),yt F H->At F d x->At F e y->g d e=some z->(∀ F' H' v,Gr F H F' H'->At F' z v->Q v H')->r x y H Q
def zd (g:xC)(f h:ya):ya:=fun ρ=>(f ρ).bind λx=>(h ρ).bind λy=>g x y
def zap {g:xC}{b c:TE}{f:ya}(p:OpD r g)(j:RE b f)(o:RE c h):RE (tOp r b c) (zd g f h):=by
 intro σ ρ F H z Q s d e q
 obtain⟨x,l,e⟩:=u4.mp e
 obtain⟨y,m,e⟩:=u4.mp e
 refine j σ ρ F H x _ s d l λF1 H1 v a n=>?_
 refine o σ ρ F1 H1 y _ a.fh (d.mono a.ff) m λF2 H2 u g2 t=>?_
 exact p F2 H2 v u x y z Q g2.fh (n.mono g2.ff) t e λF3 H3 w k i=>q F3 H3 w ((a.trans g2).trans k) i
def X1 {c:Operator}{g:xC}{f:ya}(e:OpR X (binaryOp c) r)(j:OpD r g)(i:ED X a f)(d:ED X b h):ED X (.BinOp a c b pos) (zd g f h) :=
 let ⟨_,pa,ra⟩:=i
 let ⟨_,pb,rb⟩:=d
 ⟨_,zd8 e pa pb,zap j ra rb⟩
def ZK {c:CmpOp}{g:xC}{f:ya}(e:OpR X (compareOp c) r)(k:OpD r g)(j:behindInMarks c b=false)(i:ED X a f)(d:ED X b h):ED X (.Compare a [c] [b] pos) (zd g f h) :=
 let ⟨_,pa,ra⟩:=i
 let ⟨_,pb,rb⟩:=d
 ⟨_,zg1 e pa pb j,zap k ra rb⟩
def asB:D->Option Bool
 | .bl b=>some b
 | _=>none
def Z5 {b:Bool}(h:asB d=some b):d=.bl b:=by
 cases d <;> first | (cases h;rfl) | cases h
def tOf (f:ya):vO:=fun ρ=>(f ρ).bind asB
def zhg {f:ya}(r:RE t f):RT (zal t) (tOf f):=by
 intro σ ρ F H b Q s a e q
 obtain⟨x,d,e⟩:=u4.mp e
 cases Z5 e
 exact r σ ρ F H _ _ s a d λF1 H1 v g c=>⟨b,c.bl_inv,q F1 H1 g⟩
def zL {c:CmpOp}{g:xC}{f:ya}(e:OpR X (compareOp c) r)(k:OpD r g)(j:behindInMarks c b=false)(i:ED X a f)(d:ED X b h):TD X (.Compare a [c] [b] pos) (tOf (zd g f h)) :=
 let ⟨_,pa,ra⟩:=i
 let ⟨_,pb,rb⟩:=d
 ⟨_,zas e pa pb j,zhg (zap k ra rb)⟩
def xV {f:ya}(d:ED X a f)(c:∀ b,isTrue a X.env b=(do let v<-b;standAt a.pos;holding [v] (truthy v)):=by intro _;rfl):TD X a (tOf f) :=
 let ⟨_,pa,ra⟩:=d
 ⟨_,zfT pa c,zhg ra⟩
def yD (f g:vO):vO:=fun ρ=>(f ρ).bind λc=>if c=true then g ρ else some false
def yX (f g:vO):vO:=fun ρ=>(f ρ).bind λc=>if c=true then some true else g ρ
def zV (f:vO):vO:=fun ρ=>(f ρ).map (!·)
def Ws {f:vO}(b:TD X a f):WD X (.BoolOp .And [a] pos) f:=let ⟨_,pa,ra⟩:=b;⟨_,zgk pa,ra⟩
def Yo {f:vO}(b:TD X a f):WD X (.BoolOp .Or [a] pos) f:=let ⟨_,pa,ra⟩:=b;⟨_,zfr pa,ra⟩
def zaO {rest:yK}{f g:vO}(l:TD X a f)(h:WD X (.BoolOp .And (b::rest) pos) g):WD X (.BoolOp .And (a::b::rest) pos) (yD f g):=by
 obtain⟨o,n,i⟩:=l
 obtain⟨p,m,k⟩:=h
 refine⟨_,ziT n m,fun σ ρ F H z Q s d e q=>?_⟩
 obtain⟨x,j,e⟩:=u4.mp e
 refine i σ ρ F H x _ s d j λF1 H1 c=>?_
 cases x with
 | true =>
  rw[j0 rfl]at e ⊢
  exact k σ ρ F1 H1 z Q c.fh (d.mono c.ff) e λF2 H2 g2=>q F2 H2 (c.trans g2)
 | false =>
  rw[j6 u9]at e ⊢
  cases e
  exact q F1 H1 c
def v8 {rest:yK}{f g:vO}(l:TD X a f)(h:WD X (.BoolOp .Or (b::rest) pos) g):WD X (.BoolOp .Or (a::b::rest) pos) (yX f g):=by
 obtain⟨o,n,i⟩:=l
 obtain⟨p,m,k⟩:=h
 refine⟨_,zik n m,fun σ ρ F H z Q s d e q=>?_⟩
 obtain⟨x,j,e⟩:=u4.mp e
 refine i σ ρ F H x _ s d j λF1 H1 c=>?_
 cases x with
 | false =>
  rw[j6 u9]at e ⊢
  exact k σ ρ F1 H1 z Q c.fh (d.mono c.ff) e λF2 H2 g2=>q F2 H2 (c.trans g2)
 | true =>
  rw[j0 rfl]at e ⊢
  cases e
  exact q F1 H1 c
def zbg {f:vO}(h:WD X a f):TD X a f:=let ⟨_,p,r⟩:=h;⟨_,p.pt,r⟩
def xK {f:vO}(g:TD X a f):TD X (.UnaryOp .Not a pos) (zV f):=by
 obtain⟨j,i,b⟩:=g
 refine⟨_,zfJ i,fun σ ρ F H z Q s c e q=>?_⟩
 obtain⟨x,d,rfl⟩:=t0.mp e
 exact b σ ρ F H x _ s c d λF1 H1 h=>q F1 H1 h
def wY (f g:ya):ya:=fun ρ=>((f ρ).bind asB).bind λc=>if c=true then g ρ else some (.bl false)
def eOr (f g:ya):ya:=fun ρ=>((f ρ).bind asB).bind λc=>if c=true then some (.bl true)else g ρ
def Zl (f:ya):ya:=fun ρ=>((f ρ).bind asB).map λc=>.bl (!c)
def zfP {op}{f:ya}(ha:ED X a f):ED X (.BoolOp op [a] pos) f:=let ⟨_,pa,ra⟩:=ha;⟨_,ziC pa,ra⟩
def zfX {rest:yK}{f g:ya}(m:ED X a f)(i:ED X (.BoolOp .And (b::rest) pos) g):ED X (.BoolOp .And (a::b::rest) pos) (wY f g):=by
 obtain⟨t,n,j⟩:=m
 obtain⟨u,p,l⟩:=i
 refine⟨_,zjp n p,fun σ ρ F H z Q s h e q=>?_⟩
 obtain⟨x,d,e⟩:=u4.mp e
 obtain⟨y,d,o⟩:=u4.mp d
 cases Z5 o
 refine j σ ρ F H _ _ s h d λF1 H1 v c k=>⟨x,k.bl_inv,?_⟩
 cases x with
 | true =>
  rw[j0 rfl]at e ⊢
  exact l σ ρ F1 H1 z Q c.fh (h.mono c.ff) e λF2 H2 w g2 r=>q F2 H2 w (c.trans g2) r
 | false =>
  rw[j6 u9]at e ⊢
  cases e
  exact q F1 H1 _ c .bl
def zhE {f:ya}(i:ED X a f):ED X (.UnaryOp .Not a pos) (Zl f):=by
 obtain⟨l,h,c⟩:=i
 refine⟨_,zja h,fun σ ρ F H z Q s d e q=>?_⟩
 obtain⟨x,b,rfl⟩:=t0.mp e
 obtain⟨y,b,j⟩:=u4.mp b
 cases Z5 j
 exact c σ ρ F H _ _ s d b λF1 H1 v k g=>⟨x,g.bl_inv,q F1 H1 _ k .bl⟩
def eIf (t:vO)(f g:ya):ya:=fun ρ=>(t ρ).bind λc=>if c=true then f ρ else g ρ
def zjF {f g:ya}(u:TD X c t)(p:ED X a f)(j:ED X b g):ED X (.IfExp c a b pos) (eIf t f g):=by
 obtain⟨A,m,k⟩:=u
 obtain⟨y,v,l⟩:=p
 obtain⟨B,r,o⟩:=j
 refine⟨_,ze1 m v r,fun σ ρ F H z Q s h e q=>?_⟩
 obtain⟨x,n,e⟩:=u4.mp e
 refine k σ ρ F H x _ s h n λF1 H1 d=>?_
 cases x with
 | true =>
  rw[j0 rfl]at e ⊢
  exact l σ ρ F1 H1 z Q d.fh (h.mono d.ff) e λF2 H2 w g2 i=>q F2 H2 w (d.trans g2) i
 | false =>
  rw[j6 u9]at e ⊢
  exact o σ ρ F1 H1 z Q d.fh (h.mono d.ff) e λF2 H2 w g2 i=>q F2 H2 w (d.trans g2) i
def eUn (g:D->Option D)(f:ya):ya:=fun ρ=>(f ρ).bind g
def Yx:D->Option D
 | .int i=>some (.int (-i))
 | _=>none
def zfE {f:ya}(i:ED X a f):ED X (.UnaryOp .USub a pos) (eUn Yx f):=by
 obtain⟨k,h,b⟩:=i
 refine⟨_,zgH zcX h,fun σ ρ F H z Q s c e q=>?_⟩
 obtain⟨x,g,e⟩:=u4.mp e
 cases x <;> try cases e
 exact b σ ρ F H _ _ s c g λF1 H1 v j d=>⟨_,d.int_inv,q F1 H1 _ j .int⟩
def zh:yT:=λ_=>some []
def za (f:ya)(g:yT):yT:=fun ρ=>(f ρ).bind λd=>(g ρ).map (d::·)
def ze:AD X [] zh:=⟨_,yR,λ_ _ _ _ _ _ s _ e q=>by cases e;exact q _ _ _ (.refl s) .nil⟩
def zb {a:yK}{f:ya}{g:yT}(m:ED X e f)(p:AD X a g)(d:starEach (e::a) X.env=(false,eval e X.env)::starEach a X.env:=by rfl):AD X (e::a) (za f g):=by
 obtain⟨u,n,h⟩:=m
 obtain⟨y,r,l⟩:=p
 refine⟨_,zy n r d,fun σ ρ F H z Q s c e q=>?_⟩
 obtain⟨x,k,e⟩:=u4.mp e
 obtain⟨j,o,rfl⟩:=t0.mp e
 refine h σ ρ F H x _ s c k λF1 H1 v b i=>?_
 exact l σ ρ F1 H1 j _ b.fh (c.mono b.ff) o λF2 H2 w g2 t=>q F2 H2 _ (b.trans g2) (.cons (i.mono g2.ff) t)
def lim (n:Nat):Bool:=decide (n<=sizeLine)
def x6 (g:yT):ya:=fun ρ=>(g ρ).bind λds=>if lim ds.length=true then some (.tup ds)else none
def zW (g:yT):yT:=fun ρ=>(g ρ).bind λds=>if lim ds.length=true then some ds else none
def xD {b:yK}{x1}{g:yT}(h:AD X b g):ED X (.Tuple b x1 pos) (x6 g):=by
 obtain⟨n,m,d⟩:=h
 refine⟨_,zfn m,fun σ ρ F H z Q s f e q=>?_⟩
 obtain⟨i,k,e⟩:=u4.mp e
 split at e <;> cases e
 rename_i l
 refine d σ ρ F H i _ s f k λF1 H1 j c a=>⟨by rw[a.length];exact t6 l,λp hp=>?_⟩
 have g2:=Gr.alloc c.fh hp (.tup j)
 exact q _ _ _ (c.trans g2) (.tup zx (a.mono g2.ff))
def xX {b:yK}{g:yT}(h:AD X b g):FL X (.List b pos) (zW g):=by
 obtain⟨n,k,f⟩:=h
 refine⟨_,WX k,fun σ ρ F H z Q s l e q=>?_⟩
 obtain⟨r,j,e⟩:=u4.mp e
 split at e <;> cases e
 rename_i m
 refine f σ ρ F H _ _ s l j λF1 H1 i a d=>⟨by rw[d.length];exact t6 m,λp hp=>?_⟩
 have g2:=Gr.hide a.fh hp (.lst i)
 have h0:H p=none:=by
  cases e:H p with
  | none=>rfl
  | some o =>
   cases c:F p with
   | none=>rw[(a.kp p o c e).2]at hp;cases hp
   | some u=>rw[a.fh _ _ (a.ff _ _ c)]at hp;cases hp
 exact q _ _ _ _ (a.trans g2) h0 (a.fh.free hp) zx d
end
end
end Dl
namespace Dl
open PySem L2
variable [KK]
structure Pst where
 z:Option (Addr × Addr × Addr)
 l:zo
 deriving Inhabited
inductive Sl where
 | no | v (d:D) | o (ds:zo) | m (t:Bool) (ks:List (List Key)) (vs:zo) | k (w h:D) (ps:Pst)
 deriving Inhabited
abbrev SE:=List Sl
abbrev vM:=D->SE->Option SE
abbrev xR:=SE->Option Nat
abbrev YF:=SE->Prop
def Sl.f:Sl->Option D
 | .v d=>some d
 | _=>none
def Sl.g:Sl->Option D
 | .v d=>some d
 | .o ds=>some (.lst ds)
 | .m t a b=>some (.dct false t a b)
 | .k w h ps=>some (.obj w h ps.l)
 | .no=>none
def Sl.isO:Sl->Bool
 | .o _=>true
 | .m _ _ _=>true
 | .k _ _ _=>true
 | _=>false
def Sl.isK:Sl->Bool
 | .k _ _ _=>true
 | _=>false
def visF (ρ:SE):Ev:=ρ.map Sl.f
def visG (ρ:SE):Ev:=ρ.map Sl.g
def zbO (F:Hp)(o:HO):Sl->Prop
 | .o b=>∃ a,o=.lst a/\AtL F b a
 | .m t e b=>∃ a,zhA o t e a/\AtL F b a
 | .k w h _=>∃ f c d q,o=.ins KK.dk f (V8 c d q)/\At F w c/\At F h d
 | _=>False
def zbO.mono (h:zbO F o s)(k:yt F F'):zbO F' o s:=by
 cases s with
 | no=>exact h
 | v d=>exact h
 | o i=>obtain⟨c,e,a⟩:=h;exact⟨c,e,a.mono k⟩
 | m t l i=>obtain⟨c,e,a⟩:=h;exact⟨c,e,a.mono k⟩
 | k w d ps=>obtain⟨j,f,g,q,e,a,b⟩:=h;exact⟨j,f,g,q,e,a.mono k,b.mono k⟩
def zbO.isO {s:Sl}(h:zbO F o s):s.isO=true:=by
 cases s with
 | no=>exact h.elim
 | v d=>exact h.elim
 | o a=>rfl
 | m t b a=>rfl
 | k w d c=>rfl
def zbO.ntup (h:zbO F o s)(f:zz):o≠.tup f:=by
 cases s with
 | no=>exact h.elim
 | v d=>exact h.elim
 | o c=>obtain⟨b,rfl,_⟩:=h;intro e;cases e
 | m t j c =>
  obtain⟨b,e,_⟩:=h
  unfold zhA at e
  split at e
  .obtain⟨a,rfl,_⟩:=e;intro e;cases e
  .obtain⟨a,rfl,_⟩:=e;intro e;cases e
 | k w d l=>obtain⟨n,g,i,q,rfl,_⟩:=h;intro e;cases e
def zbO.at {G:Hp}{s:Sl}(h:zbO F o s)(e:s.g=some d)(hp:G p=some o)(k:yt F G)(f:s.isK=false):At G d (.ref p):=by
 cases s with
 | no=>exact h.elim
 | v d=>exact h.elim
 | o c =>
  cases e
  obtain⟨b,rfl,a⟩:=h
  exact .lst hp (a.mono k)
 | m t g c =>
  cases e
  obtain⟨b,e,a⟩:=h
  unfold At
  exact⟨p,b,rfl,⟨o,e,hp⟩,a.mono k⟩
 | k w d i=>cases f
def DkF (Hb F H:Hp)(ρ:SE)(σ:St):Prop:=∀ (i:Nat) (w h:D) (b:Pst),ρ[i]?=some (Sl.k w h b)->∃ (p c q:Addr) (e f:V) (d:zz),σ[i]?=some (some (.ref p))/\H p=some (.ins KK.dk c (V8 e f q))/\Hb q=none/\F q=none/\H q=some (.lst d)/\AtL F b.l d/\(∀ (j:Nat) (s:Sl),ρ[j]?=some s->s.isO=true->σ[j]?≠some (some (.ref q)))/\(∀ (j:Nat) (s:Sl),ρ[j]?=some s->s.isK=true->j=i)/\∀ a,b.z=some a->a=(p,c,q)
def Sl.isK_eq {s:Sl}(h:s.isK=true):∃ w d a,s=.k w d a:=by
 cases s with
 | k w d a=>exact⟨w,d,a,rfl⟩
 | _=>cases h
def DkF.step {Hb F H Hb' F' H':Hp}{g:SE}(r:DkF Hb F H ρ σ)(n:∀ (i:Nat) (w h:D) (a:Pst),g[i]?=some (.k w h a)->ρ[i]?=some (.k w h a)/\l[i]?=σ[i]?)(G:yt F F') (E:∀ (i:Nat) (w h:D) (a:Pst) (p f q:Addr) (d b:V) (c:zz),ρ[i]?=some (.k w h a)->σ[i]?=some (some (.ref p))->H p=some (.ins KK.dk f (V8 d b q))->Hb q=none->F q=none->H q=some (.lst c)->(∀ (j:Nat) (s:Sl),ρ[j]?=some s->s.isO=true->σ[j]?≠some (some (.ref q))) ->
 H' p=some (.ins KK.dk f (V8 d b q))/\Hb' q=none/\F' q=none/\H' q=some (.lst c)/\∀ (j:Nat) (s:Sl),g[j]?=some s->s.isO=true->l[j]?≠some (some (.ref q))):DkF Hb' F' H' g l:=λi w h a e=>by
 obtain⟨m,z⟩:=n i w h a e
 obtain⟨p,f,q,d,b,c,o,x,A,I,u,B,M,J,N⟩:=r i w h a m
 obtain⟨P,g2,y,v,t⟩:=E i w h a p f q d b c m o x A I u M
 refine⟨p,f,q,d,b,c,by rw[z];exact o,P,g2,y,v,B.mono G,t,λj s O L=>?_,N⟩
 obtain⟨C,K,k,rfl⟩:=Sl.isK_eq L
 exact J j _ (n j C K k O).1 rfl
def ziG (h:V8 d e q=V8 b a c):q=c:=by
 unfold V8 at h
 simp at h
 exact h.2.2
def ziE {f:Addr}{g:V}(h:(some (HO.ins C f (V8 e g q)):Option HO)=some (.ins C c (V8 b a d))):q=d:=ziG (HO.ins.inj (o6 h)).2.2
structure Rl (Fb Hb F H:Hp) (ρ:SE) (σ:St):Prop where
 gr:Gr Fb Hb F H
 vals:∀ (i:Nat) (d:D),ρ[i]?=some (.v d)->∃ v,σ[i]?=some (some v)/\At F d v
 ows:∀ (i:Nat) (s:Sl),ρ[i]?=some s->s.isO=true->∃ p o,σ[i]?=some (some (.ref p))/\Hb p=none/\F p=none/\H p=some o/\zbO F o s
 dis:∀ (i j:Nat) (p:Addr) (s t:Sl),ρ[i]?=some s->ρ[j]?=some t->s.isO=true->t.isO=true->σ[i]?=some (some (.ref p))->σ[j]?=some (some (.ref p))->i=j
 len:ρ.length=σ.length
 dk:DkF Hb F H ρ σ
section
variable {Fb Hb F H F' H':Hp}{ρ ρ':SE}{σ σ':St}
def Rl.owns (r:Rl Fb Hb F H ρ σ)(i:Nat)(c:zo)(e:ρ[i]?=some (.o c)):∃ p b,σ[i]?=some (some (.ref p))/\Hb p=none/\F p=none/\H p=some (.lst b)/\AtL F c b:=by
 obtain⟨p,o,d,f,g,h,b,rfl,a⟩:=r.ows i _ e rfl
 exact⟨p,b,d,f,g,h,a⟩
def Rl.grow (r:Rl Fb Hb F H ρ σ)(g:Gr F H F' H'):Rl Fb Hb F' H' ρ σ:=by
 refine⟨r.gr.trans g,λi d e=>?_,λi s e h=>?_,r.dis,r.len,r.dk.step (λ_ _ _ _ e=>⟨e,rfl⟩) g.ff λi w h J p K q E C D b f j c A y x=>?_⟩
 .obtain⟨v,b,a⟩:=r.vals i d e
  exact⟨v,b,a.mono g.ff⟩
 .obtain⟨p,o,b,f,j,c,a⟩:=r.ows i s e h
  obtain⟨l,k⟩:=g.kl a.ntup j c
  exact⟨p,o,b,f,l,k,a.mono g.ff⟩
 .obtain⟨I,o,m,B,u,G,a⟩:=r.ows i _ b rfl
  rw[f]at m
  cases m
  obtain⟨l,k⟩:=g.kl (λ_ z=>by cases z) u j
  obtain⟨t,n⟩:=g.kl (λ_ z=>by cases z) A y
  exact⟨k,c,t,n,x⟩
def Rl.visF (r:Rl Fb Hb F H ρ σ):VAt F (visF ρ) σ:=λi d e=>by
 unfold Dl.visF at e
 rw[j7]at e
 cases h:ρ[i]? with
 | none=>rw[h]at e;cases e
 | some x =>
  rw[h]at e
  cases x with
  | no=>cases e
  | v c =>
   cases e
   exact r.vals i d h
  | o ds=>cases e
  | m t a ds=>cases e
  | k w d b=>cases e
def Own (ρ:SE)(σ:St)(H:Hp)(p:Addr):Prop:=∃ (i:Nat) (s:Sl) (r:Addr),ρ[i]?=some s/\s.isO=true/\σ[i]?=some (some (.ref r))/\(p=r\/(s.isK=true/\∃ c a b,H r=some (.ins KK.dk c (V8 a b p))))
open Classical in
noncomputable def gOf (ρ:SE)(σ:St)(F H:Hp):Hp:=λp=>if Own ρ σ H p then H p else F p
open Classical in
noncomputable def fOf (ρ:SE)(σ:St)(H G:Hp):Hp:=λp=>if Own ρ σ H p then none else G p
def Rl.own (r:Rl Fb Hb F H ρ σ)(h:Own ρ σ H p):Hb p=none/\F p=none/\∃ o,H p=some o/\∀ f,o≠.tup f:=by
 obtain⟨i,s,E,e,m,j,b⟩:=h
 rcases b with b | ⟨A,L,J,G,b⟩
 .subst b
  obtain⟨q,o,c,C,B,t,a⟩:=r.ows i s e m
  rw[j]at c
  cases c
  exact⟨C,B,o,t,a.ntup⟩
 .obtain⟨w,d,y,rfl⟩:=Sl.isK_eq A
  obtain⟨K,x,q,D,u,f,g,k,n,v,l,I,_⟩:=r.dk i w d y e
  rw[j]at g
  cases g
  rw[b]at k
  cases ziE k
  exact⟨n,v,_,l,λ_ z=>by cases z⟩
def zjY (ρ:SE)(σ:St)(H:Hp)(q:Addr):Prop:=(∀ (j:Nat) (s:Sl),ρ[j]?=some s->s.isO=true->σ[j]?≠some (some (.ref q)))/\∀ (j:Nat) (w h:D) (b:Pst) (p c:Addr) (a d:V),ρ[j]?=some (.k w h b)->σ[j]?=some (some (.ref p))->H p≠some (.ins KK.dk c (V8 a d q))
def Rl.notown (r:Rl Fb Hb F H ρ σ)(g:Gr F H F' H')(h:H q=none):zjY ρ σ H' q:=by
 refine⟨λj s a c e=>?_,λj w d m p U P J a c e=>?_⟩
 .obtain⟨p,o,b,_,_,f,_⟩:=r.ows j s a c
  rw[e]at b
  cases b
  rw[h]at f
  cases f
 .obtain⟨T,y,G,C,u,N,b,V,M,f,I,O,_⟩:=(r.grow g).dk j w d m a
  obtain⟨S,A,D,t,B,x,n,g2,K,E,i,Q,_⟩:=r.dk j w d m a
  rw[c]at b n
  cases b
  cases n
  obtain⟨L,o,k,_,v,R,_⟩:=r.ows j _ a rfl
  rw[c]at k
  cases k
  have l:=(g.kl (λ_ z=>by cases z) v g2).2
  rw[e]at l
  cases ziE l
  rw[h]at i
  cases i
def Rl.notbase (r:Rl Fb Hb F H ρ σ)(h:H q=none):Hb q=none:=by
 cases z:Hb q with
 | none=>rfl
 | some o =>
  cases a:Fb q with
  | none=>rw[(r.gr.kp q o a z).2]at h;cases h
  | some u=>rw[r.gr.fh _ _ (r.gr.ff _ _ a)]at h;cases h
def Rl.fg (r:Rl Fb Hb F H ρ σ):yt F (gOf ρ σ F H):=λp o e=>by
 unfold gOf
 split
 .exact r.gr.fh p o e
 .exact e
def Rl.gh (r:Rl Fb Hb F H ρ σ):yt (gOf ρ σ F H) H:=λp o e=>by
 unfold gOf at e
 split at e
 .exact e
 .exact r.gr.fh p o e
def Rl.visG (r:Rl Fb Hb F H ρ σ):VAt (gOf ρ σ F H) (visG ρ) σ:=λi d e=>by
 unfold Dl.visG at e
 rw[j7]at e
 cases h:ρ[i]? with
 | none=>rw[h]at e;cases e
 | some x =>
  rw[h]at e
  have e:x.g=some d:=o6 e
  have own:x.isO=true->∃ v,σ[i]?=some (some v)/\At (gOf ρ σ F H) d v:=λf=>by
   obtain⟨p,o,b,M,P,c,a⟩:=r.ows i x h f
   cases j:x.isK with
   | false =>
    refine⟨_,b,a.at e ?_ r.fg j⟩
    unfold gOf
    rw[j0 ⟨i,x,p,h,f,b,.inl rfl⟩]
    exact c
   | true =>
    obtain⟨w,y,s,rfl⟩:=Sl.isK_eq j
    cases e
    obtain⟨Q,u,q,l,g,C,n,z,N,O,A,D,_⟩:=r.dk i w y s h
    rw[b]at n
    cases n
    obtain⟨G,B,J,L,I,E,K⟩:=a
    rw[c]at z
    cases z
    cases I
    refine⟨_,b,?_⟩
    unfold At
    refine⟨p,u,q,l,g,C,rfl,?_,?_,E.mono r.fg,K.mono r.fg,D.mono r.fg⟩
    .unfold gOf
     rw[j0 ⟨i,_,p,h,rfl,b,.inl rfl⟩]
     exact c
    .unfold gOf
     rw[j0 ⟨i,_,p,h,rfl,b,.inr ⟨rfl,u,l,g,c⟩⟩]
     exact A
  cases x with
  | no=>cases e
  | v S =>
   cases e
   obtain⟨v,b,a⟩:=r.vals i d h
   exact⟨v,b,a.mono r.fg⟩
  | o ds=>exact own rfl
  | m t R ds=>exact own rfl
  | k w d s=>exact own rfl
def Rl.back {G':Hp}(r:Rl Fb Hb F H ρ σ)(g:Gr (gOf ρ σ F H) H G' H'):Gr F H (fOf ρ σ H G') H'/\∀ q b,G' q=some (.tup b)->fOf ρ σ H G' q=some (.tup b):=by
 refine⟨⟨λp o e=>?_,λp o e=>?_,λp o c a=>?_⟩,λq b e=>?_⟩
 .unfold fOf
  rw[j6 (λh=>by rw[(r.own h).2.1]at e;cases e)]
  exact g.ff p o (r.fg p o e)
 .unfold fOf at e
  split at e
  .cases e
  .exact g.fh p o e
 .by_cases h:Own ρ σ H p
  .refine⟨.inl (by unfold fOf;rw[j0 h]),g.fh p o (g.ff p o ?_)⟩
   unfold gOf
   rw[j0 h]
   exact a
  .obtain⟨x,y⟩:=g.kp p o (by unfold gOf;rw[j6 h];exact c) a
   refine⟨?_,y⟩
   unfold Hid fOf
   rw[j6 h]
   exact x
 .unfold fOf
  rw[j6 (λh=>?_)]
  .exact e
  .obtain⟨_,_,o,a,n⟩:=r.own h
   have:G' q=some o:=g.ff q _ (by unfold gOf;rw[j0 h];exact a)
   rw[this]at e
   cases e
   exact n b rfl
def Rl.out (r:Rl Fb Hb F H ρ σ)(g:Gr (gOf ρ σ F H) H G' H'):Gr Fb Hb G' H':=by
 refine⟨λp o e=>g.ff p o (r.fg p o (r.gr.ff p o e)),g.fh,λp o d b=>?_⟩
 obtain⟨a,f⟩:=r.gr.kp p o d b
 have c:gOf ρ σ F H p=F p:=by
  unfold gOf
  rw[j6 (λh=>by rw[(r.own h).1]at b;cases b)]
 rcases a with a | ⟨a,i⟩
 .exact g.kp p o (by rw[c];exact a) f
 .have:=g.ff p o (by rw[c];exact i)
  exact⟨.inr ⟨a,this⟩,g.fh _ _ this⟩
def Rl.set (r:Rl Fb Hb F H ρ σ)(a:At F d v):Rl Fb Hb F H (ρ.set i (.v d)) (σ.set i (some v)):=by
 have g:∀ {j:Nat} {s:Sl},(ρ.set i (.v d))[j]?=some s->s.isO=true->i≠j:=λ{j s} h f e=>by
  subst e
  rw[u0F]at h
  simp only[u1Q]at h
  split at h <;> cases h
  cases f
 have G:∀ {j:Nat} {w h:D} {m:Pst},(ρ.set i (.v d))[j]?=some (.k w h m)->i≠j:=λh=>g h rfl
 refine⟨r.gr,λj e h=>?_,λj s h f=>?_,λj k p s t c l n o u x=>?_,by simp[r.len],r.dk.step (λj w h m e=>?_) (yt.refl _) λj w h m p P q O K N L M A y E C z=>⟨A,y,E,C,λk s c f=>?_⟩⟩
 .by_cases b:i=j
  .subst b
   rw[u0F]at h
   simp only[u1Q]at h
   split at h
   .rename_i I
    cases h
    refine⟨v,?_,a⟩
    rw[u0F]
    simp[<-r.len,I]
   .cases h
  .rw[t3 b]at h ⊢
   exact r.vals j e h
 .have b:=g h f
  rw[t3 b]at h ⊢
  exact r.ows j s h f
 .have B:=g c n
  have J:=g l o
  rw[t3 B]at c u
  rw[t3 J]at l x
  exact r.dis j k p s t c l n o u x
 .have b:=G e
  rw[t3 b]at e ⊢
  exact⟨e,rfl⟩
 .have b:=g c f
  rw[t3 b]at c ⊢
  exact z k s c f
def Rl.setW (r:Rl Fb Hb F H ρ σ){w:Sl}(h0:Hb p=none)(M:F p=none)(O:H p=some o)(a:zbO F o w)(B:zjY ρ σ H p)(I:w.isK=false:=by rfl):Rl Fb Hb F H (ρ.set i w) (σ.set i (some (.ref p))):=by
 have b:∀ {s:Sl},(ρ.set i w)[i]?=some s->i<ρ.length/\s=w:=λ{s} h=>by
  rw[u0F]at h
  simp only[u1Q]at h
  split at h
  .rename_i g
   cases h
   exact⟨g,rfl⟩
  .cases h
 have c:i<ρ.length->(σ.set i (some (V.ref p)))[i]?=some (some (.ref p)):=λg=>by
  rw[u0F]
  simp[<-r.len,g]
 have U:∀ {j:Nat} {x h:D} {v:Pst},(ρ.set i w)[j]?=some (.k x h v)->i≠j:=λ{j x h v} e z=>by
  subst z
  have y:=(b e).2
  rw[<-y]at I
  cases I
 refine⟨r.gr,λj e h=>?_,λj s h A=>?_,λj k q s t f u C E m n=>?_,by simp[r.len],r.dk.step (λj x h v e=>?_) (yt.refl _) λj x h v Q R q P J W L y G K T S N=>⟨G,K,T,S,λk s f A=>?_⟩⟩
 .by_cases d:i=j
  .subst d
   have e:=(b h).2
   have:=a.isO
   rw[<-e]at this
   cases this
  .rw[t3 d]at h ⊢
   exact r.vals j e h
 .by_cases d:i=j
  .subst d
   obtain⟨g,e⟩:=b h
   subst e
   exact⟨p,o,c g,h0,M,O,a⟩
  .rw[t3 d]at h ⊢
   exact r.ows j s h A
 .by_cases d:i=j
  .subst d
   by_cases l:i=k
   .exact l
   .obtain⟨g,_⟩:=b f
    rw[c g]at m
    cases m
    rw[t3 l]at u n
    exact absurd n (B.1 k t u E)
  .by_cases l:i=k
   .subst l
    obtain⟨g,_⟩:=b u
    rw[c g]at n
    cases n
    rw[t3 d]at f m
    exact absurd m (B.1 j s f C)
   .rw[t3 d]at f m
    rw[t3 l]at u n
    exact r.dis j k q s t f u C E m n
 .have d:=U e
  rw[t3 d]at e ⊢
  exact⟨e,rfl⟩
 .by_cases l:i=k
  .subst l
   rw[c (b f).1]
   intro z
   cases z
   exact B.2 j x h v Q R P J L y G
  .rw[t3 l]at f ⊢
   exact N k s f A
def Rl.setO (r:Rl Fb Hb F H ρ σ)(h0:Hb p=none)(e:F p=none)(d:H p=some (.lst b))(a:AtL F c b)(f:zjY ρ σ H p):Rl Fb Hb F H (ρ.set i (.o c)) (σ.set i (some (.ref p))):=r.setW h0 e d ⟨b,rfl,a⟩ f
def Rl.mutW (r:Rl Fb Hb F H ρ σ){i:Nat}{w v:Sl}(e:ρ[i]?=some w)(hw:w.isO=true)(y:σ[i]?=some (some (.ref p)))(a:zbO F G v)(W:w.isK=false:=by rfl)(L:v.isK=false:=by rfl):Rl Fb Hb F (upd H p G) (ρ.set i v) σ:=by
 obtain⟨q,o,P,h0,O,hH,_⟩:=r.ows i w e hw
 rw[y]at P
 cases P
 have C:i<ρ.length:=(q4.mp e).1
 have u:∀ {j:Nat} {s:Sl} {q:Addr},i≠j->ρ[j]?=some s->s.isO=true->σ[j]?=some (some (.ref q))->q≠p:=λ{j s q} hne m g J z=>by
  subst z
  exact hne (r.dis i j q w s e m hw g y J)
 refine⟨⟨r.gr.ff,λb o z=>?_,λb o Z N=>?_⟩,λj d h=>?_,λj s h g=>?_,λj k q s t m J T U V X=>?_,by simp[r.len],r.dk.step (λj x h Y A=>?_) (yt.refl _) λj x h Y p' dx q vw vh xs f n D E B S K=>⟨?_,E,B,?_,λk s m g=>?_⟩⟩
 .rw[zn (zj z O)]
  exact r.gr.fh b o z
 .rw[zn (zj N h0)]
  exact r.gr.kp b o Z N
 .by_cases c:i=j
  .subst c
   rw[r6 C]at h
   cases h
   exact(Bool.noConfusion a.isO)
  .rw[t3 c]at h
   exact r.vals j d h
 .by_cases c:i=j
  .subst c
   rw[r6 C]at h
   cases h
   exact⟨p,G,y,h0,O,zx,a⟩
  .rw[t3 c]at h
   obtain⟨q,z,f,n,D,E,B⟩:=r.ows j s h g
   refine⟨q,z,f,n,D,?_,B⟩
   rw[zn (u c h g f)]
   exact E
 .have l:∀ {j:Nat} {s:Sl},(ρ.set i v)[j]?=some s->s.isO=true->∃ R,ρ[j]?=some R/\R.isO=true:=λ{j s} h g=>by
   by_cases c:i=j
   .subst c;exact⟨w,e,hw⟩
   .rw[t3 c]at h;exact⟨s,h,g⟩
  obtain⟨f,g1,I⟩:=l m T
  obtain⟨n,g2,M⟩:=l J U
  exact r.dis j k q f n g1 g2 I M V X
 .by_cases c:i=j
  .subst c
   rw[r6 C]at A
   cases A
   cases L
  .rw[t3 c]at A
   exact⟨A,rfl⟩
 .have c:i≠j:=λz=>by
   subst z
   rw[e]at f
   cases f
   cases W
  rw[zn (u c f rfl n)]
  exact D
 .rw[zn (λz=>K i w e hw (by rw[z];exact y))]
  exact S
 .by_cases Q:i=k
  .subst Q
   exact K i w e hw
  .rw[t3 Q]at m
   exact K k s m g
def Rl.mutate (r:Rl Fb Hb F H ρ σ){i:Nat}{f:zo}(e:ρ[i]?=some (.o f))(d:σ[i]?=some (some (.ref p)))(a:AtL F c b):Rl Fb Hb F (upd H p (.lst b)) (ρ.set i (.o c)) σ :=
 r.mutW e rfl d ⟨b,rfl,a⟩
def Sl.fz:Sl->Sl
 | .o b=>.v (.lst b)
 | .m t a c=>.v (.dct false t a c)
 | .k _ _ _=>.no
 | s=>s
def zjw (ρ:SE)(i:Nat):SE:=ρ.set i ((ρ[i]?).getD .no).fz
def Rl.freeze (r:Rl Fb Hb F H ρ σ)(i:Nat):∃ F',Rl Fb Hb F' H (zjw ρ i) σ:=by
 unfold zjw
 cases h:ρ[i]? with
 | none =>
  refine⟨F,?_⟩
  rw[List.set_eq_of_length_le (List.getElem?_eq_none_iff.mp h)]
  exact r
 | some s =>
  have N:i<ρ.length:=(q4.mp h).1
  have same:s.fz=s->∃ F',Rl Fb Hb F' H (ρ.set i ((some s).getD .no).fz) σ:=λe=>by
   refine⟨F,?_⟩
   show Rl Fb Hb F H (ρ.set i s.fz) σ
   rw[e]
   have:ρ.set i s=ρ:=by
    apply List.ext_getElem?
    intro j
    by_cases n:i=j
    .subst n;rw[r6 N,h]
    .rw[t3 n]
   rw[this]
   exact r
  have A:∀ d,s.isO=true->s.isK=false->s.g=some d->s.fz=.v d->∃ F',Rl Fb Hb F' H (ρ.set i ((some s).getD .no).fz) σ:=λd V R hg hz=>by
   obtain⟨p,o,S,e2,Y,e4,a⟩:=r.ows i s h V
   have O:yt F (upd F p o):=λb u e=>by rw[zn (zj e Y)];exact e
   show ∃ F',Rl Fb Hb F' H (ρ.set i s.fz) σ
   rw[hz]
   have g:∀ {j:Nat} {t:Sl},(ρ.set i (.v d))[j]?=some t->t.isO=true->i≠j:=λ{j t} h c e=>by
    subst e
    rw[r6 N]at h
    cases h
    cases c
   refine⟨upd F p o,r.gr.show e2 Y e4,λj e z=>?_,λj t z c=>?_,λj k q t u f B J K U W=>?_,by simp[r.len],r.dk.step (λj x X P C=>?_) O λj x X P p' dx q vw Z xs D G I L E T Q=>⟨I,L,?_,T,λk t f c=>?_⟩⟩
   .by_cases n:i=j
    .subst n
     rw[r6 N]at z
     cases z
     exact⟨_,S,a.at hg zx O R⟩
    .rw[t3 n]at z
     obtain⟨v,D,G⟩:=r.vals j e z
     exact⟨v,D,G.mono O⟩
   .have n:=g z c
    rw[t3 n]at z
    obtain⟨q,y,D,G,I,L,E⟩:=r.ows j t z c
    refine⟨q,y,D,G,?_,L,E.mono O⟩
    rw[zn (λw=>n (r.dis i j p s t h z V c S (by rw[<-w];exact D)))]
    exact I
   .have a1:=g f J
    have a2:=g B K
    rw[t3 a1]at f
    rw[t3 a2]at B
    exact r.dis j k q t u f B J K U W
   .have n:=g C rfl
    rw[t3 n]at C
    exact⟨C,rfl⟩
   .rw[zn (λz=>Q i s h V (by rw[z];exact S))]
    exact E
   .have n:=g f c
    rw[t3 n]at f
    exact Q k t f c
  cases s with
  | no=>exact same rfl
  | v d=>exact same rfl
  | o ds=>exact A _ rfl rfl rfl rfl
  | m t ks ds=>exact A _ rfl rfl rfl rfl
  | k w d P =>
   refine⟨F,?_⟩
   have g:∀ {j:Nat} {t:Sl},(ρ.set i Sl.no)[j]?=some t->t≠.no->i≠j:=λ{j t} h c e=>by
    subst e
    rw[r6 N]at h
    cases h
    exact c rfl
   have M:∀ {t:Sl},t.isO=true->t≠.no:=λ{t} h e=>by subst e;cases h
   refine⟨r.gr,λj e z=>?_,λj t z c=>?_,λj l q t u f B J K U W=>?_,by simp[r.len,Sl.fz],r.dk.step (λj x X P C=>?_) (yt.refl _) λj x X P p' dx q vw Z xs D G I L E T Q=>⟨I,L,E,T,λl t f c=>?_⟩⟩
   .rw[t3 (g z (λz=>by cases z))]at z
    exact r.vals j e z
   .rw[t3 (g z (M c))]at z
    exact r.ows j t z c
   .rw[t3 (g f (M J))]at f
    rw[t3 (g B (M K))]at B
    exact r.dis j l q t u f B J K U W
   .rw[t3 (g C (λz=>by cases z))]at C
    exact⟨C,rfl⟩
   .rw[t3 (g f (M c))]at f
    exact Q l t f c
end
inductive Ctl where
 | nx (ρ:SE) | rt (d:D) | bk (ρ:SE) | ct (ρ:SE) | no
 deriving Inhabited
abbrev zU:=SE->Ctl
def SOk (Fb Hb:Hp)(E:WO):Ctl->Prop
 | .nx ρ=>∀ F H σ,Rl Fb Hb F H ρ σ->E.nx σ H
 | .bk ρ=>∀ F H σ,Rl Fb Hb F H ρ σ->E.bk σ H
 | .ct ρ=>∀ F H σ,Rl Fb Hb F H ρ σ->E.ct σ H
 | .rt d=>∀ F H v,Gr Fb Hb F H->At F d v->E.rt v H
 | .no=>False
def RS (t:TS)(g:zU):Prop:=∀ (Fb Hb F H:Hp) (ρ:SE) (σ:St) (E:WO),Rl Fb Hb F H ρ σ->SOk Fb Hb E (g ρ)->t E σ H
def SD (X:Cx)(a:Stmt)(g:zU):Prop:=∃ t,PS X a t/\RS t g
def SDs (X:Cx)(a:v3)(g:zU):Prop:=∃ t,PSs X a t/\RS t g
section
variable {X:Cx}{st:Stmt}{sts:v3}{a b c e:Expr}{pos pos':Pos}
def zG:zU:=.nx
noncomputable def zS (g h:zU):zU:=fun ρ=>match g ρ with
 | .nx ρ'=>h ρ'
 | .rt d=>.rt d
 | .bk ρ'=>.bk ρ'
 | .ct ρ'=>.ct ρ'
 | .no=>.no
def yw:SDs X [] zG:=⟨_,zaq,λ_ _ F H ρ σ E r h=>h F H σ r⟩
def zk {g:zU}(b:SD X st g)(f:SDs X sts h):SDs X (st::sts) (zS g h):=by
 obtain⟨t,p,r⟩:=b
 obtain⟨u,i,m⟩:=f
 refine⟨_,wr p i,λFb Hb F H ρ σ E l k=>?_⟩
 refine r Fb Hb F H ρ σ { E with nx:=u E } l ?_
 unfold zS at k
 cases e:g ρ with
 | nx c =>
  rw[e]at k
  exact λF' H' j a=>m Fb Hb F' H' c j E a k
 | rt d=>rw[e]at k;exact k
 | bk d=>rw[e]at k;exact k
 | ct d=>rw[e]at k;exact k
 | no=>rw[e]at k;exact k
def zl {g:zU}(a:SD X st g):SDs X [st] g:=let ⟨_,p,r⟩:=a;⟨_,Yz p,r⟩
def sFz (i:Nat)(g:zU):zU:=fun ρ=>g (zjw ρ i)
def W9 {g:zU}(i:Nat)(h:SDs X sts g):SDs X sts (sFz i g):=by
 obtain⟨t,p,r⟩:=h
 refine⟨_,p,λFb Hb F H ρ σ E b k=>?_⟩
 obtain⟨F',a⟩:=b.freeze i
 exact r Fb Hb F' H _ σ E a k
def sNo:zU:=λ_=>.no
def y9:SD X st sNo:=⟨_,zaP,λ_ _ _ _ _ _ _ _ h=>h.elim⟩
noncomputable def yI (f:ya):zU:=fun ρ=>match f (visG ρ) with
 | some d=>.rt d
 | none=>.no
def yB {f:ya}(h:ED X e f):SD X (.Return (some e) pos) (yI f):=by
 obtain⟨t,p,r⟩:=h
 refine⟨_,Va p,λFb Hb F H ρ σ E a k=>?_⟩
 unfold yI at k
 cases h:f (visG ρ) with
 | none=>rw[h]at k;exact k.elim
 | some d =>
  rw[h]at k
  exact r σ _ _ H d _ a.gh a.visG h λF' H' v g b=>k F' H' v (a.out g) b
def wq:zU:=λ_=>.rt .non
def vEv (m:Bool)(f:ya)(ρ:SE):Option D:=if m=true then (f (visG ρ)).bind λd=>if noL d=true then some d else none else f (visF ρ)
def RE.at {f:ya}{t:TE}{Q:VK}(r:RE t f)(a:Rl Fb Hb F H ρ σ)(h:vEv m f ρ=some d)(q:∀ F' H' v,Gr F H F' H'->At F' d v->Q v H'):t σ H Q:=by
 unfold vEv at h
 cases m with
 | false =>
  rw[j6 u9]at h
  exact r σ _ _ H d _ a.gr.fh a.visF h q
 | true =>
  rw[j0 rfl]at h
  obtain⟨k,e,b⟩:=u4.mp h
  split at b <;> cases b
  rename_i c
  refine r σ _ _ H d _ a.gh a.visG e λF' H' v g i=>?_
  obtain⟨g2,j⟩:=a.back g
  exact q _ H' v g2 (i.flat j c)
def yf (m:Bool)(i:Nat)(f:ya):zU:=fun ρ=>match vEv m f ρ with
 | some d=>.nx (ρ.set i (.v d))
 | none=>.no
def yn {i:Nat}{f:ya}(n:X.N.Nodup)(c:X.N[i]?=some x)(b:Loc X.env.scope x)(j:ED X e f)(l:swapsWith e (some (.Name x pos')) pos.line X.env=pure false:=by rfl)(q:X.fn x=true\/X.env.scope.names.lookup x=some .local:=by first | exact .inl rfl | exact .inr rfl | assumption):SD X (.Assign [.Name x pos'] e pos) (yf m i f):=by
 obtain⟨t,p,r⟩:=j
 refine⟨_,Xe n c b p l q,λFb Hb F H ρ σ E a k=>?_⟩
 unfold yf at k
 cases h:vEv m f ρ with
 | none=>rw[h]at k;exact k.elim
 | some d =>
  rw[h]at k
  exact r.at a h λF' H' v g o=>k F' H' _ ((a.grow g).set o)
noncomputable def ZW (f:ya):zU:=fun ρ=>match f (visG ρ) with
 | some _=>.nx ρ
 | none=>.no
def Yj (i:Nat)(f:yT):zU:=fun ρ=>match f (visF ρ) with
 | some ds=>.nx (ρ.set i (.o ds))
 | none=>.no
def za4 {i:Nat}{f:yT}(s:X.N.Nodup)(j:X.N[i]?=some x)(c:Loc X.env.scope x)(m:FL X e f)(n:swapsWith e (some (.Name x pos')) pos.line X.env=pure false:=by rfl)(u:X.fn x=true\/X.env.scope.names.lookup x=some .local:=by first | exact .inl rfl | exact .inr rfl | assumption):SD X (.Assign [.Name x pos'] e pos) (Yj i f):=by
 obtain⟨t,p,r⟩:=m
 refine⟨_,Xe s j c p n u,λFb Hb F H ρ σ E a k=>?_⟩
 unfold Yj at k
 cases h:f (visF ρ) with
 | none=>rw[h]at k;exact k.elim
 | some d =>
  rw[h]at k
  refine r σ _ _ H d _ a.gr.fh a.visF h λF' H' q v g h0 l o c=>?_
  have b:=a.grow g
  exact k F' H' _ (b.setO (a.notbase h0) l o c (a.notown g h0))
noncomputable def sIf (t:vO)(g h:zU):zU:=fun ρ=>match t (visG ρ) with
 | some true=>g ρ
 | some false=>h ρ
 | none=>.no
def xt {e f:v3}{g:zU}(l:TD X c t)(j:SDs X e g)(n:SDs X f h):SD X (.If c e f pos) (sIf t g h):=by
 obtain⟨v,p,o⟩:=l
 obtain⟨s,m,i⟩:=j
 obtain⟨u,r,q⟩:=n
 refine⟨_,zeM p m r,λFb Hb F H ρ σ E b k=>?_⟩
 unfold sIf at k
 cases h:t (visG ρ) with
 | none=>rw[h]at k;exact k.elim
 | some d =>
  rw[h]at k
  refine o σ _ _ H d _ b.gh b.visG h λF' H' g=>?_
  have a:=b.grow (b.back g).1
  cases d with
  | true=>rw[j0 rfl];exact i Fb Hb _ H' ρ σ E a k
  | false=>rw[j6 u9];exact q Fb Hb _ H' ρ σ E a k
def RG (t:TG)(b:vM):Prop:=∀ (Fb Hb F H:Hp) (ρ c:SE) (σ:St) (d:D) (v:V) (Q:w6),Rl Fb Hb F H ρ σ->At F d v->b d ρ=some c->(∀ a,Rl Fb Hb F H c a->Q a H)->t v σ H Q
def RGs (t:TGs)(b:zo->SE->Option SE):Prop:=∀ (Fb Hb F H:Hp) (ρ c:SE) (σ:St) (d:zo) (e:zz) (Q:w6),Rl Fb Hb F H ρ σ->AtL F d e->b d ρ=some c->(∀ a,Rl Fb Hb F H c a->Q a H)->t e σ H Q
def BD (X:Cx)(a:Expr)(b:vM):Prop:=∃ t,PG X a t/\RG t b
def BDs (X:Cx)(a:yK)(b:zo->SE->Option SE):Prop:=∃ t,PGs X a t/\RGs t b
def yp (i:Nat):vM:=λd ρ=>some (ρ.set i (.v d))
def xG (h:PG X a (vN i)):BD X a (yp i):=by
 refine⟨_,h,λFb Hb F H ρ f σ d v Q b c e q=>?_⟩
 cases e
 exact q _ (b.set c)
def Ya:zo->SE->Option SE
 | [],ρ=>some ρ
 | _,_=>none
def yG (b:vM)(c:zo->SE->Option SE):zo->SE->Option SE
 | d::ds,ρ=>(b d ρ).bind (c ds)
 | [],_=>none
def Zg:BDs X [] Ya:=by
 refine⟨_,zcI,λFb Hb F H ρ d σ c f Q a b e q=>?_⟩
 cases c with
 | nil=>cases e;exact⟨b.nil_inv,q _ a⟩
 | cons _ _=>cases e
def xH {a:yK}{b:vM}{c:zo->SE->Option SE}(o:BD X e b)(w:BDs X a c)
 (s:(assignEach (e::a) X.env).map (·.2)=assign e X.env::(assignEach a X.env).map (·.2):=by rfl):BDs X (e::a) (yG b c):=by
 obtain⟨t,p,r⟩:=o
 obtain⟨u,z,n⟩:=w
 refine⟨_,X4 p z s,λFb Hb F H ρ j σ f C Q A v e q=>?_⟩
 cases f with
 | nil=>cases e
 | cons d f =>
  obtain⟨x,i,rfl,y,B⟩:=v.cons_inv
  obtain⟨h,k,m⟩:=u4.mp e
  exact⟨x,i,rfl,r Fb Hb F H ρ h σ d x _ A y k λl g=>n Fb Hb F H h j l f i Q g B m q⟩
def v6 (n:Nat)(c:zo->SE->Option SE):vM
 | .tup ds,ρ=>if ds.length=n then c ds ρ else none
 | _,_=>none
def XU {b:yK}{n:Nat}{c:zo->SE->Option SE}(u:X.calm=true)(h:BDs X b c)(s:(assignEach b X.env).length=n:=by rfl)(f:(assignEach b X.env).findIdx? (·.1)=none:=by rfl):BD X (.Tuple b k pos) (v6 n c):=by
 obtain⟨t,p,r⟩:=h
 refine⟨_,zfO u p s f,λFb Hb F H ρ l σ d v Q j w e q=>?_⟩
 cases d with
 | tup o =>
  unfold v6 at e
  dsimp only at e
  split at e
  .rename_i x
   obtain⟨a,g,rfl,m,i⟩:=w.tup_inv
   exact⟨a,g,rfl,SqT.of (j.gr.fh _ _ m),by rw[i.length];exact x,r Fb Hb F H ρ l σ o g Q j i e q⟩
  .cases e
 | _=>cases e
def ZT (m:Bool)(f:ya)(b:vM):zU:=fun ρ=>match (vEv m f ρ).bind λd=>b d ρ with
 | some ρ'=>.nx ρ'
 | none=>.no
def ZY (m:Bool)(i:Nat)(a b:ya):zU:=fun ρ=>match (vEv m b ρ).bind λd=>(a (visG ρ)).bind λk=>match ρ[i]?,k with
 | some (.o ds),.int k=>(ixN ds.length k).map λj=>ρ.set i (.o (ds.set j d))
 | _,_=>none with
 | some ρ'=>.nx ρ'
 | none=>.no
end
end Dl
namespace L2
open PySem PySem.Spec PyProof.Rows
section
variable {X:Cx}{tg:Expr}
def iSeq (K:zu)(c:TE):TI:=fun σ H R=>c σ H λx H1=>(∃ a,x=.ref a/\(∃ b,SqL K H1 a b)/\R (Itl K a) H1)\/(∃ a,x=.ref a/\(∃ b,SqT K H1 a b)/\R (Itt K a) H1)
def zin (u:PE X l k):PI X tg l (iSeq X.K k):=by
 intro d s σ H R I h
 refine thn (u d s σ H _ I h) λv c hh9=>?_
 obtain⟨x,H1,I1,j,n⟩:=hh9
 rcases n with ⟨a,e,⟨t,i⟩,q⟩ | ⟨a,e,⟨t,i⟩,q⟩
 .subst e
  cases j
  obtain⟨f,r,p,m⟩:=I1.list i
  refine p8 p.isList ?_
  refine⟨c.heap.objs.size,[c.heap.objs.size],_,_,H1,rfl,I1.kept (t':=c.toks) λb o e=>u6 _ e,zcS a _,⟨_,j4 _ rfl,rfl,rfl⟩,λb g=>?_,q⟩
  have e:b=c.heap.objs.size:=by simpa using g
  subst e
  exact I1.fpOk (t7 _) (I1.hok.fresh (t7 _))
 .subst e
  cases j
  obtain⟨f,r,p,m⟩:=I1.tuple i
  refine p5 (show c.heap.IsTuple a f.toArray from p) ?_
  refine⟨c.heap.objs.size,[c.heap.objs.size],_,_,H1,rfl,I1.kept (t':=c.toks) λb o e=>u6 _ e,zbD a _,⟨_,j4 _ rfl,rfl,rfl⟩,λb g=>?_,q⟩
  have e:b=c.heap.objs.size:=by simpa using g
  subst e
  exact I1.fpOk (t7 _) (I1.hok.fresh (t7 _))
end
end L2
namespace Dl
open PySem L2
variable [KK]
def zhN (J:It)(F:Hp)(a:zo):Prop:=∀ (i:Nat) (F2 H2:Hp),yt F F2->yt F2 H2->(i=a.length->J.stop i H2) /\
 ∀ d,a[i]?=some d->J.go i H2/\∀ x H3,J.yld i H2 x H3->∃ F3,Gr F2 H2 F3 H3/\At F3 d x
def RI (b:TI)(f:yT):Prop :=
 ∀ (σ:St) (ρ:Ev) (F H:Hp) (a:zo) (R:It->Hp->Prop),yt F H->VAt F ρ σ->f ρ=some a->(∀ F' H' J,Gr F H F' H'->zhN J F' a->R J H')->b σ H R
def ID (X:Cx)(c a:Expr)(f:yT):Prop:=∃ b,PI X c a b/\RI b f
def yY:D->Option zo
 | .lst ds=>some ds
 | .tup ds=>some ds
 | _=>none
section
variable {X:Cx}{tg a b c e:Expr}{pos:Pos}
def zhY {F:Hp}{a:zz}(h:F p=some (.lst a))(c:AtL F j a):zhN (Itl K p) F j:=by
 intro i F2 H2 e f
 have q:SqL K H2 p a:=SqL.of (f _ _ (e _ _ h))
 refine⟨λl=>⟨a,q,by rw[c.length,l];exact t7 _⟩,λd k=>?_⟩
 obtain⟨x,g,m⟩:=c.get k
 refine⟨⟨a,x,q,g⟩,λy H3 b=>?_⟩
 obtain⟨rfl,b⟩:=b
 have:=b a q
 rw[g]at this
 cases this
 exact⟨F2,.refl f,m.mono e⟩
def ziu {F:Hp}{a:zz}(h:F p=some (.tup a))(c:AtL F j a):zhN (Itt K p) F j:=by
 intro i F2 H2 e f
 have q:SqT K H2 p a:=SqT.of (f _ _ (e _ _ h))
 refine⟨λl=>⟨a,q,by rw[c.length,l];exact t7 _⟩,λd k=>?_⟩
 obtain⟨x,g,m⟩:=c.get k
 refine⟨⟨a,x,q,g⟩,λy H3 b=>?_⟩
 obtain⟨rfl,b⟩:=b
 have:=b a q
 rw[g]at this
 cases this
 exact⟨F2,.refl f,m.mono e⟩
def iOf (f:ya):yT:=fun ρ=>(f ρ).bind yY
def XI {f:ya}(l:ED X a f):ID X tg a (iOf f):=by
 obtain⟨t,p,r⟩:=l
 refine⟨_,zin p,fun σ ρ F H n R s j e q=>?_⟩
 obtain⟨d,k,m⟩:=u4.mp e
 refine r σ ρ F H d _ s j k λF1 H1 v c i=>?_
 cases d <;> try cases m
 .obtain⟨p,h,rfl,b,g⟩:=i.tup_inv
  exact .inr ⟨p,rfl,⟨h,SqT.of (c.fh _ _ b)⟩,q F1 H1 _ c (ziu b g)⟩
 .obtain⟨p,h,rfl,b,g⟩:=i.lst_inv
  exact .inl ⟨p,rfl,⟨h,SqL.of (c.fh _ _ b)⟩,q F1 H1 _ c (zhY b g)⟩
def Xx (lo:Int)(n:Nat):zo:=(List.range n).map λk:Nat=>.int (lo+k)
def zfs (c:Int)(n:Nat):zhN (Itr c n) F (Xx c n):=by
 intro i F2 H2 j h
 have a:(Xx c n).length=n:=by unfold Xx;simp
 refine⟨λf=>by rw[a]at f;rw[f];exact t7 _,λd b=>?_⟩
 have e:i<n:=by
  have:=(q4.mp b).1
  omega
 refine⟨e,λy H3 g=>?_⟩
 obtain⟨rfl,rfl⟩:=g
 refine⟨F2,.refl h,?_⟩
 unfold Xx at b
 rw[j7,List.getElem?_range e]at b
 cases b
 exact .int
@[irreducible] def zfe (j:Int):Bool:=decide (-(2^62)<=j/\j<2^62)
omit [KK] in
def wo:zfe j=true↔-(2^62)<=j/\j<2^62:=by unfold zfe;exact decide_eq_true_iff
def Yf:zgO
 | [.int j]=>if zfe j=true then some (Xx 0 j.toNat)else none
 | _=>none
def Yn:zgO
 | [.int i,.int j]=>if zfe i=true/\zfe j=true then some (Xx i (j-i).toNat)else none
 | _=>none
def Zd (g:zgO)(f:yT):yT:=fun ρ=>(f ρ).bind g
def zdm {f:yT} (A:Gl X "range") (z:X.mg "range"=none) (l:AD X [a,b] f) (o:starEach [a,b] X.env=[(false,eval a X.env),(false,eval b X.env)]:=by rfl) (h:starEach [b] X.env=[(false,eval b X.env)]:=by rfl) :
 ID X tg (.Call (.Name "range" p) [a,b] [] pos) (Zd Yn f):=by
 obtain⟨t,n,r⟩:=l
 refine⟨_,zb4 A z n o h,fun σ ρ F H E R s u e q=>?_⟩
 obtain⟨d,k,c⟩:=u4.mp e
 refine r σ ρ F H d _ s u k λF1 H1 v B w=>?_
 unfold Yn at c
 split at c
 .split at c
  .cases c
   rename_i g
   obtain⟨x,j,rfl,C,i⟩:=w.cons_inv
   obtain⟨y,j,rfl,m,i⟩:=i.cons_inv
   cases i.nil_inv
   exact⟨_,_,by rw[C.int_inv,m.int_inv],⟨(wo.mp g.1).1,(wo.mp g.1).2,(wo.mp g.2).1,(wo.mp g.2).2⟩,q F1 H1 _ B (zfs _ _)⟩
  .cases c
 .cases c
def ws (n:Nat):zo->zo
 | []=>[]
 | d::ds=>.tup [.int n,d]::ws (n+1) ds
omit [KK] in
def w4 (a:zo):∀ (n i:Nat),(ws n a)[i]?=(a[i]?).map λd=>.tup [.int ((n+i:Nat):Int),d]:=by
 induction a with
 | nil=>intro n i;simp[ws]
 | cons d a b =>
  intro n i
  cases i with
  | zero=>simp[ws]
  | succ i =>
   show(ws (n+1) a)[i]?=(a[i]?).map _
   rw[b]
   have:n+1+i=n+(i+1):=by omega
   rw[this]
omit [KK] in
def xy (a:zo):∀ n,(ws n a).length=a.length:=by
 induction a with
 | nil=>intro n;rfl
 | cons d a b=>intro n;simp[ws,b]
def ye (f:yT):yT:=fun ρ=>(f ρ).bind λa=>match a with
 | [d]=>(yY d).map (ws 0)
 | _=>none
def zaf {tp:Pos} {f:yT} (U:Gl X "enumerate") (S:X.mg "enumerate"=none) (N:bootBuiltins "enumerate"=some (.type "enumerate")) (K:AD X [a] f) (M:starEach [a] X.env=[(false,eval a X.env)]:=by rfl):ID X (.Tuple G k tp) (.Call (.Name "enumerate" p) [a] [] pos) (ye f):=by
 obtain⟨t,L,r⟩:=K
 refine⟨_,zf3 U S N L M,fun σ ρ F H Z R s P e q=>?_⟩
 obtain⟨I,J,B⟩:=u4.mp e
 refine r σ ρ F H I _ s P J λF1 H1 v A Q=>?_
 split at B
 .obtain⟨x,Y,rfl,l,W⟩:=Q.cons_inv
  cases W.nil_inv
  obtain⟨G,O,rfl⟩:=t0.mp B
  rename_i d
  cases d <;> try cases O
  .obtain⟨p,c,rfl,n,w⟩:=l.tup_inv
   refine⟨p,rfl,.inr ⟨c,SqT.of (A.fh _ _ n),q F1 H1 _ A λi F2 H2 m z=>?_⟩⟩
   have j:SqT X.K H2 p c:=SqT.of (z _ _ (m _ _ n))
   refine⟨λE=>⟨c,j,by rw[w.length,E,xy];exact t7 _⟩,λd u=>?_⟩
   rw[w4]at u
   obtain⟨V,g,rfl⟩:=t0.mp u
   obtain⟨x,b,l⟩:=w.get g
   refine⟨⟨c,x,j,b⟩,λy H3 h=>?_⟩
   obtain⟨T,y,rfl,C,rfl,h⟩:=h
   have:=h c j
   rw[b]at this
   cases this
   have o:=Gr.alloc z C (.tup [.int i,x])
   exact⟨_,o,.tup zx (.cons (by rw[u0s];exact .int) (.cons (l.mono (m.trans o.ff)) .nil))⟩
  .obtain⟨p,c,rfl,n,w⟩:=l.lst_inv
   refine⟨p,rfl,.inl ⟨c,A.fh _ _ n,q F1 H1 _ A λi F2 H2 m z=>?_⟩⟩
   have j:SqL X.K H2 p c:=SqL.of (z _ _ (m _ _ n))
   refine⟨λE=>⟨c,j,by rw[w.length,E,xy];exact t7 _⟩,λd u=>?_⟩
   rw[w4]at u
   obtain⟨V,g,rfl⟩:=t0.mp u
   obtain⟨x,b,l⟩:=w.get g
   refine⟨⟨c,x,j,b⟩,λy H3 h=>?_⟩
   obtain⟨T,y,rfl,C,rfl,h⟩:=h
   have:=h c j
   rw[b]at this
   cases this
   have o:=Gr.alloc z C (.tup [.int i,x])
   exact⟨_,o,.tup zx (.cons (by rw[u0s];exact .int) (.cons (l.mono (m.trans o.ff)) .nil))⟩
 .cases B
def hb2 (F1 Hb:Hp):Hp:=λp=>match F1 p with
 | some o=>some o
 | none=>Hb p
def YM {F1 Hb:Hp}(h:F1 p=none):hb2 F1 Hb p=Hb p:=by unfold hb2;rw[h]
def zeX {F1:Hp}(h:F1 p=some o):hb2 F1 Hb p=some o:=by unfold hb2;rw[h]
def Gr.up (c:Gr Fb Hb F1 H1)(g:Gr F1 (hb2 F1 Hb) F H):Gr Fb Hb F H:=by
 refine⟨c.ff.trans g.ff,g.fh,λp o d b=>?_⟩
 rcases(c.kp p o d b).1 with n | ⟨e,a⟩
 .exact g.kp p o n (by rw[YM n];exact b)
 .exact⟨.inr ⟨e,g.ff _ _ a⟩,g.fh _ _ (g.ff _ _ a)⟩
def Gr.dn (g:Gr Fb Hb F H)(c:yt Fb F1)(s:yt F1 F):Gr F1 (hb2 F1 Hb) F H:=by
 refine⟨s,g.fh,λp o a b=>?_⟩
 rw[YM a]at b
 exact g.kp p o (c.free a) b
def Rl.up (m:Gr Fb Hb F1 H1)(r:Rl F1 (hb2 F1 Hb) F H ρ σ):Rl Fb Hb F H ρ σ:=by
 have c:∀ {p:Addr},hb2 F1 Hb p=none->Hb p=none:=λ{p} e=>by
  cases h:F1 p with
  | none=>rw[YM h]at e;exact e
  | some o=>rw[zeX h]at e;cases e
 refine⟨m.up r.gr,r.vals,λi s e j=>?_,r.dis,r.len,r.dk.step (λ_ _ _ _ e=>⟨e,rfl⟩) (yt.refl _) λi w h v p x q u n t b d a f l k g=>⟨a,c f,l,k,g⟩⟩
 obtain⟨p,o,b,d,a⟩:=r.ows i s e j
 exact⟨p,o,b,c d,a⟩
def Rl.dn (r:Rl Fb Hb F H ρ σ)(g:yt Fb F1)(s:yt F1 F):Rl F1 (hb2 F1 Hb) F H ρ σ:=by
 refine⟨r.gr.dn g s,r.vals,λi t e k=>?_,r.dis,r.len,r.dk.step (λ_ _ _ _ e=>⟨e,rfl⟩) (yt.refl _) λi w h v p x q u m n c d a b f l j=>⟨a,by rw[YM (s.free f)];exact b,f,l,j⟩⟩
 obtain⟨p,o,c,d,a,b⟩:=r.ows i t e k
 refine⟨p,o,c,?_,a,b⟩
 rw[YM (s.free a)]
 exact d
def WP (b:vM)(g:zU):zo->SE->Ctl
 | [],ρ=>.nx ρ
 | d::ds,ρ=>match b d ρ with
  | none=>.no
  | some c=>match g c with
   | .nx a=>WP b g ds a
   | .ct a=>WP b g ds a
   | .bk a=>.nx a
   | .rt d=>.rt d
   | .no=>.no
noncomputable def vi (f:yT)(b:vM)(g:zU):zU:=fun ρ=>match f (visF ρ) with
 | some ds=>WP b g ds ρ
 | none=>.no
def zff {E:WO}{J:It}{g:TG}{a:zo}{b:vM}(s:zhN J F1 a)(I:RG g b)(M:RS C l)(c:Rl Fb Hb F1 H1 ρ σ)(k:SOk Fb Hb E (WP b l a ρ)) :
 ∃ W:Nat->Nat->St->Hp->Prop,(∃ m,W 0 m σ H1)/\∀ i m σ H,W i m σ H ->
  (J.stop i H/\E.nx σ H)\/(J.go i H/\∃ N:w6,(∀ z H',N z H'->∃ G,G<m/\W (i+1) G z H')/\∀ x H',J.yld i H x H'->g x σ H' λq H2=>C { E with nx:=N,ct:=N,bk:=E.nx } q H2):=by
 refine⟨λi m σ H=>m=a.length-i/\i<=a.length/\∃ F ρ,yt F1 F/\Rl Fb Hb F H ρ σ/\SOk Fb Hb E (WP b l (a.drop i) ρ),⟨a.length,by simp,u07 _,F1,ρ,yt.refl _,c,k⟩,?_⟩
 rintro i m σ H ⟨rfl,U,F,ρ,A,u,k⟩
 obtain⟨j,R⟩:=s i F H A u.gr.fh
 by_cases h:i<a.length
 .have L:a.drop i=a[i]::a.drop (i+1):=l9 h
  rw[L]at k
  unfold WP at k
  obtain⟨K,g2⟩:=R a[i] (by simp[h])
  refine .inr ⟨K,fun σ H=>∃ F ρ,yt F1 F/\Rl Fb Hb F H ρ σ/\SOk Fb Hb E (WP b l (a.drop (i+1)) ρ),λz H' w=>⟨a.length-(i+1),by omega,rfl,h,w⟩,λx H' Q=>?_⟩
  obtain⟨F3,B,O⟩:=g2 x H' Q
  cases t:b a[i] ρ with
  | none=>rw[t]at k;exact k.elim
  | some y =>
   rw[t]at k
   dsimp only at k
   refine I Fb Hb F3 H' ρ y σ _ x _ (u.grow B) O t λq r=>?_
   have S:=A.trans B.ff
   refine M F1 (hb2 F1 Hb) F3 H' y q _ (r.dn c.gr.ff S) ?_
   cases n:l y with
   | nx o=>rw[n]at k;exact λF4 H4 p f=>⟨F4,o,f.gr.ff,f.up c.gr,k⟩
   | ct o=>rw[n]at k;exact λF4 H4 p f=>⟨F4,o,f.gr.ff,f.up c.gr,k⟩
   | bk o=>rw[n]at k;exact λF4 H4 p f=>k F4 H4 p (f.up c.gr)
   | rt d=>rw[n]at k;exact λF4 H4 v P T=>k F4 H4 v (c.gr.up P) T
   | no=>rw[n]at k;exact k.elim
 .have e:i=a.length:=by omega
  subst e
  rw[u0J]at k
  exact .inl ⟨j rfl,k F H σ u⟩
def Xa {a:Expr}{c:v3}{f:yT}{b:vM}{g:zU}(hp:PassesOwn (model X.prog X.w) X.A X.env X.xe)(m:X.calm=true)(l:ID X tg a f)(t:BD X tg b)(p:SDs X c g)
 (o:∀ x,foldedSetIterable a X.env x=pure x:=by intro _;rfl):SD X (.For tg a c [] pos) (vi f b g):=by
 obtain⟨w,i,q⟩:=l
 obtain⟨n,s,e⟩:=t
 obtain⟨y,u,r⟩:=p
 refine⟨_,zcQ hp m i s u o,λFb Hb F H ρ σ E d k=>?_⟩
 unfold vi at k
 cases h:f (visF ρ) with
 | none=>rw[h]at k;exact k.elim
 | some j =>
  rw[h]at k
  exact q σ _ _ H j _ d.gr.fh d.visF h λF1 H1 J v ok=>zff ok e r (d.grow v) k
end
def lcD (b:W4)(t:vO)(f:ya)(ρ:Ev):zgO
 | []=>some []
 | d::ds=>(b d).bind λown=>(t (own++ρ)).bind λc=>if c=true then (f (own++ρ)).bind λy=>(lcD b t f ρ ds).map (y::·)else lcD b t f ρ ds
def fLC (i:yT)(b:W4)(t:vO)(f:ya):yT:=fun ρ=>(i ρ).bind λds=>if lim ds.length=true then lcD b t f ρ ds else none
def b1:W4:=λd=>some [some d]
def b2:W4
 | .tup [x,y]=>some [some x,some y]
 | _=>none
def RB (n:Nat)(t:TG)(b:W4):Prop:=∀ (σ:St) (ρ:Ev) (F H:Hp) (d:D) (v:V) (own:List (Option D)) (Q:w6),yt F H->VAt F ρ σ->At F d v->b d=some own->(∀ a,VAt F (own++ρ) a->Q a H)->t v (List.replicate n none++σ) H Q
def yj:vO:=λ_=>some true
def zfH:RT tYes yj:=λ_ _ _ _ _ _ s _ e q=>by cases e;exact q _ _ (.refl s)
def zgf {g:TG}{V:ya}(ri:RI wi fi)(rg:RB n g b)(rt:RT tt Y)(re:RE te V) :
 RF (tLC wi n g tt te) (fLC fi b Y V):=by
 intro σ ρ F H M Q s va e q
 obtain⟨a,e1,K⟩:=u4.mp e
 split at K <;> try cases K
 rename_i A
 have A:a.length<=sizeLine:=t6 A
 refine ri σ ρ F H a _ s va e1 λF1 H1 J w ok=>?_
 intro P E
 have R:F1 P=none:=w.fh.free E
 have a0:H P=none:=by
  cases e:H P with
  | none=>rfl
  | some o =>
   cases K:F P with
   | none=>rw[(w.kp P o K e).2]at E;cases E
   | some u=>rw[w.fh _ _ (w.ff _ _ K)]at E;cases E
 refine⟨λi m L H2=>m=a.length-i/\i<=a.length/\∃ F2 done,Gr F1 H1 F2 H2/\Gr F1 (upd H1 P (.lst [])) F2 (upd H2 P (.lst []))/\F2 P=none/\H2 P=some (.lst L)/\AtL F2 done L/\done.length<=i/\∃ c,lcD b Y V ρ (a.drop i)=some c/\done++c=M,⟨a.length,by simp,u07 _,F1,[],Gr.hide w.fh E _,?_,R,zx,.nil,u07 _,M,K,rfl⟩,?_⟩
 .rw[zct]
  exact .refl λb u z=>by rw[zn (zj z R)];exact w.fh b u z
 rintro i m L H2 ⟨rfl,hi,F2,done,g2,a2,G,I,U,a1,c,f,d⟩
 obtain⟨N,go⟩:=ok i F2 H2 g2.ff g2.fh
 by_cases r:i<a.length
 .have hd:a.drop i=a[i]::a.drop (i+1):=l9 r
  rw[hd]at f
  unfold lcD at f
  obtain⟨own,hb,f⟩:=u4.mp f
  obtain⟨cb,hc,f⟩:=u4.mp f
  obtain⟨k1,k2⟩:=go a[i] (by simp[r])
  refine .inr ⟨k1,by rw[U.length];omega,λx H3 hy=>?_⟩
  obtain⟨F3,T,a3⟩:=k2 x H3 hy
  refine rg σ ρ F3 H3 a[i] x own _ T.fh (va.mono (w.ff.trans (g2.ff.trans T.ff))) a3 hb fun σ4 O=>?_
  refine rt σ4 _ F3 H3 cb _ T.fh O hc λF5 H5 g5=>?_
  have k:=T.trans g5
  obtain⟨W,h5⟩:=k.kl (λ_ e=>by cases e) G I
  have j:∀ {F6 H6:Hp} {o:HO},Gr F2 H2 F6 H6->F6 P=none->Gr F1 (upd H1 P (.lst [])) F6 (upd (upd H6 P o) P (.lst [])):=λ{F6 H6 o} t B=>by
   rw[zct]
   refine⟨g2.ff.trans t.ff,λb u z=>?_,λb u Z C=>?_⟩
   .rw[zn (zj z B)];exact t.fh b u z
   .by_cases h:b=P
    .subst h
     rw[zx]at C ⊢
     exact⟨.inl B,C⟩
    .rw[zn h]at C ⊢
     exact(g2.trans t).kp b u Z C
  have l:∀ {F6 H6:Hp} {o:HO},Gr F2 H2 F6 H6->F6 P=none->Gr F1 H1 F6 (upd H6 P o):=λ{F6 H6 o} t B=>by
   refine⟨g2.ff.trans t.ff,λb u z=>?_,λb u Z C=>?_⟩
   .rw[zn (zj z B)];exact t.fh b u z
   .rw[zn (zj C E)]
    exact(g2.trans t).kp b u Z C
  cases cb with
  | false =>
   rw[j6 u9]at f ⊢
   have S:H5=upd H5 P (.lst L):=by
    funext b
    by_cases h:b=P
    .subst h;rw[zx];exact h5
    .rw[zn h]
   refine⟨a.length-(i+1),by omega,rfl,r,F5,done,?_,?_,W,h5,U.mono k.ff,by omega,c,f,d⟩
   .rw[S];exact l k W
   .have:=j (o:=.lst L) k W
    rw[<-S]at this
    exact this
  | true =>
   rw[j0 rfl]at f ⊢
   obtain⟨y,hy,f⟩:=u4.mp f
   obtain⟨rest,X,rfl⟩:=t0.mp f
   refine re σ4 _ F5 H5 y _ g5.fh (O.mono g5.ff) hy λF6 H6 v t a6=>?_
   have p:=k.trans t
   obtain⟨B,h6⟩:=p.kl (λ_ e=>by cases e) G I
   refine⟨h6,a.length-(i+1),by omega,rfl,r,F6,done++[y],l p B,j p B,B,zx,(U.mono p.ff).snoc a6,by rw[q5];simp;omega,rest,X,by rw[<-d,u05];rfl⟩
 .have e:i=a.length:=by omega
  subst e
  rw[u0J]at f
  cases f
  rw[n0]at d
  subst d
  exact .inl ⟨N rfl,q F2 H2 P L (w.trans g2) a0 G I U⟩
def rb1:RB 1 (vN 0) b1:=by
 intro σ ρ F H d v own Q s a b e q
 cases e
 refine q _ λi c h=>?_
 cases i with
 | zero=>cases h;exact⟨v,rfl,b⟩
 | succ i=>exact a i c h
def rb2:RB 2 (zjD K 2 (zab (vN 0) (zab (vN 1) zjB))) b2:=by
 intro σ ρ F H d v own Q s b c e q
 unfold b2 at e
 split at e <;> cases e
 obtain⟨p,l,rfl,f,a⟩:=c.tup_inv
 obtain⟨x,r,rfl,j,a⟩:=a.cons_inv
 obtain⟨y,r,rfl,g,a⟩:=a.cons_inv
 cases a.nil_inv
 refine⟨p,_,rfl,SqT.of (s _ _ f),rfl,x,_,rfl,y,_,rfl,rfl,?_⟩
 refine q _ λi k h=>?_
 match i,h with
 | 0,h=>cases h;exact⟨x,rfl,j⟩
 | 1,h=>cases h;exact⟨y,rfl,g⟩
 | i+2,h=>exact b i k h
def tCan (f:ya):TE:=fun σ H Q=>∃ ρ F d,yt F H/\VAt F ρ σ/\f ρ=some d/\∀ F' H' v,Gr F H F' H'->At F' d v->Q v H'
def zit (f:vO):TT:=fun σ H Q=>∃ ρ F d,yt F H/\VAt F ρ σ/\f ρ=some d/\∀ F' H',Gr F H F' H'->Q d H'
def ED.can {f:ya}(h:ED X e f):PE X e (tCan f):=by
 obtain⟨t,p,r⟩:=h
 rintro a s σ H Q I ⟨ρ,F,d,b,g,c,i⟩
 exact p a s σ H Q I (r σ ρ F H d Q b g c i)
def TD.can {f:vO}(h:TD X e f):PT X e (zit f):=by
 obtain⟨t,p,r⟩:=h
 rintro a s σ H Q I ⟨ρ,F,d,b,g,c,i⟩
 exact p a s σ H Q I (r σ ρ F H d Q b g c i)
def zcP {f:ya}:RE (tCan f) f:=λ_ ρ F _ d _ a c b e=>⟨ρ,F,d,a,c,b,e⟩
def zhU {f:vO}:RT (zit f) f:=λ_ ρ F _ d _ a c b e=>⟨ρ,F,d,a,c,b,e⟩
def zdC {X:Cx}{L:zr}{g:TG}(t:X.calm=true)(S:xS X L M a e)(q:ID X i c m)(f:∀ (σ:St) (v:V) (H:Hp) (Q:w6),g v (List.replicate L.length none++σ) H Q->g v (List.replicate L.length none++σ) H (λk H2=>Zw (List.replicate L.length none++σ) k/\Q k H2))(j:RB L.length g b)(s:∀ s₀ H₀ ex pn,PG (X3 X L M a e s₀ H₀ ex pn) i g)(r:∀ s₀ H₀ ex pn,ED (X3 X L M a e s₀ H₀ ex pn) d l)(n:∀ x,foldedSetIterable c X.env x=pure x:=by intro _;rfl):FL X (.ListComp d [⟨i,c,[],0⟩] a h) (fLC m b yj l):=by
 obtain⟨u,p,o⟩:=q
 exact⟨_,zfi t S p f s (λ_ _ _ _=>zc5) (λ_ _ _ _=>(r _ _ _ _).can) n,zgf o j zfH zcP⟩
def zi2 {X:Cx}{L:zr}{f:XG}{g:TG}(t:X.calm=true)(S:xS X L M a f)(q:ID X k d n)(j:∀ (σ:St) (v:V) (H:Hp) (Q:w6),g v (List.replicate L.length none++σ) H Q->g v (List.replicate L.length none++σ) H (λl H2=>Zw (List.replicate L.length none++σ) l/\Q l H2))(i:RB L.length g b)(y:∀ s₀ H₀ ex pn,PG (X3 X L M a f s₀ H₀ ex pn) k g)(s:∀ s₀ H₀ ex pn,TD (X3 X L M a f s₀ H₀ ex pn) c o)(r:∀ s₀ H₀ ex pn,ED (X3 X L M a f s₀ H₀ ex pn) e m)(u:∀ x,foldedSetIterable d X.env x=pure x:=by intro _;rfl):FL X (.ListComp e [⟨k,d,[c],0⟩] a h) (fLC n b o m):=by
 obtain⟨z,p,w⟩:=q
 exact⟨_,zfi t S p j y (λ_ _ _ _=>zg6 (s _ _ _ _).can) (λ_ _ _ _=>(r _ _ _ _).can) u,zgf w i zhU zcP⟩
def ziX {f:yT}(r:RF t f):RE t (yy f):=by
 intro σ ρ F H d Q s h e q
 obtain⟨j,k,rfl⟩:=t0.mp e
 refine r σ ρ F H j Q s h k λF' H' p l g h0 a c i=>?_
 have g2:=g.show h0 a c
 exact q _ _ _ g2 (At.lst zx (i.mono (λb u e=>by rw[zn (zj e a)];exact e)))
def FLS (X:Cx)(i:Nat)(a:Stmt)(f:yT):Prop:=∃ t,PS X a (zgr t (vN i))/\RF t f
def zcV {f:yT}(e:FLS X i a f):SD X a (yf m i (yy f)):=by
 obtain⟨t,p,r⟩:=e
 refine⟨_,p,λFb Hb F H ρ σ E b k=>?_⟩
 unfold yf at k
 cases h:vEv m (yy f) ρ with
 | none=>rw[h]at k;exact k.elim
 | some d =>
  rw[h]at k
  exact(ziX r).at b h λF' H' v g c=>k F' H' _ ((b.grow g).set c)
def zcK {i:Nat}{d:Pos}{X:Cx}{L:zr}{f:Pos}{g:TG}(C:X.N.Nodup)(m:X.N[i]?=some x)(s:Loc X.env.scope x)(A:X.calm=true)(S:xS X L M a n)(y:ID X h c q)(l:∀ (σ:St) (v:V) (H:Hp) (Q:w6),g v (List.replicate L.length none++σ) H Q->g v (List.replicate L.length none++σ) H (λo H2=>Zw (List.replicate L.length none++σ) o/\Q o H2))(k:RB L.length g b)(E:∀ s₀ H₀ ex pn,PG (X3 X L M a n s₀ H₀ ex pn) h g)(z:∀ s₀ H₀ ex pn,ED (X3 X L M a n s₀ H₀ ex pn) e p)(B:∀ x,foldedSetIterable c X.env x=pure x:=by intro _;rfl)(j:swapsWith (.ListComp e [⟨h,c,[],0⟩] a f) (some (.Name x r)) d.line X.env=pure true:=by rfl)(w:X.fn x=true\/X.env.scope.names.lookup x=some .local:=by first | exact .inl rfl | exact .inr rfl | assumption):FLS X i (.Assign [.Name x r] (.ListComp e [⟨h,c,[],0⟩] a f) d) (fLC q b yj p):=by
 obtain⟨F,t,u⟩:=y
 exact⟨_,zis C m s A S t l E (λ_ _ _ _=>zc5) (λ_ _ _ _=>(z _ _ _ _).can) B j w,zgf u k zfH zcP⟩
noncomputable def fnD (n:Nat)(g:zU)(ds:zo):Option D:=match g (ds.map .v++List.replicate (n-ds.length) .no) with
 | .rt d=>some d
 | .nx _=>some .non
 | _=>none
def spD (m:Nat)(p:vp):Sp:=λb H Q _=>∃ a d F,a.length=m/\yt F H/\AtL F a b/\p a=some d/\∀ F' H' v,Gr F H F' H'->At F' d v->Q v H'
def Wa {N:zr}{b:zo}(s:yt F H)(a:AtL F b k):Rl F H F H (b.map .v++List.replicate (N.length-b.length) .no) (L2.start N k):=by
 have l:=a.length
 have c:∀ (i:Nat) (t:Sl),(b.map Sl.v++List.replicate (N.length-b.length) Sl.no)[i]?=some t->t.isO=true->False:=λi t h g=>by
  by_cases f:i<b.length
  .rw[i0 (by simpa using f),j7]at h
   cases e:b[i]? with
   | none=>rw[e]at h;cases h
   | some d=>rw[e]at h;cases h;cases g
  .rw[p0 (by simpa using f),u0v]at h
   split at h <;> cases h
   cases g
 refine⟨.refl s,λi d h=>?_,λi t h g=>(c i t h g).elim,λi j p t u h _ g=>(c i t h g).elim,?_,λi w h o e=>(c i _ e rfl).elim⟩
 .by_cases f:i<b.length
  .rw[i0 (by simpa using f),j7]at h
   cases e:b[i]? with
   | none=>rw[e]at h;cases h
   | some q =>
    rw[e]at h
    cases h
    obtain⟨x,m,n⟩:=a.get e
    refine⟨x,?_,n⟩
    unfold L2.start
    rw[i0 (by simpa [l]using f),j7,m]
    rfl
  .rw[p0 (by simpa using f),u0v]at h
   split at h <;> cases h
 .unfold L2.start
  simp[l]
def ZP {w:World}{f:Addr}{N ps:zr}{g:zU}(Fu:Fun K x b j f u)(S:we N ps (zw j))(z:∀ (c:Value) (A:z5) (outer:List Env) (s:zi) (H:Hp) (E:XK),wF k (A.deeper (PyProof.Rows.envOfC b (zw j) s.heap.objs.size f c))->SDs (vQ CX0 P w K n i N b (zw j) f c A outer s H E).nox (xb j) g) :
 vP P w K n i CX0 (k+1) f u ps (spD ps.length (fnD N.length g)):=by
 refine Fu.ok S (λy H Q E h=>?_) λc A outer s H y Q E D h=>?_
 .obtain⟨m,d,F,o,_,a,_⟩:=h
  rw[a.length];exact o
 .obtain⟨m,d,F,o,G,a,e,q⟩:=h
  obtain⟨t,p,r⟩:=z c A outer s H E D
  refine⟨t,p,r F H F H _ _ _ (Wa G a) ?_⟩
  unfold fnD at e
  cases l:g (m.map .v++List.replicate (N.length-m.length) .no) with
  | rt I=>rw[l]at e;cases e;exact λF' H' v g B=>q F' H' v g B
  | nx ρ=>rw[l]at e;cases e;exact λF' H' σ C=>q F' H' _ C.gr .non
  | bk ρ=>rw[l]at e;cases e
  | ct ρ=>rw[l]at e;cases e
  | no=>rw[l]at e;cases e
def Yr {w:World}{f:Addr}{g:zr}{p q:vp}(F:vP P w K e a CX0 k f i g (spD m p))(h:∀ b d,b.length=m->q b=some d->p b=some d):vP P w K e a CX0 k f i g (spD m q) :=
 F.imp λr H Q E ⟨b,d,F',c,l,j,n,o⟩=>⟨b,d,F',c,l,j,h b d c n,o⟩
def zq (m:Nat)(p:vp)(f:yT):ya:=fun ρ=>(f ρ).bind λds=>if ds.length=m then p ds else none
def zgx {X:Cx} {f:Addr} (F:vP X.prog X.w X.K X.mg X.base CX0 k f l o (spD m p)) (K:wF k X.A) (M:Gl X x) (L:X.mg x=some (.ref f)) (y:W.keepIn X.K (.ref f)=true) (A:YB X.K l o []) (w:AD X (e::b) j) (i:(x == ("__debug__":Str))=false:=by decide) (C:starEach (e::b) X.env=(false,eval e X.env)::starEach b X.env:=by rfl) (h:(backTo a (starEach b X.env)).any (·.1)=false:=by rfl) :
 ED X (.Call (.Name x E) (e::b) [] a) (zq m p j):=by
 obtain⟨t,z,r⟩:=w
 refine⟨_,zci F K M L y A .nil zjl z i C h,fun σ ρ F0 H d Q s I e q=>?_⟩
 obtain⟨n,B,c⟩:=u4.mp e
 split at c <;> try cases c
 rename_i N
 refine r σ ρ F0 H n _ s I B λF1 H1 O u J=>?_
 refine⟨n,d,F1,N,u.fh,by rw[n0];exact J,c,λF' H' v g G=>q F' H' v (u.trans g) G⟩
end Dl
namespace Dl
open PySem L2
variable [KK]
section
variable {X:Cx}{a b c e:Expr}{pos:Pos}
def zF:bootBuiltins "isinstance"=some (.builtin "isinstance"):=by decide +kernel
def xB:bootBuiltins "len"=some (.builtin "len"):=by decide +kernel
def ziv:bootBuiltins "min"=some (.builtin "min"):=by decide +kernel
def zfB:bootBuiltins "sum"=some (.builtin "sum"):=by decide +kernel
def zfQ:bootBuiltins "all"=some (.builtin "all"):=by decide +kernel
def zaY:bootBuiltins "int"=some (.type "int"):=by decide +kernel
def zdG:bootBuiltins "bool"=some (.type "bool"):=by decide +kernel
def vl:bootBuiltins "tuple"=some (.type "tuple"):=by decide +kernel
def zc1:bootBuiltins "list"=some (.type "list"):=by decide +kernel
def YZ:bootBuiltins "str"=some (.type "str"):=by decide +kernel
def xA:bootBuiltins "enumerate"=some (.type "enumerate"):=by decide +kernel
def zjb:bootBuiltins "zip"=some (.type "zip"):=by decide +kernel
def YH (C:Int->Int->Bool)(g:Int->Int->Int):xC
 | .int i,.int j=>if C i j=true then some (.int (g i j))else none
 | _,_=>none
def xJ (g:Int->Int->Int):xC
 | .int i,.int j=>some (.int (g i j))
 | _,_=>none
def Y4 (g:Int->Int->Bool):xC
 | .int i,.int j=>some (.bl (g i j))
 | _,_=>none
def YU {C:Int->Int->Prop}{Cb:Int->Int->Bool}{g:Int->Int->Int}(h:∀ i j,Cb i j=true->C i j):OpD (rI C λi j=>.int (g i j)) (YH Cb g):=by
 intro F H x y d e z Q s f c a q
 cases d <;> try cases a
 cases e <;> try cases a
 unfold YH at a
 dsimp only at a
 split at a <;> cases a
 rename_i b
 exact⟨_,_,f.int_inv,c.int_inv,h _ _ b,q F H _ (.refl s) .int⟩
def W6 {g:Int->Int->Int}:OpD (rI0 λi j=>.int (g i j)) (xJ g):=by
 intro F H x y d e z Q s c b a q
 cases d <;> try cases a
 cases e <;> try cases a
 exact⟨_,_,c.int_inv,b.int_inv,q F H _ (.refl s) .int⟩
def zY {g:Int->Int->Bool}:OpD (rI0 λi j=>.bl (g i j)) (Y4 g):=by
 intro F H x y d e z Q s c b a q
 cases d <;> try cases a
 cases e <;> try cases a
 exact⟨_,_,c.int_inv,b.int_inv,q F H _ (.refl s) .bl⟩
def Vj {r c:R2}{g f:xC}(h:OpD r g)(k:OpD c f):OpD (λx y H Q=>r x y H Q\/c x y H Q) (λd e=>(g d e).or (f d e)):=by
 intro F H x y d e z Q s j i a q
 dsimp only at a
 cases b:g d e with
 | some l=>rw[b]at a;cases a;exact .inl (h F H x y d e z Q s j i b q)
 | none=>rw[b]at a;exact .inr (k F H x y d e z Q s j i a q)
def ziJ:xC
 | .tup a,.tup b=>if lim (a.length+b.length)=true then some (.tup (a++b))else none
 | _,_=>none
def zi3:D->D->Option zo
 | .lst a,.lst b=>if lim (a.length+b.length)=true then some (a++b)else none
 | _,_=>none
def WL (d e:D):Option D:=(zi3 d e).map .lst
def zig:xC
 | .str a,.str b=>if lim (a.length+b.length)=true then some (.str (a++b))else none
 | _,_=>none
def zex:OpD (zfd K) ziJ:=by
 intro F H x y d e z Q s t n a q
 cases d <;> try cases a
 cases e <;> try cases a
 unfold ziJ at a
 dsimp only at a
 split at a <;> cases a
 rename_i o
 obtain⟨p,h,rfl,f,b⟩:=t.tup_inv
 obtain⟨k,c,rfl,i,bl⟩:=n.tup_inv
 refine⟨p,k,h,c,rfl,rfl,SqT.of (s _ _ f),SqT.of (s _ _ i),by rw[b.length,bl.length];exact t6 o,λj=>?_,λ_ l=>?_,λ_ _ r m=>?_⟩
 .subst j
  have:(_:zo)=[]:=i7.mp b.length.symm
  subst this
  exact q F H _ (.refl s) (.tup i bl)
 .subst l
  have:(_:zo)=[]:=i7.mp bl.length.symm
  subst this
  rw[n0]at q
  exact q F H _ (.refl s) (.tup f b)
 .have g:=Gr.alloc s m (.tup (h++c))
  exact q _ _ _ g (.tup zx ((b.append bl).mono g.ff))
def za5:OpD zjN WL:=by
 intro F H x y d e z Q s n k a q
 cases d <;> try cases a
 cases e <;> try cases a
 unfold WL zi3 at a
 dsimp only at a
 split at a <;> cases a
 rename_i m
 obtain⟨p,f,rfl,h,b⟩:=n.lst_inv
 obtain⟨i,c,rfl,l,bl⟩:=k.lst_inv
 refine⟨p,i,f,c,rfl,rfl,s _ _ h,s _ _ l,by rw[b.length,bl.length];exact t6 m,λr j=>?_⟩
 have g:=Gr.alloc s j (.lst (f++c))
 exact q _ _ _ g (.lst zx ((b.append bl).mono g.ff))
def zeg:OpD (λx y H Q=>∃ i j,x=.str i/\y=.str j/\i.length+j.length<=sizeLine/\Q (.str (i++j)) H) zig:=by
 intro F H x y d e z Q s f b a q
 cases d <;> try cases a
 cases e <;> try cases a
 unfold zig at a
 dsimp only at a
 split at a <;> cases a
 rename_i c
 exact⟨_,_,f.str_inv,b.str_inv,t6 c,q F H _ (.refl s) .str⟩
def yb:xC
 | .int i,.int j=>some (.int (i+j))
 | .tup a,.tup b=>if lim (a.length+b.length)=true then some (.tup (a++b))else none
 | .lst a,.lst b=>if lim (a.length+b.length)=true then some (.lst (a++b))else none
 | .str a,.str b=>if lim (a.length+b.length)=true then some (.str (a++b))else none
 | _,_=>none
def V9 {g a:xC}(h:OpD r g)(k:∀ d e z,a d e=some z->g d e=some z):OpD r a:=λF H x y d e z Q s f c b q=>h F H x y d e z Q s f c (k d e z b) q
def zN {f:ya}(l:ED X a f)(k:ED X b h):ED X (.BinOp a .Add b pos) (zd yb f h) :=
 X1 (((zim.or zdT).or WT).or zbx) (V9 (Vj (Vj (Vj (W6 (g:=λi j=>i+j)) zex) za5) zeg) λd e z h=>by
  cases d <;> try cases h
  all_goals cases e <;> try cases h
  .rfl
  .unfold yb at h;dsimp only at h;split at h <;> cases h;rename_i c;simp[xJ,ziJ,c,WL,zi3,zig]
  .unfold yb at h;dsimp only at h;split at h <;> cases h;rename_i c;simp[xJ,ziJ,c,WL,zi3,zig]
  .unfold yb at h;dsimp only at h;split at h <;> cases h;rename_i c;simp[xJ,ziJ,c,WL,zi3,zig]) l k
def zjS {H H1:Hp}(a:Gr F H F1 H1)(hp:H1 p=none):H p=none:=by
 cases e:H p with
 | none=>rfl
 | some o =>
  cases b:F p with
  | none=>rw[(a.kp p o b e).2]at hp;cases hp
  | some u=>rw[a.fh _ _ (a.ff _ _ b)]at hp;cases hp
def Zp (i j:Int):Bool:=decide ((-(2^64)<i/\i<2^64)\/(-(2^64)<j/\j<2^64))
def zj6:D->D->Option zo
 | .lst a,.int k=>if -(2^63)<=k/\k<2^63/\lim (a.length*k.toNat)=true then some (List.replicate k.toNat a).flatten else none
 | _,_=>none
def zeO (d e:D):Option D:=(zj6 d e).map .lst
def wJ:xC
 | .int i,.int j=>if Zp i j=true then some (.int (i*j))else none
 | .lst a,.int k=>if -(2^63)<=k/\k<2^63/\lim (a.length*k.toNat)=true then some (.lst (List.replicate k.toNat a).flatten)else none
 | _,_=>none
def zd2:OpD rRep zeO:=by
 intro F H x y d e z Q s l j a q
 cases d <;> try cases a
 cases e <;> try cases a
 unfold zeO zj6 at a
 dsimp only at a
 split at a <;> cases a
 rename_i b
 obtain⟨p,f,rfl,h,c⟩:=l.lst_inv
 refine⟨p,_,f,rfl,j.int_inv,s _ _ h,b.1,b.2.1,by rw[c.length];exact t6 b.2.2,λr i=>?_⟩
 rename_i m k
 have g:=Gr.alloc s i (.lst (List.replicate k.toNat f).flatten)
 exact q _ _ _ g (.lst zx ((c.rep _).mono g.ff))
def Xq {f:ya}(l:ED X a f)(k:ED X b h):ED X (.BinOp a .Mult b pos) (zd wJ f h) :=
 X1 (zia.or zjm) (V9 (Vj (YU (Cb:=Zp) (g:=λi j=>i*j) λi j h=>by have m:=t6 (show decide ((-(2^64)<i/\i<2^64)\/(-(2^64)<j/\j<2^64))=true from h);exact m) zd2) λd e z h=>by
  cases d <;> try cases h
  all_goals cases e <;> try cases h
  .unfold wJ at h;dsimp only at h;split at h <;> cases h;rename_i c;simp[YH,c]
  .unfold wJ at h;dsimp only at h;split at h <;> cases h;rename_i c;show(zeO _ _)=_;unfold zeO zj6;dsimp only;rw[j0 c];rfl) l k
def YG:=xJ λi j=>i-j
def yH:=YH (λ_ j=>decide (0<j/\j<1606938044258990275541962092341162602522202993782792835301376)) λi j=>i/j
def y0:=YH (λ_ j=>decide (0<j)) λi j=>i%j
def zhD:=YH (λ_ j=>decide (0<=j)) λi j=>i/2^j.toNat
def zfD {f:ya}(c:ED X a f)(d:ED X b h):ED X (.BinOp a .Sub b pos) (zd YG f h):=X1 zhW W6 c d
def zeN:OpR X (binaryOp .FloorDiv) (rI (λ_ j=>0<j/\j<1606938044258990275541962092341162602522202993782792835301376) λi j=>.int (i/j)):=opI λi j _ _ _ _ _ a q=>by
 have c:(0:Int)<j:=a.1
 have d:j<1606938044258990275541962092341162602522202993782792835301376:=a.2
 refine PyProof.Rows.floordiv_int (by omega) (by rw[u1D i (by omega)];exact q) (.inl (PyProof.noPylong_of_log2 ?_))
 have h0:j.natAbs≠0:=by omega
 have b:j.natAbs<1606938044258990275541962092341162602522202993782792835301376:=by omega
 have e:j.natAbs.log2<200:=(Nat.log2_lt h0).mpr b
 omega
def Xn {f:ya}(d:ED X a f)(c:ED X b h):ED X (.BinOp a .FloorDiv b pos) (zd yH f h):=X1 zeN (YU λ_ _ h=>by have e:=t6 h;exact e) d c
def vX {f:ya}(d:ED X a f)(c:ED X b h):ED X (.BinOp a .Mod b pos) (zd y0 f h):=X1 zfp (YU λ_ _ h=>by have e:=t6 h;exact e) d c
def zjg {f:ya}(d:ED X a f)(c:ED X b h):ED X (.BinOp a .RShift b pos) (zd zhD f h):=X1 zhZ (YU λ_ _ h=>by have e:=t6 h;exact e) d c
def ltD:=Y4 λi j=>decide (i<j)
def leD:=Y4 λi j=>decide (i<=j)
def gtD:=Y4 λi j=>decide (j<i)
def geD:=Y4 λi j=>decide (j<=i)
def eqS:D->D->Option Bool
 | .non,.non=>some true
 | .int i,.int j=>some (decide (i=j))
 | .bl i,.bl j=>some (decide (i=j))
 | .str i,.str j=>some (decide (i=j))
 | .non,.int _=>some false | .int _,.non=>some false | .non,.bl _=>some false | .bl _,.non=>some false | .non,.str _=>some false | .str _,.non=>some false
 | .int _,.str _=>some false | .str _,.int _=>some false | .bl _,.str _=>some false | .str _,.bl _=>some false
 | _,_=>none
def eqD (d e:D):Option D:=(eqS d e).map .bl
def neD (d e:D):Option D:=(eqS d e).map λc=>.bl (!c)
def zfV:OpD rEq eqD:=by
 intro F H x y d e z Q s b a g q
 obtain⟨c,f,rfl⟩:=t0.mp g
 cases d <;> cases e <;> try cases f
 .cases b.non_inv;cases a.non_inv;exact⟨rfl,q F H _ (.refl s) .bl⟩
 .cases b.non_inv;cases a.bl_inv;exact⟨rfl,q F H _ (.refl s) .bl⟩
 .cases b.non_inv;cases a.int_inv;exact⟨rfl,q F H _ (.refl s) .bl⟩
 .cases b.non_inv;cases a.str_inv;exact⟨rfl,q F H _ (.refl s) .bl⟩
 .cases b.bl_inv;cases a.non_inv;exact⟨rfl,q F H _ (.refl s) .bl⟩
 .cases b.bl_inv;cases a.bl_inv;refine⟨rfl,?_⟩;rw[show ∀ i j:Bool,decide (V.bl i=V.bl j)=decide (i=j)from λi j=>by simp];exact q F H _ (.refl s) .bl
 .cases b.bl_inv;cases a.str_inv;exact⟨rfl,q F H _ (.refl s) .bl⟩
 .cases b.int_inv;cases a.non_inv;exact⟨rfl,q F H _ (.refl s) .bl⟩
 .cases b.int_inv;cases a.int_inv;refine⟨rfl,?_⟩;rw[show ∀ i j:Int,decide (V.int i=V.int j)=decide (i=j)from λi j=>by simp];exact q F H _ (.refl s) .bl
 .cases b.int_inv;cases a.str_inv;exact⟨rfl,q F H _ (.refl s) .bl⟩
 .cases b.str_inv;cases a.non_inv;exact⟨rfl,q F H _ (.refl s) .bl⟩
 .cases b.str_inv;cases a.bl_inv;exact⟨rfl,q F H _ (.refl s) .bl⟩
 .cases b.str_inv;cases a.int_inv;exact⟨rfl,q F H _ (.refl s) .bl⟩
 .cases b.str_inv;cases a.str_inv;refine⟨rfl,?_⟩;rw[show ∀ i j:Str,decide (V.str i=V.str j)=decide (i=j)from λi j=>by simp];exact q F H _ (.refl s) .bl
def YT:OpD rNe neD:=by
 intro F H x y d e z Q s m l k q
 obtain⟨c,j,rfl⟩:=t0.mp k
 have:=zfV F H x y d e (.bl c) (λv H'=>∃ b,v=.bl b/\Q (.bl (!b)) H') s m l (by unfold eqD;rw[j];rfl) λF' H' v g h=>⟨c,h.bl_inv,q F' H' _ g .bl⟩
 obtain⟨a,b,i,f⟩:=this
 cases i
 exact⟨a,f⟩
def wv:xC
 | d,.non=>some (.bl (match d with | .non=>true | _=>false))
 | .bl a,.bl b=>some (.bl (a == b))
 | _,_=>none
def yi:xC
 | d,.non=>some (.bl (match d with | .non=>false | _=>true))
 | .bl a,.bl b=>some (.bl (!(a == b)))
 | _,_=>none
def zgU (h:At F d x):decide (x=V.non)=(match d with | .non=>true | _=>false):=by
 cases d with
 | non=>cases h.non_inv;rfl
 | bl b=>cases h.bl_inv;rfl
 | int b=>cases h.int_inv;rfl
 | str b=>cases h.str_inv;rfl
 | tup e=>obtain⟨a,c,rfl,_⟩:=h.tup_inv;rfl
 | lst e=>obtain⟨a,c,rfl,_⟩:=h.lst_inv;rfl
 | scr e=>obtain⟨a,rfl,_⟩:=h.scr_inv;rfl
 | dct z t j i=>obtain⟨a,c,rfl,_⟩:=h.dct_inv;rfl
 | obj w d k=>obtain⟨p,l,q,f,g,c,rfl,_⟩:=h.obj_inv;rfl
def wX:OpD (λx y H Q=>(y=.non/\Q (.bl (decide (x=.non))) H)\/∃ i j,x=.bl i/\y=.bl j/\Q (.bl (i == j)) H) wv:=by
 intro F H x y d e z Q s c b a q
 unfold wv at a
 split at a
 .cases a
  refine .inl ⟨b.non_inv,?_⟩
  rw[zgU c]
  have:=q F H _ (.refl s) .bl
  cases d <;> exact this
 .cases a
  exact .inr ⟨_,_,c.bl_inv,b.bl_inv,q F H _ (.refl s) .bl⟩
 .cases a
def Yl:OpR X (compareOp .Is) (λx y H Q=>(y=.non/\Q (.bl (decide (x=.non))) H)\/∃ i j,x=.bl i/\y=.bl j/\Q (.bl (i == j)) H):=zhG.or zeR
def yl (g a:xC)(f h k:ya):ya:=fun ρ=>(f ρ).bind λx=>(h ρ).bind λy=>((g x y).bind asB).bind λc=>if c=true then (k ρ).bind λz=>a y z else some (.bl false)
def zaI {g:xC}{f:ya}(S:OpD r g)(i:OpD o p)(G:RE t f)(P:RE A h)(N:RE B k):RE (Vx r o t A B) (yl g p f h k):=by
 intro σ ρ F H z Q s l e q
 obtain⟨x,K,e⟩:=u4.mp e
 obtain⟨y,L,e⟩:=u4.mp e
 obtain⟨c,j,e⟩:=u4.mp e
 obtain⟨X,j,J⟩:=u4.mp j
 cases Z5 J
 refine G σ ρ F H x _ s l K λF1 H1 v m O=>?_
 refine P σ ρ F1 H1 y _ m.fh (l.mono m.ff) L λF2 H2 u g2 C=>?_
 refine S F2 H2 v u x y _ _ g2.fh (O.mono g2.ff) C j λF3 H3 w d E=>⟨c,E.bl_inv,?_⟩
 have a:=(m.trans g2).trans d
 cases c with
 | true =>
  rw[j0 rfl]at e ⊢
  obtain⟨n,W,R⟩:=u4.mp e
  refine N σ ρ F3 H3 n _ d.fh (l.mono a.ff) W λF4 H4 T b U=>?_
  exact i F4 H4 u T y n z Q b.fh (C.mono (d.ff.trans b.ff)) U R λF5 H5 V I M=>q F5 H5 V ((a.trans b).trans I) M
 | false =>
  rw[j6 u9]at e ⊢
  cases e
  exact q F3 H3 _ a .bl
def zep {g:xC}{f:ya}(w:OpR X (compareOp l) r)(s:OpR X (compareOp d) i)(u:OpD r g)(e:OpD i m)(t:ED X a f)(q:ED X b h)(v:ED X c k)(j:∀ {n o p:TE},PE X a n->PE X b o->PE X c p->PE X (.Compare a [l,d] [b,c] pos) (Vx r i n o p)):ED X (.Compare a [l,d] [b,c] pos) (yl g m f h k) :=
 let ⟨_,pa,ra⟩:=t
 let ⟨_,pb,rb⟩:=q
 let ⟨_,pc,rc⟩:=v
 ⟨_,j pa pb pc,zaI u e ra rb rc⟩
def zea {g:xC}{f:ya}(w:OpR X (compareOp l) r)(s:OpR X (compareOp d) i)(u:OpD r g)(e:OpD i m)(t:ED X a f)(q:ED X b h)(v:ED X c k)(j:∀ {n o p:TE},PE X a n->PE X b o->PE X c p->PT X (.Compare a [l,d] [b,c] pos) (zal (Vx r i n o p))):TD X (.Compare a [l,d] [b,c] pos) (tOf (yl g m f h k)) :=
 let ⟨_,pa,ra⟩:=t
 let ⟨_,pb,rb⟩:=q
 let ⟨_,pc,rc⟩:=v
 ⟨_,j pa pb pc,zhg (zaI u e ra rb rc)⟩
def zaU:zo->Option zB
 | []=>some []
 | .int b::ds=>(zaU ds).map (b::·)
 | _=>none
omit [KK] in
def Xr:∀ {b:zo} {a:zB},zaU b=some a->b=a.map .int
 | [],a,h=>by cases h;rfl
 | d::b,a,h=>by
  cases d <;> try cases h
  obtain⟨e,c,rfl⟩:=t0.mp h
  rw[Xr c]
  rfl
def leT:xC
 | .tup a,.tup b=>(zaU a).bind λns=>(zaU b).map λc=>.bl (HT.lexLe ns c)
 | _,_=>none
def zdb:OpD (rLeT K) leT:=by
 intro F H x y d e z Q s c b a q
 cases d <;> try cases a
 cases e <;> try cases a
 obtain⟨ns,j,l⟩:=u4.mp a
 obtain⟨g,h,rfl⟩:=t0.mp l
 rw[Xr j]at c
 rw[Xr h]at b
 obtain⟨p,o,rfl,i,f⟩:=c.tup_inv
 obtain⟨k,n,rfl,m,bl⟩:=b.tup_inv
 cases f.of_ints
 cases bl.of_ints
 exact⟨p,k,ns,g,rfl,rfl,SqT.of (s _ _ i),SqT.of (s _ _ m),q F H _ (.refl s) .bl⟩
def ixD:xC
 | .lst ds,.int i=>atI ds i
 | .tup ds,.int i=>atI ds i
 | .scr ns,.int i=>(atI ns i).map .int
 | _,_=>none
def AtL.atI {c:zo}{b:zz}(a:AtL F c b)(h:L2.atI c i=some d):∃ x,L2.atI b i=some x/\At F d x:=by
 unfold L2.atI at h ⊢
 obtain⟨j,e,f⟩:=u4.mp h
 obtain⟨x,g,k⟩:=a.get f
 exact⟨x,by rw[a.length,e];exact g,k⟩
def zhS:OpD (rIx KK.K) ixD:=by
 intro F H x y d e z Q s i o c q
 cases e <;> try (cases d <;> cases c)
 cases o.int_inv
 cases d with
 | lst l =>
  obtain⟨p,h,rfl,b,f⟩:=i.lst_inv
  obtain⟨v,a,g⟩:=f.atI c
  exact .inl ⟨p,h,_,v,rfl,rfl,SqL.of (s _ _ b),a,q F H _ (.refl s) g⟩
 | tup l =>
  obtain⟨p,h,rfl,b,f⟩:=i.tup_inv
  obtain⟨v,a,g⟩:=f.atI c
  exact .inr (.inl ⟨p,h,_,v,rfl,rfl,SqT.of (s _ _ b),a,q F H _ (.refl s) g⟩)
 | scr ns =>
  obtain⟨p,rfl,b⟩:=i.scr_inv
  obtain⟨n,a,rfl⟩:=t0.mp c
  refine .inl ⟨p,ns.map V.int,_,.int n,rfl,rfl,s.seq b,?_,q F H _ (.refl s) .int⟩
  unfold L2.atI at a ⊢
  rw[t1]
  obtain⟨j,m,k⟩:=u4.mp a
  rw[m]
  show(ns.map V.int)[j]?=_
  rw[j7,k]
  rfl
 | _=>cases c
def yO {f:ya}(e:ED X a f)(d:ED X b h)(c:VX b)(g:X.K=KK.K:=by rfl):ED X (.Subscript a b pos) (zd ixD f h) :=
 let ⟨_,pa,ra⟩:=e
 let ⟨_,pb,rb⟩:=d
 ⟨_,ziV zhJ pa pb c,zap (by rw[g];exact zhS) ra rb⟩
def XM {α:Type}(a:List α)(b c:yu):List α:=(a.drop (HT.sIx a.length 0 b)).take (HT.sIx a.length a.length c-HT.sIx a.length 0 b)
def AtL.cut {c:zo}{a:zz}(b:AtL F c a):AtL F (XM c lo hi) (zaa a lo hi):=by
 unfold XM zaa
 rw[b.length]
 exact(b.drop _).take _
def OD (X:Cx)(e:Option Expr)(f:Ev->Option yu):Prop:=∃ t,PO X e t/\∀ (σ:St) (ρ:Ev) (F H:Hp) (i:yu) (Q:yu->Hp->Prop),yt F H->VAt F ρ σ->f ρ=some i->(∀ F' H',Gr F H F' H'->Q i H')->t σ H Q
def z4:Ev->Option yu:=λ_=>some none
def asI:D->yu
 | .int i=>some i
 | _=>none
def z0 (f:ya):Ev->Option yu:=fun ρ=>((f ρ).bind asI).map some
def xg:OD X none z4:=⟨_,zgE,λ_ _ _ _ _ _ s _ e q=>by cases e;exact q _ _ (.refl s)⟩
def xh {f:ya}(h:ED X e f):OD X (some e) (z0 f):=by
 obtain⟨t,p,r⟩:=h
 refine⟨_,zf6 p,fun σ ρ F H i Q s b e q=>?_⟩
 obtain⟨j,a,rfl⟩:=t0.mp e
 obtain⟨d,a,g⟩:=u4.mp a
 cases d <;> cases g
 exact r σ ρ F H _ _ s b a λF1 H1 v k c=>⟨_,c.int_inv,q F1 H1 k⟩
def slD:D->yu->yu->Option D
 | .lst ds,lo,hi=>some (.lst (XM ds lo hi))
 | .scr ns,lo,hi=>some (.lst ((XM ns lo hi).map .int))
 | .tup ds,lo,hi=>some (.tup (XM ds lo hi))
 | _,_,_=>none
def eSl (g:D->yu->yu->Option D)(f:ya)(l h:Ev->Option yu):ya:=fun ρ=>(f ρ).bind λd=>(l ρ).bind λb=>(h ρ).bind λa=>g d b a
omit [KK] in
def zeD {ns:zB}{b a:yu}:zaa (ns.map V.int) b a=(XM ns b a).map V.int:=by
 unfold zaa XM
 rw[t1,List.map_take,u1Z]
end
end Dl
namespace L2
open PySem PySem.Spec PyProof.Rows
def rSlN:V->yu->yu->Hp->VK->Prop:=λx d c H Q=>∃ a b,x=.ref a/\H a=some (.tup b)/\(zaa b d c=b->Q (.ref a) H)/\∀ p,H p=none->Q (.ref p) (upd H p (.tup (zaa b d c)))
def zhj:SlR X rSlN:=by
 intro d s σ H x v t p g k u Q I l f i n h
 obtain⟨a,b,rfl,j,q,o⟩:=h
 by_cases hw:HT.sIx b.length 0 g=0/\HT.sIx b.length b.length k=b.length
 .cases l
  obtain⟨e,r,m,w⟩:=I.tuple (SqT.of j)
  have c:e.toArray.size=b.length:=by rw[q7];exact r.length.symm
  refine⟨"tuple",_,o9.lookup,m.typeIs,?_⟩
  refine HT.own_getItem_whole m f i n (by rw[c];exact hw) ⟨.ref a,H,I,rfl,q ?_⟩
  unfold zaa
  rw[hw.1,hw.2,List.drop_zero,Nat.sub_zero,u1h]
 .exact zjc d s σ H (.ref a) v t p g k u Q I l f i n ⟨a,b,rfl,SqT.of j,hw,o⟩
end L2
namespace Dl
open PySem L2
variable [KK]
section
variable {X:Cx}{a b c e:Expr}{pos:Pos}
def yM {w:Option Expr}{f:ya}(G:ED X a f)(T:OD X y l)(C:OD X w h)(J:X.K=KK.K:=by rfl):ED X (.Subscript a (.Slice y w none R) pos) (eSl slD f l h):=by
 obtain⟨U,K,B⟩:=G
 obtain⟨W,x,S⟩:=T
 obtain⟨Y,N,L⟩:=C
 refine⟨_,zax (zht.or zhj) K x N,fun σ ρ F H z Q s A e q=>?_⟩
 obtain⟨d,E,e⟩:=u4.mp e
 obtain⟨i,I,e⟩:=u4.mp e
 obtain⟨j,M,e⟩:=u4.mp e
 refine B σ ρ F H d _ s A E λF1 H1 v t P=>?_
 refine S σ ρ F1 H1 i _ t.fh (A.mono t.ff) I λF2 H2 g2=>?_
 refine L σ ρ F2 H2 j _ g2.fh (A.mono (t.ff.trans g2.ff)) M λF3 H3 c=>?_
 have b:=(t.trans g2).trans c
 have u:=P.mono (g2.ff.trans c.ff)
 cases d <;> try cases e
 .obtain⟨p,m,rfl,k,o⟩:=u.tup_inv
  refine .inr ⟨p,m,rfl,c.fh _ _ k,λO=>?_,λr n=>?_⟩
  .have:=o.cut (lo:=i) (hi:=j)
   rw[O]at this
   exact q F3 H3 _ b (.tup k this)
  .have g:=Gr.alloc c.fh n (.tup (zaa m i j))
   exact q _ _ _ (b.trans g) (.tup zx (o.cut.mono g.ff))
 .obtain⟨p,m,rfl,k,o⟩:=u.lst_inv
  refine .inl ⟨p,m,rfl,SqL.of (c.fh _ _ k),λr n=>?_⟩
  have g:=Gr.alloc c.fh n (.lst (zaa m i j))
  exact q _ _ _ (b.trans g) (.lst zx (o.cut.mono g.ff))
 .rename_i ns _ _
  obtain⟨p,rfl,k⟩:=u.scr_inv
  refine .inl ⟨p,_,rfl,(by rw[J];exact c.fh.seq k),λr n=>?_⟩
  rw[zeD]
  have g:=Gr.alloc c.fh n (.lst ((XM ns i j).map V.int))
  exact q _ _ _ (b.trans g) (.lst zx (.ints _))
def CaD (r:zbb)(g:vp):Prop:=∀ (F H:Hp) (b:zz) (a:zo) (z:D) (Q:VK),yt F H->AtL F a b->g a=some z->(∀ F' H' v,Gr F H F' H'->At F' z v->Q v H')->r b H Q
def eFn (g:vp)(f:yT):ya:=fun ρ=>(f ρ).bind g
def fFn (g:zgO)(f:yT):yT:=fun ρ=>(f ρ).bind g
def zR {x:Str}{id:String}{p:Pos}{a:yK}{r:zbb}{g:vp}{f:yT}(y:Yy X (.builtin id) r)(I:CaD r g)(b:Gl X x)(G:X.mg x=none)(n:bootBuiltins x=some (.builtin id))(o:AD X (e::a) f)
 (w:x≠"__name__":=by decide) (d:(x == ("__debug__":Str))=false:=by decide) (m:starEach (e::a) X.env=(false,eval e X.env)::starEach a X.env:=by rfl) (c:(backTo pos (starEach a X.env)).any (·.1)=false:=by rfl) :
 ED X (.Call (.Name x p) (e::a) [] pos) (eFn g f):=by
 obtain⟨t,A,j⟩:=o
 refine⟨_,yJ y b G n A w d m c,fun σ ρ F H z Q s B e q=>?_⟩
 obtain⟨h,l,u⟩:=u4.mp e
 refine j σ ρ F H h _ s B l λF1 H1 k i E=>?_
 exact I F1 H1 k h z Q i.fh E u λF' H' v g C=>q F' H' v (i.trans g) C
def yQ {a:yK} {g:vp} {f:yT} (y:Yy X (.type T) r) (I:CaD r g) (b:Gl X x) (G:X.mg x=none) (n:bootBuiltins x=some (.type T)) (o:AD X (e::a) f) (w:x≠"__name__":=by decide) (d:(x == ("__debug__":Str))=false:=by decide) (m:starEach (e::a) X.env=(false,eval e X.env)::starEach a X.env:=by rfl) (c:(backTo pos (starEach a X.env)).any (·.1)=false:=by rfl) :
 ED X (.Call (.Name x p) (e::a) [] pos) (eFn g f):=by
 obtain⟨t,A,j⟩:=o
 refine⟨_,zbY y b G n A w d m c,fun σ ρ F H z Q s B e q=>?_⟩
 obtain⟨h,l,u⟩:=u4.mp e
 refine j σ ρ F H h _ s B l λF1 H1 k i E=>?_
 exact I F1 H1 k h z Q i.fh E u λF' H' v g C=>q F' H' v (i.trans g) C
def xk:vp
 | [.lst ds]=>some (.int ds.length)
 | [.tup ds]=>some (.int ds.length)
 | [.scr ds]=>some (.int ds.length)
 | _=>none
def xf:CaD (λb H Q=>∃ p c,b=[.ref p]/\(SqL KK.K H p c\/SqT KK.K H p c)/\Q (.int c.length) H) xk:=by
 intro F H i h z Q s f e q
 unfold xk at e
 split at e <;> cases e
 all_goals
  obtain⟨x,r,rfl,d,g⟩:=f.cons_inv
  cases g.nil_inv
 .obtain⟨p,b,rfl,a,bl⟩:=d.lst_inv
  exact⟨p,b,rfl,.inl (SqL.of (s _ _ a)),by rw[bl.length];exact q F H _ (.refl s) .int⟩
 .obtain⟨p,b,rfl,a,bl⟩:=d.tup_inv
  exact⟨p,b,rfl,.inr (SqT.of (s _ _ a)),by rw[bl.length];exact q F H _ (.refl s) .int⟩
 .obtain⟨p,rfl,a⟩:=d.scr_inv
  exact⟨p,_,rfl,.inl ((s.seq a)),by rw[t1];exact q F H _ (.refl s) .int⟩
def zhf:vp
 | [.int i,.int j]=>some (.int (if j<i then j else i))
 | _=>none
def zdX {g:Int->Int->Int}:CaD (λf H Q=>∃ i j,f=[.int i,.int j]/\Q (.int (g i j)) H) (λb=>match b with | [.int i,.int j]=>some (.int (g i j)) | _=>none):=by
 intro F H k b z Q s c e q
 dsimp only at e
 split at e <;> cases e
 obtain⟨x,r,rfl,h,a⟩:=c.cons_inv
 obtain⟨y,r,rfl,d,a⟩:=a.cons_inv
 cases a.nil_inv
 exact⟨_,_,by rw[h.int_inv,d.int_inv],q F H _ (.refl s) .int⟩
def zd9:CaD (λa H Q=>∃ i j,a=[.int i,.int j]/\Q (.int (if j<i then j else i)) H) zhf:=zdX (g:=λi j=>if j<i then j else i)
def yc:vp
 | [.lst ds]=>some (.tup ds)
 | [.tup ds]=>some (.tup ds)
 | _=>none
def w1:CaD (λa H Q=>∃ p c,a=[.ref p]/\((SqL K H p c/\∀ l,H l=none->Q (.ref l) (upd H l (.tup c)))\/(SqT K H p c/\Q (.ref p) H))) yc:=by
 intro F H k j z Q s f e q
 unfold yc at e
 split at e <;> cases e
 all_goals
  obtain⟨x,r,rfl,d,i⟩:=f.cons_inv
  cases i.nil_inv
 .obtain⟨p,a,rfl,b,bl⟩:=d.lst_inv
  refine⟨p,a,rfl,.inl ⟨SqL.of (s _ _ b),λl h=>?_⟩⟩
  have g:=Gr.alloc s h (.tup a)
  exact q _ _ _ g (.tup zx (bl.mono g.ff))
 .obtain⟨p,a,rfl,b,bl⟩:=d.tup_inv
  exact⟨p,a,rfl,.inr ⟨SqT.of (s _ _ b),q F H _ (.refl s) (.tup b bl)⟩⟩
def wm:zgO
 | [.lst ds]=>some ds
 | [.tup ds]=>some ds
 | [.scr ns]=>some (ns.map .int)
 | _=>none
inductive TyD (K:zu) (H:Hp):V->Value->Prop where
 | of {v:V} {t:Value} (h:zau K H v t):TyD K H v t
 | dd {a:Addr} {u:HO} (h:Rd H a u) (d:(∃ kvs,u=.dK kvs)\/∃ kvs,u=.dT kvs):TyD K H (.ref a) (.type "dict")
def Vd {X:Cx}:Yy X (.builtin "isinstance") (λg H Q=>∃ x n t b,g=[x,.ty n]/\TyD X.K H x t/\W.kitOne X.K t (.type n)=some b/\Q (.bl b) H):=by
 intro f s σ H g A Q I r h
 obtain⟨x,n,t,b,rfl,ty,e,q⟩:=h
 cases ty with
 | of ty=>exact VR f s σ H _ A Q I r ⟨x,n,t,b,rfl,ty,e,q⟩
 | @dd a u h d =>
  cases r with
  | cons l y =>
   cases y with
   | cons w m =>
    cases m
    cases l
    cases w
    have ok:=h.ok I.hok
    rcases d with ⟨c,rfl⟩ | ⟨c,rfl⟩
    .obtain⟨_,_,C,_,p⟩:=(show xI X.prog X.w H s.heap a (.dK c)from ok)
     obtain⟨o,v,B,i,k,_⟩:=p
     exact f7 u08 I.kIn ⟨o,i,k.1⟩ e (λz=>nomatch z) λj=>⟨.bl b,H,I.tok j,rfl,q⟩
    .obtain⟨_,_,g,_,o,v,B,i,k,_⟩:=(show xI X.prog X.w H s.heap a (.dT c)from ok)
     exact f7 u08 I.kIn ⟨o,i,k.1⟩ e (λz=>nomatch z) λj=>⟨.bl b,H,I.tok j,rfl,q⟩
def At.ty (s:yt F H):∀ {d:D} {v:V},At F d v->(∀ ns,d≠.scr ns)->(∀ w e g,d≠.obj w e g)->TyD K H v (.type (tyN d))
 | .non,_,h,_,_=>by cases h.non_inv;exact .of .non
 | .bl b,_,h,_,_=>by cases h.bl_inv;exact .of (.bl b)
 | .int i,_,h,_,_=>by cases h.int_inv;exact .of (.int i)
 | .str x,_,h,_,_=>by cases h.str_inv;exact .of (.str x)
 | .tup ds,_,h,_,_=>by obtain⟨a,j,rfl,e,_⟩:=h.tup_inv;exact .of (.tup (s _ _ e))
 | .lst ds,_,h,_,_=>by obtain⟨a,j,rfl,e,_⟩:=h.lst_inv;exact .of (.lst (s _ _ e))
 | .scr ns,_,_,n,_=>absurd rfl (n ns)
 | .obj w e g,_,_,_,n=>absurd rfl (n w e g)
 | .dct z t ks vs,_,h,_,_=>by
  obtain⟨a,j,rfl,d,_⟩:=h.dct_inv
  obtain⟨u,f,k⟩:=(d.mono s).rd
  exact .dd k (by
   unfold zhA at f
   split at f
   .obtain⟨c,rfl,_⟩:=f;exact .inr ⟨c,rfl⟩
   .obtain⟨c,rfl,_⟩:=f;exact .inl ⟨c,rfl⟩)
inductive Ty where
 | int | bool | tuple | list | str
def Ty.nm:Ty->String
 | .int=>"int" | .bool=>"bool" | .tuple=>"tuple" | .list=>"list" | .str=>"str"
def isT:Ty->D->Bool
 | .int,.int _=>true | .int,.bl _=>true
 | .bool,.bl _=>true
 | .tuple,.tup _=>true
 | .list,.lst _=>true
 | .str,.str _=>true
 | _,_=>false
def yq (n:Ty):D->Option D
 | .scr _=>none
 | .obj _ _ _=>none
 | d=>some (.bl (isT n d))
def ziR (K:zu)(n:Ty)(d:D)(h:∀ ns,d≠.scr ns)(a:∀ w e b,d≠.obj w e b):W.kitOne K (.type (tyN d)) (.type n.nm)=some (isT n d):=by
 cases n <;> cases d <;> first | exact absurd rfl (h _) | exact absurd rfl (a _ _ _) | kernel_rfl
def Y6 {f:ya} (n:Ty) (g:Gl X "isinstance") (E:X.mg "isinstance"=none) (u:ED X a f) (y:PE X b (tC (.ty n.nm))) (k:starEach [a,b] X.env=(false,eval a X.env)::starEach [b] X.env:=by rfl) (i:starEach [b] X.env=(false,eval b X.env)::starEach [] X.env:=by rfl) (j:(backTo pos (starEach [b] X.env)).any (·.1)=false:=by rfl) :
 ED X (.Call (.Name "isinstance" p) [a,b] [] pos) (eUn (yq n) f):=by
 obtain⟨t,x,o⟩:=u
 refine⟨_,yJ Vd g E zF (zy x (zy y yR i) k) (by decide) (by decide) k j,fun σ ρ F H z Q s B e q=>?_⟩
 obtain⟨d,r,c⟩:=u4.mp e
 refine o σ ρ F H d _ s B r λF1 H1 v m C=>?_
 have ns:∀ ns,d≠.scr ns:=λns h=>by subst h;cases c
 have no:∀ w e l,d≠.obj w e l:=λw e l h=>by subst h;cases c
 have A:z=.bl (isT n d):=by
  cases d <;> first | exact(o6 c).symm | exact absurd rfl (ns _) | exact absurd rfl (no _ _ _)
 subst A
 exact⟨v,n.nm,_,_,rfl,C.ty m.fh ns no,ziR _ n d ns no,q F1 H1 _ m .bl⟩
def vR (m:Bool)(i:Nat)(f:ya):zU:=fun ρ=>match (vEv m f ρ).bind λd=>match ρ[i]? with
 | some (.o ds)=>if decide (ds.length<sizeLine)=true then some (ρ.set i (.o (ds++[d])))else none
 | _=>none with
 | some ρ'=>.nx ρ'
 | none=>.no
def zaN {b:Pos} {f:ya} (J:PE X a (zao i)) (C:ED X e f) (hp:∀ {A:TE} {t:TA},PE X a A->PA X [e] t->PE X (.Call (.Attribute a "append" p) [e] [] b) (tBM X.K "list" zdf A t)) (u:swapsWith (.Call (.Attribute a "append" p) [e] [] b) none pos.line X.env=pure false:=by rfl) (j:starEach [e] X.env=(false,eval e X.env)::starEach [] X.env:=by rfl):SD X (.Expr (.Call (.Attribute a "append" p) [e] [] b) pos) (vR m i f):=by
 obtain⟨t,O,K⟩:=C
 refine⟨_,zf8 (hp J (zy O yR j)) u,λFb Hb F H ρ σ E z k=>?_⟩
 unfold vR at k
 cases h:(vEv m f ρ).bind λd=>match ρ[i]? with
  | some (.o n)=>if decide (n.length<sizeLine)=true then some (ρ.set i (.o (n++[d])))else none
  | _=>none with
 | none=>rw[h]at k;exact k.elim
 | some S =>
  rw[h]at k
  obtain⟨d,B,c⟩:=u4.mp h
  cases j:ρ[i]? with
  | none=>rw[j]at c;cases c
  | some M =>
   rw[j]at c
   cases M with
   | no=>cases c
   | v _=>cases c
   | m _ _ _=>cases c
   | k _ _ _=>cases c
   | o n =>
    dsimp only at c
    split at c <;> cases c
    rename_i N
    obtain⟨q,G,x,R,T,I,Q⟩:=z.owns i n j
    refine⟨_,x,.inl ⟨rfl,G,SqL.of I⟩,?_⟩
    refine K.at z B λF' H' v g L=>?_
    have l:=z.grow g
    obtain⟨P,y,r,_,_,w,s⟩:=l.owns i n j
    rw[x]at r
    cases r
    refine⟨q,y,v,rfl,rfl,w,by rw[s.length];exact t6 N,?_⟩
    exact k _ _ σ (l.mutate j x (s.snoc L))
def ZR (i:Nat)(f:ya):zU:=fun ρ=>match (f (visF ρ)).bind λd=>match ρ[i]?,d with
 | some (.o ds),.lst es=>if lim (ds.length+es.length)=true then some (ρ.set i (.o (ds++es)))else none
 | _,_=>none with
 | some ρ'=>.nx ρ'
 | none=>.no
end
end Dl
namespace Dl
open PySem L2
variable [KK]
def okE:Nat->D->Bool
 | _,.scr _=>false
 | _,.dct _ _ _ _=>false
 | _,.obj _ _ _=>false
 | 0,.tup _=>false
 | 0,.lst _=>false
 | n+1,.tup ds=>ds.all (okE n)
 | n+1,.lst ds=>ds.all (okE n)
 | _,_=>true
def eqN:Nat->D->D->Bool
 | _,.non,.non=>true
 | _,.bl a,.bl b=>a == b
 | _,.bl a,.int b=>(if a then 1 else 0) == b
 | _,.int a,.bl b=>a == (if b then 1 else 0)
 | _,.int a,.int b=>a == b
 | _,.str a,.str b=>a == b
 | n+1,.tup a,.tup b=>(List.zipWith (eqN n) a b).all id&&a.length == b.length
 | n+1,.lst a,.lst b=>(List.zipWith (eqN n) a b).all id&&a.length == b.length
 | _,_,_=>false
omit [KK] in
def WM:∀ (a b:zo),(List.zipWith (eqN n) a b).all id=(List.range (min a.length b.length)).all λj=>eqN n (a.getD j .non) (b.getD j .non):=by
 intro a b
 have:List.zipWith (eqN n) a b=(List.range (min a.length b.length)).map λj=>eqN n (a.getD j .non) (b.getD j .non):=by
  apply List.ext_getElem
  .simp
  .intro i c d
   simp at c d
   have e:i<a.length:=j3 c (Nat.min_le_left _ _)
   have g2:i<b.length:=j3 c (Nat.min_le_right _ _)
   simp[e,g2]
 rw[this,u0D]
 rfl
omit [KK] in
def vOf:D->V
 | .bl b=>.bl b
 | .int i=>.int i
 | .str t=>.str t
 | _=>.non
def wa (h:okE 0 d=true)(a:At F d x):x=vOf d:=by
 cases d with
 | non=>exact a.non_inv
 | bl b=>exact a.bl_inv
 | int b=>exact a.int_inv
 | str b=>exact a.str_inv
 | _=>cases h
omit [KK] in
def ZZ (h:okE 0 d=true):zgv (vOf d)=true:=by
 cases d <;> first | rfl | cases h
omit [KK] in
def Wo (h:okE 0 d=true)(e:vOf d=.ref p):False:=by
 cases d <;> first | (cases h;done) | (cases e;done)
def dOfV:V->D
 | .bl b=>.bl b
 | .int i=>.int i
 | .str t=>.str t
 | _=>.non
omit [KK] in
def zcC (h:okE 0 d=true):dOfV (vOf d)=d:=by
 cases d <;> first | rfl | (cases h;done)
omit [KK] in
def zdu (a:okE 0 d=true)(b:okE 0 e=true)(h:vOf d=vOf e):d=e:=by
 rw[<-zcC a,h,zcC b]
omit [KK] in
def x3 {n:Nat}(h:okE (n+1) d=true):okE 0 d=true\/(∃ a,d=.tup a/\a.all (okE n)=true)\/∃ a,d=.lst a/\a.all (okE n)=true:=by
 cases d with
 | tup a=>exact .inr (.inl ⟨a,rfl,h⟩)
 | lst a=>exact .inr (.inr ⟨a,rfl,h⟩)
 | scr _=>cases h
 | dct _ _ _ _=>cases h
 | obj _ _ _=>cases h
 | _=>exact .inl rfl
def zbZ (p:∀ {d e:D} {v:V},okE n d=true->okE n e=true->At F d v->At F e v->d=e):∀ {c:zz} {a b:zo},a.all (okE n)=true->b.all (okE n)=true->AtL F a c->AtL F b c->a=b:=by
 intro c
 induction c with
 | nil =>
  intro a b _ _ f g
  exact(i7.mp f.length.symm).trans (i7.mp g.length.symm).symm
 | cons x c j =>
  intro a b h i f g
  cases a with
  | nil=>cases f.nil_inv
  | cons d a=>cases b with
   | nil=>cases g.nil_inv
   | cons e b =>
    obtain⟨y,r,m,b1,l⟩:=f.cons_inv
    obtain⟨s,q,o,b2,k⟩:=g.cons_inv
    cases m
    cases o
    rw[u1p,t5]at h i
    rw[j h.2 i.2 l k,p h.1 i.1 b1 b2]
def zfW:∀ (n:Nat) {d e:D} {v:V},okE n d=true->okE n e=true->At F d v->At F e v->d=e:=by
 intro n
 induction n with
 | zero =>
  intro d e v m h k b
  exact zdu m h ((wa m k).symm.trans (wa h b))
 | succ n x =>
  intro d e v m h k b
  rcases x3 m with o | ⟨y,rfl,r⟩ | ⟨y,rfl,r⟩
  .have a:=wa o k
   rcases x3 h with c | ⟨l,rfl,_⟩ | ⟨l,rfl,_⟩
   .exact zdu o c (a.symm.trans (wa c b))
   .obtain⟨p,w,u,_⟩:=b.tup_inv
    exact(Wo o (a.symm.trans u)).elim
   .obtain⟨p,w,u,_⟩:=b.lst_inv
    exact(Wo o (a.symm.trans u)).elim
  .obtain⟨p,w,f,j,s⟩:=k.tup_inv
   rcases x3 h with c | ⟨l,rfl,i⟩ | ⟨l,rfl,i⟩
   .exact(Wo c ((wa c b).symm.trans f)).elim
   .obtain⟨q,t,a,g,bl⟩:=b.tup_inv
    cases f.symm.trans a
    cases j.symm.trans g
    rw[zbZ x r i s bl]
   .obtain⟨q,t,a,g,bl⟩:=b.lst_inv
    cases f.symm.trans a
    cases j.symm.trans g
  .obtain⟨p,w,f,j,s⟩:=k.lst_inv
   rcases x3 h with c | ⟨l,rfl,i⟩ | ⟨l,rfl,i⟩
   .exact(Wo c ((wa c b).symm.trans f)).elim
   .obtain⟨q,t,a,g,bl⟩:=b.tup_inv
    cases f.symm.trans a
    cases j.symm.trans g
   .obtain⟨q,t,a,g,bl⟩:=b.lst_inv
    cases f.symm.trans a
    cases j.symm.trans g
    rw[zbZ x r i s bl]
omit [KK] in
def zfc:∀ (n:Nat) {d:D},okE n d=true->eqN n d d=true:=by
 intro n
 induction n with
 | zero =>
  intro d h
  cases d with
  | tup _=>cases h
  | lst _=>cases h
  | scr _=>cases h
  | dct _ _ _ _=>cases h
  | obj _ _ _=>cases h
  | _=>first | rfl | exact u8 rfl | exact u0K _
 | succ n e =>
  have b:∀ {a:zo},a.all (okE n)=true->(List.zipWith (eqN n) a a).all id=true:=by
   intro a
   induction a with
   | nil=>intro _;rfl
   | cons d a c =>
    intro h
    rw[u1p,t5]at h
    rw[List.zipWith_cons_cons,u1p,c h.2,Bool.and_true]
    exact e h.1
  intro d h
  cases d with
  | tup a=>show((List.zipWith (eqN n) a a).all id&&a.length == a.length)=true;rw[b h];simp
  | lst a=>show((List.zipWith (eqN n) a a).all id&&a.length == a.length)=true;rw[b h];simp
  | scr _=>cases h
  | dct _ _ _ _=>cases h
  | obj _ _ _=>cases h
  | _=>first | rfl | exact u8 rfl | exact u0K _
def zfR (n:Nat)(b:okE n d=true)(a:okE n e=true)(f:At F d v)(c:At F e v):eqN n d e=true:=by
 rw[zfW n b a f c]
 exact zfc n a
omit [KK] in
def wf {a:zo}{j:Nat}(h:a.all (okE n)=true)(b:j<a.length):okE n (a.getD j .non)=true:=by
 have:a.getD j .non=a[j]:=by simp[b]
 rw[this]
 exact k7.mp h _ (u14 b)
def AtL.nth {a:zo}{f:zz}{b:zH}{j:Nat}(c:AtL F a f)(r:yU f b)(h:j<b.length):∃ x,At F (a.getD j .non) x/\xW x b[j]:=by
 have o:=c.length
 have m:=r.length
 have e:j<a.length:=by omega
 obtain⟨x,n,g⟩:=c.get (i:=j) (d:=a[j]) (by simp[e])
 obtain⟨u,k,l⟩:=r.get n
 refine⟨x,by rw[show a.getD j .non=a[j] by simp[e]];exact g,?_⟩
 have:b[j]?=some b[j]:=by simp[h]
 rw[k]at this
 cases this
 exact l
omit [KK] in
def zat (a:okE 0 d=true)(b:okE 0 e=true):eqN n d e=eqV (vOf d) (vOf e):=by
 cases n <;> cases d <;> first | (cases a;done) | skip
 all_goals cases e <;> first | (cases b;done) | rfl
omit [KK] in
def zaX {n:Nat}(a:zo)(h:okE 0 d=true):eqN (n+1) d (.tup a)=false/\eqN (n+1) d (.lst a)=false/\eqN (n+1) (.tup a) d=false/\eqN (n+1) (.lst a) d=false:=by
 cases d <;> first | exact⟨rfl,rfl,rfl,rfl⟩ | cases h
omit [KK] in
def Wl {A:z5}{s:zi}(h:okE 0 d=true)(r:xW (vOf d) u)(c:A.units<cLine) :
 (s.heap.IsTuple p e->SeqAt.EqAt A s u (.ref p) false/\SeqAt.EqAt A s (.ref p) u false)/\(s.heap.IsList p e->SeqAt.EqAt A s u (.ref p) false/\SeqAt.EqAt A s (.ref p) u false):=by
 cases d with
 | non=>cases r;exact⟨λa=>⟨.none_tuple a c,.tuple_none a c⟩,λa=>⟨.none_list a c,.list_none a c⟩⟩
 | bl b=>cases r;exact⟨λa=>⟨.bool_tuple b a c,.tuple_bool b a c⟩,λa=>⟨.bool_list b a c,.list_bool b a c⟩⟩
 | int b=>obtain⟨t,rfl⟩:=r;exact⟨λa=>⟨.int_tuple b t a c,.tuple_int b t a c⟩,λa=>⟨.int_list b t a c,.list_int b t a c⟩⟩
 | str b=>obtain⟨t,rfl⟩:=r;exact⟨λa=>⟨.str_tuple b t a c,.tuple_str b t a c⟩,λa=>⟨.str_list b t a c,.list_str b t a c⟩⟩
 | _=>cases h
def Wj {s:zi}(I:Inv X c σ H s)(j:yt F H)(a:At F (.tup e) x)(r:xW x u):∃ p b d,u=.ref p/\x=.ref p/\yU d b/\AtL F e d/\s.heap.IsTuple p b.toArray:=by
 obtain⟨p,d,rfl,h,f⟩:=a.tup_inv
 cases r
 obtain⟨b,g,i,k⟩:=I.tuple (SqT.of (j _ _ h))
 exact⟨p,b,d,rfl,rfl,g,f,i⟩
def X8 {s:zi}(I:Inv X c σ H s)(j:yt F H)(a:At F (.lst e) x)(r:xW x u):∃ p b d,u=.ref p/\x=.ref p/\yU d b/\AtL F e d/\s.heap.IsList p b.toArray:=by
 obtain⟨p,d,rfl,h,f⟩:=a.lst_inv
 cases r
 obtain⟨b,g,i,k⟩:=I.list (SqL.of (j _ _ h))
 exact⟨p,b,d,rfl,rfl,g,f,i.isList⟩
omit [KK] in
def zcf (b a:zo):((List.zipWith (eqN n) b a).all id&&b.length == a.length)=((List.range (min b.length a.length)).all (λj=>eqN n (b.getD j .non) (a.getD j .non))&&b.length == a.length):=by rw[WM]
def Vi (I:Inv X S σ H s)(C:yt F H):∀ (n:Nat) {A:z5} {d e:D} {x y:V} {u v:Value},okE n d=true->okE n e=true->At F d x->At F e y->xW x u->xW y v->A.units+n<cLine->SeqAt.EqAt A s u v (eqN n d e):=by
 intro n
 induction n with
 | zero =>
  intro A d e x y u v J w z h E r W
  cases wa J z
  cases wa w h
  rw[zat J w]
  exact zft E r (ZZ J) (ZZ w)
 | succ n ih =>
  intro A d e x y u v J w z h E r W
  have c:A.units<cLine:=p4 (g8 _ _) W
  have P:A.units+1+n<cLine:=by rw[Nat.add_assoc,Nat.add_comm 1 n];exact W
  rcases x3 J with K | ⟨l,rfl,k1⟩ | ⟨l,rfl,k1⟩
  .cases wa K z
   rcases x3 w with o | ⟨f,rfl,L⟩ | ⟨f,rfl,L⟩
   .cases wa o h
    rw[zat K o]
    exact zft E r (ZZ K) (ZZ o)
   .obtain⟨q,b,R,rfl,_,_,_,a⟩:=Wj I C h r
    rw[(zaX f K).1]
    exact((Wl K E c).1 a).1
   .obtain⟨q,b,R,rfl,_,_,_,a⟩:=X8 I C h r
    rw[(zaX f K).2.1]
    exact((Wl K E c).2 a).1
  .obtain⟨p,N,xs,rfl,M,O,Q,B⟩:=Wj I C z E
   rcases x3 w with o | ⟨f,rfl,L⟩ | ⟨f,rfl,L⟩
   .cases wa o h
    rw[(zaX l o).2.2.1]
    exact((Wl o r c).1 B).2
   .obtain⟨q,b,R,rfl,G,m,bl,a⟩:=Wj I C h r
    by_cases i:p=q
    .subst i
     rw[M]at z
     rw[G]at h
     rw[zfR (n+1) J w z h]
     exact .same _
    .have g:N.toArray.size=l.length:=by rw[q7,<- O.length,Q.length]
     have k:b.toArray.size=f.length:=by rw[q7,<- m.length,bl.length]
     have:=SeqAt.RcAt.tuples (A:=A) (e:=λj=>eqN n (l.getD j .non) (f.getD j .non)) B a c λj T g2=>by
      obtain⟨x',ax,Y⟩:=Q.nth O (j:=j) T
      obtain⟨y',Z,U⟩:=bl.nth m (j:=j) g2
      exact ih (wf k1 (g ▸ T)) (wf L (k ▸ g2)) ax Z Y U P
     rw[g,k]at this
     rw[show eqN (n+1) (.tup l) (.tup f)=_ from zcf l f]
     exact u1L i this
   .obtain⟨q,b,R,rfl,_,_,_,a⟩:=X8 I C h r
    exact .tuple_list B a c
  .obtain⟨p,N,xs,rfl,M,O,Q,B⟩:=X8 I C z E
   rcases x3 w with o | ⟨f,rfl,L⟩ | ⟨f,rfl,L⟩
   .cases wa o h
    rw[(zaX l o).2.2.2]
    exact((Wl o r c).2 B).2
   .obtain⟨q,b,R,rfl,_,_,_,a⟩:=Wj I C h r
    exact .list_tuple B a c
   .obtain⟨q,b,R,rfl,G,m,bl,a⟩:=X8 I C h r
    by_cases i:p=q
    .subst i
     rw[M]at z
     rw[G]at h
     rw[zfR (n+1) J w z h]
     exact .same _
    .have g:N.toArray.size=l.length:=by rw[q7,<- O.length,Q.length]
     have k:b.toArray.size=f.length:=by rw[q7,<- m.length,bl.length]
     rw[show eqN (n+1) (.lst l) (.lst f)=_ from zcf l f]
     by_cases t:l.length=f.length
     .have:=SeqAt.RcAt.lists (A:=A) (e:=λj=>eqN n (l.getD j .non) (f.getD j .non)) B a (by rw[g,k,t]) c λj T g2=>by
       obtain⟨x',ax,Y⟩:=Q.nth O (j:=j) T
       obtain⟨y',Z,U⟩:=bl.nth m (j:=j) g2
       exact ih (wf k1 (g ▸ T)) (wf L (k ▸ g2)) ax Z Y U P
      rw[g]at this
      rw[<-t,Nat.min_self,u0K,Bool.and_true]
      exact u1L i this
     .have:=SeqAt.RcAt.lists_lengths (A:=A) B a (by rw[g,k];exact bne_iff_ne.mpr t) c
      rw[u0b.mpr t,u0y]
      exact u1L i this
def zgX (d:D)(a:zo):Option Bool:=if okE 20 d=true/\a.all (okE 20)=true then some (a.any λe=>eqN 20 e d)else none
def inD (d e:D):Option D:=(yY e).bind λa=>(zgX d a).map .bl
def XY (d e:D):Option D:=(yY e).bind λa=>(zgX d a).map λb=>.bl (!b)
open Classical in
noncomputable def Vc (F:Hp)(d:D)(u:Value):Bool:=decide (∃ a x,At F a x/\xW x u/\okE 20 a=true/\eqN 20 a d=true)
open Classical in
def VS (a:At F b x)(r:xW x u)(k:okE 20 b=true):Vc F d u=eqN 20 b d:=by
 unfold Vc
 cases h:eqN 20 b d with
 | true=>exact u8 ⟨b,x,a,r,k,h⟩
 | false =>
  refine u7 ?_
  rintro⟨j,y,i,f,g,c⟩
  have e:=f.inj r
  subst e
  rw[zfW 20 g k i a]at c
  rw[c]at h
  cases h
def YI:∀ {a:zo} {b:zz} {c:zH},AtL F a b->yU b c->a.all (okE 20)=true->c.any (Vc F d)=a.any λe=>eqN 20 e d
 | [],_,_,al,r,_=>by cases al.nil_inv;cases r;rfl
 | e::a,_,_,al,r,k=>by
  obtain⟨x,b,rfl,g,h⟩:=al.cons_inv
  cases r with
  | cons f i =>
   rw[u1p,t5]at k
   rw[List.any_cons,List.any_cons,VS g f k.1,YI h i k.2]
section
variable {X:Cx}
def zjC (neg:Bool):R2:=λx y H Q=>∃ F d e a b,yt F H/\At F d x/\At F e y/\yY e=some a/\zgX d a=some b/\Q (.bl (if neg then !b else b)) H
def zh2 (P:wF k X.A):OpR X (compareOp .In) (zjC false):=by
 intro G s σ H x y v u Q I M C h
 obtain⟨F,d,e,D,b,B,O,J,N,w,q⟩:=h
 unfold zgX at w
 split at w <;> cases w
 rename_i m
 have L:X.A.in1.units+20<cLine:=by have:=P.un;show X.A.units+1+20<cLine;omega
 have g:∀ {i:zz} {A:zH},AtL F D i->yU i A->∀ z∈A,SeqAt.EqAt X.A.in1 s z v (Vc F d z):=λ{i A} c r z f=>by
  obtain⟨j,R,rfl⟩:=u1v f
  obtain⟨S,K,l⟩:=c.nth r R
  have t:j<D.length:=by have:=c.length;have:=r.length;omega
  have E:=wf m.2 t
  rw[VS K l E]
  exact Vi I B 20 E m.1 K O l M L
 cases e <;> cases N
 .obtain⟨p,i,rfl,o,c⟩:=J.tup_inv
  cases C
  obtain⟨a,r,n,f⟩:=I.tuple (SqT.of (B _ _ o))
  refine SeqAt.in_tupleAt (Vc F d) n (λz f=>g c r z (by simpa using f)) ⟨.bl _,H,I,rfl,?_⟩
  rw[show a.toArray.any (Vc F d)=a.any (Vc F d) by simp,YI c r m.2]
  exact q
 .obtain⟨p,i,rfl,o,c⟩:=J.lst_inv
  cases C
  obtain⟨a,r,n,f⟩:=I.list (SqL.of (B _ _ o))
  refine SeqAt.in_listAt (Vc F d) n.isList (λz f=>g c r z (by simpa using f)) ⟨.bl _,H,I,rfl,?_⟩
  rw[show a.toArray.any (Vc F d)=a.any (Vc F d) by simp,YI c r m.2]
  exact q
def zda (P:wF k X.A):OpR X (compareOp .NotIn) (zjC true):=by
 intro G s σ H x y v u Q I M C h
 obtain⟨F,d,e,D,b,B,O,J,N,w,q⟩:=h
 unfold zgX at w
 split at w <;> cases w
 rename_i m
 have L:X.A.in1.units+20<cLine:=by have:=P.un;show X.A.units+1+20<cLine;omega
 have g:∀ {i:zz} {A:zH},AtL F D i->yU i A->∀ z∈A,SeqAt.EqAt X.A.in1 s z v (Vc F d z):=λ{i A} c r z f=>by
  obtain⟨j,R,rfl⟩:=u1v f
  obtain⟨S,K,l⟩:=c.nth r R
  have t:j<D.length:=by have:=c.length;have:=r.length;omega
  have E:=wf m.2 t
  rw[VS K l E]
  exact Vi I B 20 E m.1 K O l M L
 cases e <;> cases N
 .obtain⟨p,i,rfl,o,c⟩:=J.tup_inv
  cases C
  obtain⟨a,r,n,f⟩:=I.tuple (SqT.of (B _ _ o))
  refine SeqAt.notIn_tupleAt (Vc F d) n (λz f=>g c r z (by simpa using f)) ⟨.bl _,H,I,rfl,?_⟩
  rw[show a.toArray.any (Vc F d)=a.any (Vc F d) by simp,YI c r m.2]
  exact q
 .obtain⟨p,i,rfl,o,c⟩:=J.lst_inv
  cases C
  obtain⟨a,r,n,f⟩:=I.list (SqL.of (B _ _ o))
  refine SeqAt.notIn_listAt (Vc F d) n.isList (λz f=>g c r z (by simpa using f)) ⟨.bl _,H,I,rfl,?_⟩
  rw[show a.toArray.any (Vc F d)=a.any (Vc F d) by simp,YI c r m.2]
  exact q
def zhF:OpD (zjC false) inD:=by
 intro F H x y d e z Q s j i h q
 obtain⟨f,c,g⟩:=u4.mp h
 obtain⟨b,a,rfl⟩:=t0.mp g
 exact⟨F,d,e,f,b,s,j,i,c,a,q F H _ (.refl s) .bl⟩
def zdH:OpD (zjC true) XY:=by
 intro F H x y d e z Q s j i h q
 obtain⟨f,c,g⟩:=u4.mp h
 obtain⟨b,a,rfl⟩:=t0.mp g
 exact⟨F,d,e,f,b,s,j,i,c,a,q F H _ (.refl s) .bl⟩
def eqG (d e:D):Option Bool:=match d,e with
 | .tup _,.tup _=>if okE 20 d=true/\okE 20 e=true then some (eqN 20 d e)else none
 | .lst _,.lst _=>if okE 20 d=true/\okE 20 e=true then some (eqN 20 d e)else none
 | _,_=>eqS d e
def vL (d e:D):Option D:=(eqG d e).map .bl
def zjv:R2:=λx y H Q=>∃ F d e,yt F H/\At F d x/\At F e y/\((∃ b a,d=.tup b/\e=.tup a)\/(∃ b a,d=.lst b/\e=.lst a))/\okE 20 d=true/\okE 20 e=true/\Q (.bl (eqN 20 d e)) H
def zjn (hr:wF k X.A):OpR X (compareOp .Eq) zjv:=by
 intro R s σ H x y v u Q I o n h
 obtain⟨F,d,e,t,O,S,V,M,N,q⟩:=h
 have B:X.A.units+30<cLine:=by have:=hr.un;omega
 rcases V with ⟨c,f,rfl,rfl⟩ | ⟨c,f,rfl,rfl⟩
 .obtain⟨p,U,rfl,D,z⟩:=O.tup_inv
  obtain⟨P,Y,rfl,E,bl⟩:=S.tup_inv
  cases o
  cases n
  obtain⟨m,r,C,W⟩:=I.tuple (SqT.of (t _ _ D))
  obtain⟨b,w,i,J⟩:=I.tuple (SqT.of (t _ _ E))
  have a:m.toArray.size=c.length:=by rw[q7,<- r.length,z.length]
  have g:b.toArray.size=f.length:=by rw[q7,<- w.length,bl.length]
  refine SeqAt.eq_tupleAt (e:=λj=>eqN 19 (c.getD j .non) (f.getD j .non)) (show s.heap.IsTuple p m.toArray from C) (show s.heap.IsTuple P b.toArray from i) (by omega) (λj A g2=>?_) ⟨.bl _,H,I,rfl,?_⟩
  .obtain⟨T,K,o⟩:=z.nth r (j:=j) (by simpa using A)
   obtain⟨Z,G,n⟩:=bl.nth w (j:=j) (by simpa using g2)
   exact Vi I t 19 (wf M (by rw[<-a];exact A)) (wf N (by rw[<-g];exact g2)) K G (by simpa using o) (by simpa using n) (p4 (show X.A.units+20<=X.A.units+30 from u1w (by decide) _) B)
  .rw[a,g,<- WM]
   exact q
 .obtain⟨p,U,rfl,D,z⟩:=O.lst_inv
  obtain⟨P,Y,rfl,E,bl⟩:=S.lst_inv
  cases o
  cases n
  obtain⟨m,r,C,W⟩:=I.list (SqL.of (t _ _ D))
  obtain⟨b,w,i,J⟩:=I.list (SqL.of (t _ _ E))
  have a:m.toArray.size=c.length:=by rw[q7,<- r.length,z.length]
  have g:b.toArray.size=f.length:=by rw[q7,<- w.length,bl.length]
  have L:eqN 20 (.lst c) (.lst f)=((List.range (min c.length f.length)).all (λj=>eqN 19 (c.getD j .non) (f.getD j .non))&&c.length == f.length):=by
   show((List.zipWith (eqN 19) c f).all id&&c.length == f.length)=_
   rw[WM]
  by_cases l:c.length=f.length
  .refine SeqAt.eq_listAt (e:=λj=>eqN 19 (c.getD j .non) (f.getD j .non)) C.isList i.isList (by rw[a,g];exact l) (p4 (g8 _ 30) B) (λj A g2=>?_) ⟨.bl _,H,I,rfl,?_⟩
   .obtain⟨T,K,o⟩:=z.nth r (j:=j) (by simpa using A)
    obtain⟨Z,G,n⟩:=bl.nth w (j:=j) (by simpa using g2)
    exact Vi I t 19 (wf M (by rw[<-a];exact A)) (wf N (by rw[<-g];exact g2)) K G (by simpa using o) (by simpa using n) (p4 (show X.A.units+20<=X.A.units+30 from u1w (by decide) _) B)
   .rw[a]
    rw[L,<- l,Nat.min_self]at q
    simpa using q
  .refine SeqAt.eq_list_lengthsAt C.isList i.isList (by rw[a,g];simpa using l) (p4 (g8 _ 30) B) ⟨.bl _,H,I,rfl,?_⟩
   have:(c.length == f.length)=false:=by simpa using l
   rw[L,this,u0y]at q
   exact q
def zgw:OpD zjv (λd e=>match d,e with
 | .tup _,.tup _=>if okE 20 d=true/\okE 20 e=true then some (.bl (eqN 20 d e))else none
 | .lst _,.lst _=>if okE 20 d=true/\okE 20 e=true then some (.bl (eqN 20 d e))else none
 | _,_=>none):=by
 intro F H x y d e z Q s f c a q
 dsimp only at a
 split at a
 .split at a <;> cases a
  rename_i b
  exact⟨F,_,_,s,f,c,.inl ⟨_,_,rfl,rfl⟩,b.1,b.2,q F H _ (.refl s) .bl⟩
 .split at a <;> cases a
  rename_i b
  exact⟨F,_,_,s,f,c,.inr ⟨_,_,rfl,rfl⟩,b.1,b.2,q F H _ (.refl s) .bl⟩
 .cases a
def Y5 (a:wF k X.A):OpR X (compareOp .Eq) (λx y H Q=>rEq x y H Q\/zjv x y H Q):=ziN.or (zjn a)
def vB:OpD (λx y H Q=>rEq x y H Q\/zjv x y H Q) vL:=by
 refine V9 (Vj zfV zgw) λd e z h=>?_
 obtain⟨b,a,rfl⟩:=t0.mp h
 unfold eqG at a
 split at a
 .split at a <;> cases a
  rename_i c
  show(Option.or none (if okE 20 _=true/\okE 20 _=true then some (D.bl (eqN 20 _ _))else none))=_
  rw[j0 c]
  rfl
 .split at a <;> cases a
  rename_i c
  show(Option.or none (if okE 20 _=true/\okE 20 _=true then some (D.bl (eqN 20 _ _))else none))=_
  rw[j0 c]
  rfl
 .show((eqD d e).or _)=_
  unfold eqD
  rw[a]
  rfl
def zav {A:z5}{Q:xa}(I:Inv X d σ H s)(y:A.handled=none)(h:SqL X.K H a t\/SqT X.K H a t) (k:∀ (C:Addr) (c:zH) (D B:xw) (St:Nat->Heap->Prop) (f:zi),yU t c->Walks X.prog X.w A C D B c.length (λi v=>c[i]?=some v) St->St 0 f.heap->(∀ b∈D,b<f.heap.objs.size) ->
 (∀ (l:Heap) (q:Nat),(∀ b o,b∉B->f.heap.get? b=some o->l.get? b=some o)->Inv X d σ H { f with heap:=l,toks:=q })->Q (.ref C) f) :
 wpAny (model X.prog X.w) A (pyIter (.ref a)) Q E s:=by
 have g:∀ {o:Obj} {f:zi},f={ s with heap:=s.heap.push o }->∀ (l:Heap) (q:Nat),(∀ b u,b∉[s.heap.objs.size]->f.heap.get? b=some u->l.get? b=some u)->Inv X d σ H { f with heap:=l,toks:=q }:=λ{o f} e l q kk=>by
  subst e
  exact I.kept (t':=q) λb u z=>kk b u (by simpa using j5 (t8 z)) (u6 _ z)
 rcases h with h | h
 .obtain⟨c,r,p,G⟩:=I.list h
  have m:a<s.heap.objs.size:=by obtain⟨o,n,x,_⟩:=p;exact t8 x
  refine p8 p.isList ?_
  have W:=Walks.list (prog:=X.prog) (w:=X.w) (A:=A) y s.heap.objs.size a (j5 m) c.toArray
  refine k s.heap.objs.size c [s.heap.objs.size,a] [s.heap.objs.size] (λi h=>h.IsListIter s.heap.objs.size a i/\h.IsList a c.toArray) _ r (by simpa using W) ⟨⟨_,j4 _ rfl,rfl,rfl⟩,p.isList.at λo e=>u6 _ e⟩ (λb j=>?_) (g rfl)
  show b<(s.heap.push _).objs.size
  rw[g6]
  rcases q3.mp j with rfl | j
  .exact u1i _
  .rw[t2.mp j];exact i9 m
 .obtain⟨c,r,p,G⟩:=I.tuple h
  have F:s.heap.IsTuple a c.toArray:=p
  have m:a<s.heap.objs.size:=by obtain⟨o,x,_⟩:=p;exact t8 x
  refine p5 F ?_
  have W:=Walks.tuple (prog:=X.prog) (w:=X.w) (A:=A) y s.heap.objs.size a (j5 m) c.toArray
  refine k s.heap.objs.size c [s.heap.objs.size,a] [s.heap.objs.size] (λi h=>h.IsTupleIter s.heap.objs.size a i/\h.IsTuple a c.toArray) _ r (by simpa using W) ⟨⟨_,j4 _ rfl,rfl,rfl⟩,F.at λo e=>u6 _ e⟩ (λb j=>?_) (g rfl)
  show b<(s.heap.push _).objs.size
  rw[g6]
  rcases q3.mp j with rfl | j
  .exact u1i _
  .rw[t2.mp j];exact i9 m
end
end Dl
namespace Dl
open PySem L2
variable [KK]
omit [KK] in
def zcR {a:List Bool}:(List.range a.length).all (λi=>a.getD i false)=a.all id:=by
 have:a=(List.range a.length).map λi=>a.getD i false:=by
  apply List.ext_getElem
  .simp
  .intro i b c
   simp[b]
 conv=>rhs;rw[this]
 rw[u0D]
 rfl
omit [KK] in
def zb5:∀ (ns:zB) (n:Nat),n<=ns.length->preSum (λi=>ns.getD i 0) n=(ns.take n).sum:=by
 intro ns n
 induction n with
 | zero=>intro _;simp[preSum]
 | succ n a =>
  intro h
  show preSum (λi=>ns.getD i 0) n+ns.getD n 0=_
  rw[a (by omega),List.take_succ,List.sum_append]
  have:ns[n]?=some ns[n]:=by simp[show n<ns.length by omega]
  simp[this]
section
variable {X:Cx}
omit [KK] in
def zgn {b:List Bool}{i:Nat}(r:yU (b.map V.bl) a)(h:a[i]?=some v):v=.bool (b.getD i false):=by
 have e:=r.length
 have f:i<a.length:=(q4.mp h).1
 rw[t1]at e
 obtain⟨u,c,d⟩:=r.get (i:=i) (x:=.bl (b[i]'(by omega))) (by rw[j7];simp[show i<b.length by omega])
 rw[h]at c
 cases c
 cases d
 simp[show i<b.length by omega]
omit [KK] in
def zes {ns:zB}{i:Nat}(r:yU (ns.map V.int) a)(h:a[i]?=some v):∃ t,v=.int (ns.getD i 0) t:=by
 have d:=r.length
 have e:i<a.length:=(q4.mp h).1
 rw[t1]at d
 obtain⟨u,b,c⟩:=r.get (i:=i) (x:=.int (ns[i]'(by omega))) (by rw[j7];simp[show i<ns.length by omega])
 rw[h]at b
 cases b
 obtain⟨t,rfl⟩:=c
 exact⟨t,by simp[show i<ns.length by omega]⟩
def WV (n:X.calm=true):Yy X (.builtin "all") (λd H Q=>∃ (p:Addr) (a:List Bool),d=[.ref p]/\(SqL X.K H p (a.map V.bl)\/SqT X.K H p (a.map V.bl))/\Q (.bl (a.all id)) H):=by
 intro e s σ H d C Q I r h
 obtain⟨p,a,rfl,x,q⟩:=h
 obtain⟨u,rfl,A⟩:=WA r
 cases A
 refine call_all_walk (zav I (I.ok.hd n) x λl B z j St D c W o m b=>?_)
 have f:=c.length
 rw[t1]at f
 refine⟨l,z,j,_,_,St,λi=>a.getD i false,rfl,W,o,λi v s Q E g k=>?_,λy w t=>⟨.bl _,H,b y w t,rfl,?_⟩⟩
 .rw[zgn c g]
  exact l8 k
 .rw[<-f,zcR]
  exact q
def W3 (A:X.calm=true):Yy X (.builtin "sum") (λe H Q=>∃ (p:Addr) (ns:zB),e=[.ref p]/\(SqL X.K H p (ns.map V.int)\/SqT X.K H p (ns.map V.int))/\Q (.int ns.sum) H):=by
 intro f s σ H e B Q I r h
 obtain⟨p,ns,rfl,m,q⟩:=h
 obtain⟨u,rfl,t⟩:=WA r
 cases t
 refine call_sum_walkG (zav I (I.ok.hd A) m λy z o x St C d W j b a=>?_)
 have c:=d.length
 rw[t1]at c
 refine⟨y,o,x,_,_,St,λi=>ns.getD i 0,rfl,W,j,b,λi v w=>zes d w,λn k g l=>⟨.int ns.sum,H,a n k l,?_,q⟩⟩
 refine⟨g,?_⟩
 rw[<-c,zb5 ns _ (t7 _),u1h]
def zgz:zo->Option (List Bool)
 | []=>some []
 | .bl b::ds=>(zgz ds).map (b::·)
 | _=>none
def zhn:zo->Option zB
 | []=>some []
 | .int b::ds=>(zhn ds).map (b::·)
 | _=>none
omit [KK] in
def zb3:∀ {b:zo} {a:List Bool},zgz b=some a->b=a.map .bl
 | [],a,h=>by cases h;rfl
 | d::b,a,h=>by
  cases d <;> try cases h
  obtain⟨e,c,rfl⟩:=t0.mp h
  rw[zb3 c]
  rfl
omit [KK] in
def zcq:∀ {b:zo} {a:zB},zhn b=some a->b=a.map .int
 | [],a,h=>by cases h;rfl
 | d::b,a,h=>by
  cases d <;> try cases h
  obtain⟨e,c,rfl⟩:=t0.mp h
  rw[zcq c]
  rfl
omit [KK] in
def zdR (a:List Bool):zgz (a.map .bl)=some a:=by
 induction a with
 | nil=>rfl
 | cons b r c=>show(zgz (r.map .bl)).map (b::·)=_;rw[c];rfl
omit [KK] in
def zaD (a:zB):zhn (a.map .int)=some a:=by
 induction a with
 | nil=>rfl
 | cons b r c=>show(zhn (r.map .int)).map (b::·)=_;rw[c];rfl
def AtL.of_bls:∀ {ns:List Bool} {a:zz},AtL H (ns.map D.bl) a->a=ns.map V.bl
 | [],_,h=>h.nil_inv
 | n::r,_,h=>by
  obtain⟨x,d,rfl,b,c⟩:=AtL.cons_inv (by simpa using h)
  rw[b.bl_inv,AtL.of_bls c]
  rfl
def zjz {α:Type}(a:zo->Option α)(g:α->Option D):vp
 | [d]=>((yY d).bind a).bind g
 | _=>none
def zcD {α:Type}{h:zo->Option α}{g:α->Option D}(s:yt F H)(n:AtL F j k)(e:zjz h g j=some z) :
 ∃ p f a b,k=[.ref p]/\(SqL K H p a\/SqT K H p a)/\AtL F f a/\h f=some b/\g b=some z:=by
 unfold zjz at e
 split at e
 .obtain⟨b,q,l⟩:=u4.mp e
  obtain⟨f,o,i⟩:=u4.mp q
  obtain⟨x,r,rfl,m,t⟩:=n.cons_inv
  cases t.nil_inv
  rename_i d
  cases d <;> cases o
  .obtain⟨p,a,rfl,c,bl⟩:=m.tup_inv
   exact⟨p,_,a,b,rfl,.inr (SqT.of (s _ _ c)),bl,i,l⟩
  .obtain⟨p,a,rfl,c,bl⟩:=m.lst_inv
   exact⟨p,_,a,b,rfl,.inl (SqL.of (s _ _ c)),bl,i,l⟩
 .cases e
def zfN:=zjz zgz λa=>some (.bl (a.all id))
def zhw:=zjz zhn λns=>some (.int ns.sum)
def zdd:CaD (λc H Q=>∃ (p:Addr) (a:List Bool),c=[.ref p]/\(SqL K H p (a.map V.bl)\/SqT K H p (a.map V.bl))/\Q (.bl (a.all id)) H) zfN:=by
 intro F H i h z Q s d e q
 obtain⟨p,j,c,a,rfl,b,bl,f,g⟩:=zcD (K:=K) s d e
 cases g
 rw[zb3 f]at bl
 rw[bl.of_bls]at b
 exact⟨p,a,rfl,b,q F H _ (.refl s) .bl⟩
def zcp:CaD (λb H Q=>∃ (p:Addr) (ns:zB),b=[.ref p]/\(SqL K H p (ns.map V.int)\/SqT K H p (ns.map V.int))/\Q (.int ns.sum) H) zhw:=by
 intro F H i h z Q s d e q
 obtain⟨p,j,b,c,rfl,a,bl,f,g⟩:=zcD (K:=K) s d e
 cases g
 rw[zcq f]at bl
 rw[bl.of_ints]at a
 exact⟨p,c,rfl,a,q F H _ (.refl s) .int⟩
end
end Dl
namespace Dl
open PySem L2
variable [KK]
section
variable {X:Cx}{tg a b c e:Expr}{pos:Pos}
def zaV:zo->zo->zo
 | x::xs,y::ys=>.tup [x,y]::zaV xs ys
 | _,_=>[]
omit [KK] in
def zaL:∀ (b a:zo) (i:Nat),(zaV b a)[i]?=match b[i]?,a[i]? with | some x,some y=>some (.tup [x,y]) | _,_=>none
 | [],a,i=>by simp[zaV]
 | x::b,[],i=>by simp[zaV]
 | x::b,y::a,0=>by simp[zaV]
 | x::b,y::a,i+1=>by simpa [zaV]using zaL b a i
omit [KK] in
def Z6:∀ (a b:zo),a.length<=b.length->(zaV a b).length=a.length
 | [],b,_=>by simp[zaV]
 | x::a,[],h=>by simp at h
 | x::a,y::b,h=>by simp[zaV,Z6 a b (by simpa using h)]
def x4 (f:yT):yT:=fun ρ=>(f ρ).bind λc=>match c with
 | [d,e]=>(yY d).bind λb=>(yY e).bind λa=>if b.length<=a.length then some (zaV b a)else none
 | _=>none
def zhL (s:yt F H)(h:At F d v)(e:yY d=some j):∃ b p a,v=.ref p/\(∀ {F' H':Hp},yt F F'->yt F' H'->Sq b K H' p a)/\AtL F j a:=by
 cases d <;> cases e
 .obtain⟨p,a,rfl,i,c⟩:=h.tup_inv
  exact⟨false,p,a,rfl,λf g=>SqT.of (g _ _ (f _ _ i)),c⟩
 .obtain⟨p,a,rfl,i,c⟩:=h.lst_inv
  exact⟨true,p,a,rfl,λf g=>SqL.of (g _ _ (f _ _ i)),c⟩
def zji {tp:Pos} {f:yT} (hg:Gl X "zip") (hm:X.mg "zip"=none) (ha:AD X [a,b] f) (hs:starEach [a,b] X.env=[(false,eval a X.env),(false,eval b X.env)]:=by rfl) (O:starEach [b] X.env=[(false,eval b X.env)]:=by rfl):ID X (.Tuple es k tp) (.Call (.Name "zip" p) [a,b] [] pos) (x4 f):=by
 obtain⟨t,pa,r⟩:=ha
 refine⟨_,ziQ hg hm zjb pa hs O,fun σ ρ F H ds R s va e q=>?_⟩
 obtain⟨as,e1,w⟩:=u4.mp e
 refine r σ ρ F H as _ s va e1 λF1 H1 v n a1=>?_
 split at w
 .obtain⟨x,r',rfl,ax,L⟩:=a1.cons_inv
  obtain⟨y,r',rfl,ay,L⟩:=L.cons_inv
  cases L.nil_inv
  obtain⟨xs,e3,h⟩:=u4.mp w
  obtain⟨ys,e4,c⟩:=u4.mp h
  clear w h e
  split at c <;> cases c
  rename_i C
  obtain⟨b1,p1,B,rfl,m,U⟩:=zhL (K:=X.K) n.fh ax e3
  obtain⟨b2,p2,M,rfl,j,bl⟩:=zhL (K:=X.K) n.fh ay e4
  refine⟨b1,b2,p1,p2,B,M,rfl,m (yt.refl _) n.fh,j (yt.refl _) n.fh,q F1 H1 _ n λi F2 H2 o N=>?_⟩
  have J:=m o N
  have V:=j o N
  refine⟨λhl=>⟨B,J,by rw[hl,Z6 _ _ C,U.length]⟩,λd g=>?_⟩
  rw[zaL]at g
  cases A:xs[i]? with
  | none=>rw[A]at g;cases g
  | some x =>
   cases P:ys[i]? with
   | none=>rw[A,P]at g;cases g
   | some y =>
    rw[A,P]at g
    cases g
    obtain⟨u,S,au⟩:=U.get A
    obtain⟨W,l,E⟩:=bl.get P
    refine⟨⟨B,M,u,W,J,V,S,l⟩,λz H3 hz=>?_⟩
    obtain⟨T,x',y',rfl,hT,rfl,I,Q⟩:=hz
    have Z:=I B J
    have Y:=Q M V
    rw[S]at Z
    rw[l]at Y
    cases Z
    cases Y
    have G:=Gr.alloc N hT (.tup [u,W])
    exact⟨_,G,.tup zx (.cons (au.mono (o.trans G.ff)) (.cons (E.mono (o.trans G.ff)) .nil))⟩
 .cases w
def xv (g:zgO)(f:yT)(b:vM)(h:zU):zU:=fun ρ=>match (f (visG ρ)).bind g with
 | some ds=>WP b h ds ρ
 | none=>.no
def zaM {b:v3} {f:yT} {g:zU} (hp:PassesOwn (model X.prog X.w) X.A X.env X.xe) (e:X.calm=true) (m:Gl X "range") (G:X.mg "range"=none) (u:AD X [a] f) (I:BD X tg n) (z:SDs X b g) (l:starEach [a] X.env=[(false,eval a X.env)]:=by rfl) (y:∀ x,foldedSetIterable (.Call (.Name "range" p) [a] [] pos) X.env x=pure x:=by intro _;rfl):SD X (.For tg (.Call (.Name "range" p) [a] [] pos) b [] d) (xv Yf f n g):=by
 obtain⟨t,v,r⟩:=u
 obtain⟨w,C,q⟩:=I
 obtain⟨Q,J,B⟩:=z
 refine⟨_,zcQ hp e (zbU m G v l) C J y,λFb Hb F H ρ σ E i k=>?_⟩
 unfold xv at k
 cases h:(f (visG ρ)).bind Yf with
 | none=>rw[h]at k;exact k.elim
 | some O =>
  rw[h]at k
  obtain⟨o,s,c⟩:=u4.mp h
  refine r σ _ _ H o _ i.gh i.visG s λF1 H1 P L A=>?_
  have j:=i.grow (i.back L).1
  unfold Yf at c
  split at c
  .split at c <;> cases c
   rename_i e
   obtain⟨x,N,rfl,M,K⟩:=A.cons_inv
   cases K.nil_inv
   exact⟨_,by rw[M.int_inv],(wo.mp e).1,(wo.mp e).2,zff (zfs 0 _) q B j k⟩
  .cases c
end
def zgG {w:World}{f:Addr}{g:vy}:vP P w K c a CX0 k f g d (spD m λ_=>none):=by
 refine⟨λb H Q E h=>?_,λA outer s H args i b Q E _ _ _ _ h=>?_⟩
 .obtain⟨_,_,_,_,_,_,e,_⟩:=h
  cases e
 .obtain⟨_,_,_,_,_,_,e,_⟩:=h
  cases e
def ziW (n:Nat)(g:vp->SE->Ctl):Nat->zo->Option D
 | 0=>λ_=>none
 | k+1=>fnD n (g (ziW n g k))
def zix {w:World}{f:Addr}{N d:zr}{k0:Nat}{g:vp->SE->Ctl}(Fu:Fun K x a c f e)(S:we N d (zw c))(h:∀ (k:Nat) (r:vp),vP P w K mg base CX0 (k0+k) f e d (spD d.length r)->∀ (b:Value) (A:z5) (outer:List Env) (s:zi) (H:Hp) (E:XK),wF (k0+k) (A.deeper (PyProof.Rows.envOfC a (zw c) s.heap.objs.size f b))->SDs (vQ CX0 P w K mg base N a (zw c) f b A outer s H E).nox (xb c) (g r)) :
 ∀ n,vP P w K mg base CX0 (k0+n) f e d (spD d.length (ziW N.length g n)):=by
 intro n
 induction n with
 | zero=>exact zgG
 | succ n i=>exact ZP Fu S λb A outer s H E j=>h n _ i b A outer s H E j
def zcB (K:zu):Sp:=λb H Q _=>∃ (a:Addr) (ns:zB),b=[.ref a]/\SqL K H a (ns.map V.int)/\ns.length<=63/\∀ H',Q (.bl true) H'
end Dl
namespace Dl
open PySem L2
def zh3 {w:World}{f:Addr}{p:vp}(F:vP P w K d b CX0 k f e ps (@spD ⟨K,c⟩ 1 p))(h:∀ ns:zB,ns.length<=63->p [.scr ns]=some (.bl true)) :
 vP P w K d b CX0 k f e ps (zcB K):=by
 letI:KK:=⟨K,c⟩
 refine F.imp λm H Q E g=>?_
 obtain⟨a,ns,rfl,j,l,q⟩:=g
 refine⟨[.scr ns],.bl true,H,rfl,yt.refl _,.cons ?_ .nil,h ns l,λF' H' v _ i=>?_⟩
 .unfold At
  exact⟨a,rfl,j⟩
 .rw[i.bl_inv]
  exact q H'
structure Def (K:zu) (mg:wH) (x:Str) (st:Stmt) (ps:zr) (f:Addr) (fd:vy):Prop where
 fn:Fun K x x st f fd
 bd:YB K fd ps []
 at_:mg x=some (.ref f)
def Def.kp {f:Addr}(d:Def K a x c b f e):W.keepIn K (.ref f)=true:=d.fn.kp
inductive Ctl.w:Ctl->YF->YF->YF->(D->Prop)->Prop where
 | nx {ρ:SE} {n b k:YF} {r:D->Prop}:n ρ->Ctl.w (.nx ρ) n b k r
 | bk {ρ:SE} {n b k:YF} {r:D->Prop}:b ρ->Ctl.w (.bk ρ) n b k r
 | ct {ρ:SE} {n b k:YF} {r:D->Prop}:k ρ->Ctl.w (.ct ρ) n b k r
 | rt {d:D} {n b k:YF} {r:D->Prop}:r d->Ctl.w (.rt d) n b k r
section
variable {ρ:SE}{d:D}{n b k:YF}{r:D->Prop}
def Ctl.w.nxi (h:Ctl.w (.nx ρ) n b k r):n ρ:=by cases h;assumption
def Ctl.w.bki (h:Ctl.w (.bk ρ) n b k r):b ρ:=by cases h;assumption
def Ctl.w.cti (h:Ctl.w (.ct ρ) n b k r):k ρ:=by cases h;assumption
def Ctl.w.rti (h:Ctl.w (.rt d) n b k r):r d:=by cases h;assumption
def Ctl.w.noi (h:Ctl.w .no n b k r):False:=by cases h
end
abbrev noP:YF:=λ_=>False
section
variable {g h:zU}{ρ ρ':SE}{n b k:YF}{r:D->Prop}
def xj (e:(g ρ).w (fun ρ'=>(h ρ').w n b k r) b k r):(zS g h ρ).w n b k r:=by
 unfold zS
 cases a:g ρ with
 | nx ρ'=>rw[a]at e;exact e.nxi
 | bk ρ'=>rw[a]at e;exact .bk e.bki
 | ct ρ'=>rw[a]at e;exact .ct e.cti
 | rt d=>rw[a]at e;exact .rt e.rti
 | no=>rw[a]at e;exact e.noi.elim
def zJ (e:g ρ=.nx ρ')(q:(h ρ').w n b k r):(zS g h ρ).w n b k r:=xj (by rw[e];exact .nx q)
def ZO (e:g ρ=.nx ρ')(q:n ρ'):(g ρ).w n b k r:=by rw[e];exact .nx q
def Yd (e:g ρ=.rt d)(q:r d):(g ρ).w n b k r:=by rw[e];exact .rt q
def Ze {t:vO}(e:t (visG ρ)=some c)(a:c=true->(g ρ).w n b k r)(d:c=false->(h ρ).w n b k r):(sIf t g h ρ).w n b k r:=by
 unfold sIf
 rw[e]
 cases c with
 | true=>exact a rfl
 | false=>exact d rfl
def zh9 (e:zjw ρ i=ρ')(q:(g ρ').w n b k r):(sFz i g ρ).w n b k r:=by
 unfold sFz
 rw[e]
 exact q
theorem zdc {h:vM}(I:Nat->SE->Prop):∀ (c:zo) (j:Nat) (ρ:SE),I j ρ ->
 (∀ i d ρ,c[i]?=some d->I (j+i) ρ->∃ f,h d ρ=some f/\(g f).w (I (j+i+1)) n (I (j+i+1)) r)->(∀ ρ,I (j+c.length) ρ->n ρ)->(WP h g c ρ).w n b k r
 | [],j,ρ,h0,_,fin=>.nx (fin ρ h0)
 | d::c,j,ρ,h0,step,fin=>by
  obtain⟨f,p,a⟩:=step 0 d ρ rfl h0
  unfold WP
  rw[p]
  dsimp only
  have next:∀ ρ',I (j+1) ρ'->(WP h g c ρ').w n b k r:=fun ρ' o=>zdc I c (j+1) ρ' o
   (λi m ρ q l=>by
    have:=step (i+1) m ρ (by simpa using q) (by rw[show j+(i+1)=j+1+i by omega];exact l)
    rwa[show j+(i+1)+1=j+1+i+1 by omega]at this)
   (fun ρ l=>fin ρ (by rw[j8,show j+(c.length+1)=j+1+c.length by omega];exact l))
  cases e:g f with
  | nx ρ'=>rw[e]at a;exact next ρ' a.nxi
  | ct ρ'=>rw[e]at a;exact next ρ' a.cti
  | bk ρ'=>rw[e]at a;exact .nx a.bki
  | rt m=>rw[e]at a;exact .rt a.rti
  | no=>rw[e]at a;exact a.noi.elim
def Vv {f:yT}{h:vM}{ds:zo}(I:Nat->SE->Prop)(e:f (visF ρ)=some ds)(h0:I 0 ρ)
 (a:∀ i d ρ,ds[i]?=some d->I i ρ->∃ j,h d ρ=some j/\(g j).w (I (i+1)) n (I (i+1)) r) (fin:∀ ρ,I ds.length ρ->n ρ):(vi f h g ρ).w n b k r:=by
 unfold vi
 rw[e]
 exact zdc I ds 0 ρ h0 (λi d ρ l c=>by rw[u0s]at c ⊢;exact a i d ρ l c) (fun ρ c=>fin ρ (by rw[u0s]at c;exact c))
def zdo {f:yT}{m:vM}(I:Nat->SE->Prop)(e:(f (visG ρ)).bind p=some (Xx lo c))(h0:I 0 ρ)(h:∀ (i:Nat) ρ,i<c->I i ρ->∃ o,m (.int (lo+i)) ρ=some o/\(g o).w (I (i+1)) n (I (i+1)) r)(fin:∀ ρ,I c ρ->n ρ):(xv p f m g ρ).w n b k r:=by
 unfold xv
 rw[e]
 refine zdc I (Xx lo c) 0 ρ h0 (λi d ρ a j=>?_) (fun ρ j=>fin ρ ?_)
 .rw[u0s]at j ⊢
  unfold Xx at a
  rw[j7]at a
  by_cases l:i<c
  .rw[List.getElem?_range l]at a
   cases a
   exact h i ρ l j
  .rw[List.getElem?_eq_none (by simpa using l)]at a
   cases a
 .rw[u0s]at j
  rwa[show(Xx lo c).length=c by unfold Xx;simp]at j
end
def XO {m:Nat}{g:zU}{b:zo}(e:b.map .v++List.replicate (m-b.length) .no=ρ)(q:(g ρ).w (λ_=>d=.non) noP noP (λc=>c=d)):fnD m g b=some d:=by
 unfold fnD
 rw[e]
 cases a:g ρ with
 | nx f=>rw[a]at q;rw[show d=.non from q.nxi]
 | rt c=>rw[a]at q;rw[show c=d from q.rti]
 | bk _=>rw[a]at q;exact q.bki.elim
 | ct _=>rw[a]at q;exact q.cti.elim
 | no=>rw[a]at q;exact q.noi.elim
def zaK {i:Nat}{f:ya}{ρ:SE}{ds:zo}(a:vEv m f ρ=some d)(e:ρ[i]?=some (.o ds))(b:ds.length<=1000):vR m i f ρ=.nx (ρ.set i (.o (ds++[d]))):=by
 unfold vR
 rw[a,e]
 show(match (if decide (ds.length<sizeLine)=true then some (ρ.set i (.o (ds++[d])))else none)with | some c=>Ctl.nx c | none=>Ctl.no)=_
 rw[j0 (u8 (YK b))]
def Zt {b:W4}{t:vO}{f:ya}{α:Type}(c:α->D)(y:α->D):∀ (a:List α),(∀ x∈a,∃ own,b (c x)=some own/\t (own++ρ)=some true/\f (own++ρ)=some (y x))->lcD b t f ρ (a.map c)=some (a.map y)
 | [],_=>rfl
 | x::a,h=>by
  obtain⟨own,d,i,e⟩:=h x p9
  show lcD b t f ρ (c x::a.map c)=_
  unfold lcD
  rw[d]
  simp only[t4,i,u1Q,e,Zt c y a λz g=>h z (l6 _ g)]
  rfl
def XQ {b:W4}{t:vO}{f:ya}{α:Type}(c:α->D)(p:α->Bool)(y:α->D):∀ (a:List α),(∀ x∈a,∃ own,b (c x)=some own/\t (own++ρ)=some (p x)/\(p x=true->f (own++ρ)=some (y x)))->lcD b t f ρ (a.map c)=some ((a.filter p).map y)
 | [],_=>rfl
 | x::a,h=>by
  obtain⟨own,e,j,g⟩:=h x p9
  have d:=XQ c p y a λz i=>h z (l6 _ i)
  show lcD b t f ρ (c x::a.map c)=_
  unfold lcD
  rw[e]
  simp only[t4,j]
  cases hp:p x with
  | false =>
   rw[j6 u9,d,List.filter_cons,j6 (by rw[hp];exact u9)]
  | true =>
   rw[j0 rfl,g hp,d,List.filter_cons,j0 hp]
   rfl
mutual
def noS:D->Bool
 | .tup ds=>zdO ds
 | .lst ds=>zdO ds
 | .scr _=>false
 | .obj _ _ _=>false
 | _=>true
def zdO:zo->Bool
 | []=>true
 | d::ds=>noS d&&zdO ds
end
def vk:∀ {ds:zo} {i:Nat} {d:D},zdO ds=true->ds[i]?=some d->noS d=true
 | [],_,_,_,h=>by simp at h
 | d::ds,i,e,h,he=>by
  unfold zdO at h
  rw[t5]at h
  cases i with
  | zero=>simp at he;subst he;exact h.1
  | succ i=>exact vk h.2 (by simpa using he)
def wK {n:Nat}(h:n<=1000):lim n=true:=by
 unfold lim
 exact u8 (u1I (YK h))
def VQ (a:Int)(n:Nat):(Xx a n).length=n:=by unfold Xx;simp
end Dl
namespace Dl
open PySem L2
abbrev Pr:=Int × Int
variable [KK]
end Dl
namespace Dl
open PySem L2
variable [KK]
section
variable {X:Cx}{a e:Expr}
def Vn (m:xC)(f:ya)(g:yT):ya:=fun ρ=>(f ρ).bind λc=>(g ρ).bind λa=>match a with
 | [d]=>m c d
 | _=>none
end
end Dl
namespace Dl
open PySem L2
section
variable [KK]
section
variable {κ:Type}[DecidableEq κ](f:κ->List Key)(hf:∀ a b,f a=f b->a=b)
include hf
end
section
variable {X:Cx}{a b c:Expr}{pos apos:Pos}
def zhl:ED X (.Dict [] [] pos) (eC (.dct false false [] [])):=by
 refine⟨_,ze0,fun σ ρ F H z Q s a e q=>?_⟩
 cases e
 intro p hp
 refine q _ _ _ (Gr.alloc s hp _) ?_
 unfold At
 refine⟨p,[],rfl,⟨_,?_,zx⟩,.nil⟩
 unfold zhA
 rw[j6 u9]
 exact⟨[],rfl,rfl,rfl⟩
end
end
end Dl
namespace Dl
open PySem L2
variable [KK]
section
variable {X:Cx}
def rNeL:R2:=λx y H Q=>∃ F b a,yt F H/\At F (.lst b) x/\At F (.lst a) y/\okE 20 (.lst b)=true/\okE 20 (.lst a)=true/\Q (.bl (!eqN 20 (.lst b) (.lst a))) H
def ziq (O:wF k X.A):OpR X (compareOp .NotEq) rNeL:=by
 intro C s σ H x y v u Q I n l h
 obtain⟨F,a,b,o,N,P,L,M,q⟩:=h
 have m:X.A.units+30<cLine:=by have:=O.un;omega
 obtain⟨p,T,rfl,E,B⟩:=N.lst_inv
 obtain⟨W,V,rfl,G,bl⟩:=P.lst_inv
 cases n
 cases l
 obtain⟨t,r,z,U⟩:=I.list (SqL.of (o _ _ E))
 obtain⟨i,A,g,K⟩:=I.list (SqL.of (o _ _ G))
 have d:t.toArray.size=a.length:=by rw[q7,<- r.length,B.length]
 have f:i.toArray.size=b.length:=by rw[q7,<- A.length,bl.length]
 have w:eqN 20 (.lst a) (.lst b)=((List.range (min a.length b.length)).all (λj=>eqN 19 (a.getD j .non) (b.getD j .non))&&a.length == b.length):=by
  show((List.zipWith (eqN 19) a b).all id&&a.length == b.length)=_
  rw[WM]
 by_cases c:a.length=b.length
 .refine SeqAt.RcNeAt.lists (e:=λj=>eqN 19 (a.getD j .non) (b.getD j .non)) z.isList g.isList (by rw[d,f];exact c) (p4 (g8 _ 30) m) (λj D g2=>?_) _ _ _ _ ⟨.bl _,H,I,rfl,?_⟩
  .obtain⟨S,R,n⟩:=B.nth r (j:=j) (by simpa using D)
   obtain⟨Y,J,l⟩:=bl.nth A (j:=j) (by simpa using g2)
   exact Vi I o 19 (wf L (by rw[<-d];exact D)) (wf M (by rw[<-f];exact g2)) R J (by simpa using n) (by simpa using l) (p4 (show X.A.units+20<=X.A.units+30 from u1w (by decide) _) m)
  .rw[d]
   rw[w,<- c,Nat.min_self]at q
   simpa using q
 .refine SeqAt.RcNeAt.lists_lengths z.isList g.isList (by rw[d,f];simpa using c) (p4 (g8 _ 30) m) _ _ _ _ ⟨.bl _,H,I,rfl,?_⟩
  have:(a.length == b.length)=false:=by simpa using c
  rw[w,this,u0y]at q
  exact q
end
def zhz:xC
 | .lst ds,.lst es=>if (okE 20 (.lst ds)&&okE 20 (.lst es))=true then some (.bl (!eqN 20 (.lst ds) (.lst es)))else none
 | _,_=>none
def zhp:OpD rNeL zhz:=by
 intro F H x y d e z Q s f c a q
 unfold zhz at a
 split at a
 .split at a <;> cases a
  rename_i b
  rw[t5]at b
  exact⟨F,_,_,s,f,c,b.1,b.2,q F H _ (.refl s) .bl⟩
 .cases a
end Dl
namespace L2
open PySem PySem.Spec PyProof.Rows
def KD {α:Type}:Sem α->Prop
 | .pure _=>True
 | .raise _=>True
 | .unsupported _=>True
 | .finish _=>True
 | .rule _ k=>KD (k ())
 | .at _ k=>KD (k ())
 | .load _ _ k=>∀ o,KD (k o)
 | .update _ _ f k=>(∀ o,(f o).dict=o.dict)/\KD (k ())
 | .loadIfAlive _ k=>∀ o,KD (k o)
 | .point _ k=>KD (k ())
 | .register _ _=>True
 | .alloc _ k=>∀ a,KD (k a)
 | .fresh k=>∀ t,KD (k t)
 | .ask k=>∀ x,KD (k x)
 | .handled _ k=>∀ x,KD (k x)
 | .stack k=>∀ x,KD (k x)
 | .thread k=>∀ n,KD (k n)
 | .choose _ _ _=>False
 | .os _ _ _=>False
 | .call _ _ _ _ _=>False
 | .newGen _ _=>False
 | .genState _ _=>False
 | .resume _ _ _ _=>False
 | .yield _ _ _ _=>False
 | .fork _ _=>False
 | .await _ _ _ _ _=>False
def zgS {α β:Type}(f:α->Sem β)(i:∀ a,KD (f a)):∀ (m:Sem α),KD m->KD (m.bind f):=by
 intro m
 induction m with
 | pure a=>intro _;exact i a
 | raise e=>intro _;trivial
 | unsupported w=>intro _;trivial
 | finish e=>intro _;trivial
 | rule t k b=>intro h;exact b () h
 | «at» p k b=>intro h;exact b () h
 | load a p k b=>intro h o;exact b o (h o)
 | update a p g k b=>intro h;exact⟨h.1,b () h.2⟩
 | loadIfAlive a k b=>intro h o;exact b o (h o)
 | point l k b=>intro h;exact b () h
 | register a k b=>intro h;trivial
 | alloc o k b=>intro h a;exact b a (h a)
 | fresh k b=>intro h a;exact b a (h a)
 | ask k b=>intro h a;exact b a (h a)
 | handled o k b=>intro h a;exact b a (h a)
 | stack k b=>intro h a;exact b a (h a)
 | thread k b=>intro h a;exact b a (h a)
 | choose s n k b=>intro h;exact h.elim
 | os q l k b=>intro h;exact h.elim
 | call c h g l k b=>intro h;exact h.elim
 | newGen c k b=>intro h;exact h.elim
 | genState g k b=>intro h;exact h.elim
 | resume g r l k b=>intro h;exact h.elim
 | yield v g l k b=>intro h;exact h.elim
 | fork c k b=>intro h;exact h.elim
 | await a f d l k b=>intro h;exact h.elim
def yg {α β:Type}{m:Sem α}{f:α->Sem β}(b:KD m)(c:∀ a,KD (f a)):KD (m>>=f):=zgS f c m b
def DK (h c:Heap):Prop:=∀ (b:Nat) (o:Obj),h.objs[b]?=some o->∃ a:Obj,c.objs[b]?=some a/\a.dict=o.dict
def DK.refl (h:Heap):DK h h:=λ_ o e=>⟨o,e,rfl⟩
def DK.trans {f:Heap}(a:DK c f)(b:DK f d):DK c d:=λp o e=>by
 obtain⟨l,g,h⟩:=a p o e
 obtain⟨j,i,k⟩:=b p l g
 exact⟨j,i,k.trans h⟩
def DK.push (h:Heap)(o:Obj):DK h (h.push o):=λb u e=>by
 refine⟨u,?_,rfl⟩
 obtain⟨a,l⟩:=h
 show(a.push o)[b]?=some u
 have c:b<a.size:=(u1B.mp e).1
 rw[Array.getElem?_push_lt c]
 exact(u1B.mp e).2 ▸ rfl
def DK.update (h:Heap)(a:Addr){f:Obj->Obj}(d:∀ o,(f o).dict=o.dict):DK h (h.update a f):=λb u e=>by
 obtain⟨c,l⟩:=h
 show ∃ g,(c.modify a f)[b]?=some g/\_
 rw[Array.getElem?_modify]
 have e:c[b]?=some u:=e
 split
 .rw[e];exact⟨f u,rfl,d u⟩
 .rw[e];exact⟨u,rfl,rfl⟩
def zca {h:Heap}(e:h.get? b=some o):h.objs[b]?=some o:=by
 unfold Heap.get? at e
 split at e
 .cases e
 .exact e
def DK.of {h f:Heap}{o c:Obj}(k:DK h f)(e:h.get? b=some o)(g:f.get? b=some c):c.dict=o.dict:=by
 obtain⟨i,a,d⟩:=k b o (zca e)
 rw[zca g]at a
 cases a
 exact d
def zjH {α:Type}(M:Model)(Γ:PySem.Ctx):∀ (m:Sem α) (Q:α->Pos->Shared->Prop) (E:Value->Pos->Shared->Prop) (p:Pos) (s b:zi),KD m->DK b.heap s.heap->Sem.wp M Γ m Q E p s ->
 Sem.wp M Γ m (λa p j=>Q a p j/\DK b.heap j.heap) (λe p j=>E e p j/\DK b.heap j.heap) p s:=by
 intro m
 induction m with
 | pure a=>intro Q E p s b _ k h;exact⟨h,k⟩
 | raise e=>intro Q E p s b _ k h;exact⟨h,k⟩
 | unsupported w=>intro Q E p s b _ k h;exact h
 | finish e=>intro Q E p s b _ k h;exact h
 | rule t k i=>intro Q E p s b c d h;exact i () Q E p s b c d h
 | «at» p k i=>intro Q E p s b c d h;exact i () Q E _ s b c d h
 | load a p k i =>
  intro Q E p s b c d h
  obtain⟨o,e,h⟩:=h
  exact⟨o,e,i o Q E p s b (c o) d h⟩
 | update a p g k i =>
  intro Q E p s b c d h
  obtain⟨e,h⟩:=h
  exact⟨e,i () Q E p _ b c.2 (d.trans (.update s.heap a c.1)) h⟩
 | loadIfAlive a k i=>intro Q E p s b c d h;exact i _ Q E p s b (c _) d h
 | point l k i=>intro Q E p s b c d h;exact i () Q E p s b c d h
 | register a k i=>intro Q E p s b c d h;exact h
 | alloc o k i=>intro Q E p s b c d h;exact i _ Q E p _ b (c _) (d.trans (.push s.heap o)) h
 | fresh k i=>intro Q E p s b c d h;exact i _ Q E p _ b (c _) d h
 | ask k i=>intro Q E p s b c d h;exact i _ Q E p s b (c _) d h
 | handled o k i=>intro Q E p s b c d h;exact i _ Q E p s b (c _) d h
 | stack k i=>intro Q E p s b c d h;exact i _ Q E p s b (c _) d h
 | thread k i=>intro Q E p s b c d h;exact i _ Q E p s b (c _) d h
 | choose s n k i=>intro Q E p s b c;exact c.elim
 | os q l k i=>intro Q E p s b c;exact c.elim
 | call c h g l k i=>intro Q E p s b c;exact c.elim
 | newGen c k i=>intro Q E p s b c;exact c.elim
 | genState g k i=>intro Q E p s b c;exact c.elim
 | resume g r l k i=>intro Q E p s b c;exact c.elim
 | yield v g l k i=>intro Q E p s b c;exact c.elim
 | fork c k i=>intro Q E p s b c;exact c.elim
 | await a f d l k i=>intro Q E p s b c;exact c.elim
def zhH {α:Type}{t:Sem α}{Q:α->Shared->Prop}{E:xa}{s:zi}(c:KD t)(h:wpAny M A t Q E s) :
 wpAny M A t (λa b=>Q a b/\DK s.heap b.heap) (λe b=>E e b/\DK s.heap b.heap) s:=fun Γ p d=>zjH M Γ t _ _ p s s c (.refl _) (h Γ p d)
def Xg {α:Type}{t:Sem α}{Q Q':α->Shared->Prop}{s:zi}(c:KD t)(h:wpAny M A t Q E s)(k:∀ a b,Q a b->DK s.heap b.heap->Q' a b):wpAny M A t Q' E s :=
 n8 (zhH c h) (λa b x=>k a b x.1 x.2) λ_ _ x=>x.1
def zai (v:Value):KD (fieldsOf v):=by
 unfold fieldsOf
 split
 .refine yg (λ_=>trivial) λo=>?_
  split <;> trivial
 .trivial
def ZS (v:Value)(i:Nat):KD (field v i):=by
 unfold field
 refine yg (zai v) λa=>?_
 split <;> trivial
def XF (f:vC->vC)(o:Obj):(Obj.mapFields f o).dict=o.dict:=by
 obtain⟨c,d,x,s⟩:=o
 cases x <;> rfl
def YE (v:Value)(i:Nat)(x:Value):KD (setField v i x):=by
 unfold setField
 split
 .unfold updateField
  refine yg (λ_=>trivial) λo=>?_
  split
  .split
   .exact⟨XF _,trivial⟩
   .trivial
  .trivial
 .trivial
def vW (e:Value)(f:xT):KD (setFlight e f):=by
 unfold setFlight
 refine yg (ZS e 1) λa=>?_
 split
 .exact YE _ _ _
 .trivial
def Vy (ty:String)(b:zH):KD (newFields ty b):=by
 have a:KD (newObjAsIs (Value.type ty) (Data.fields b.toArray)):=yg (λ_=>trivial) λ_=>trivial
 unfold newFields newObj
 show KD (if b.toArray.size>sizeLine+2 then _ else _)
 by_cases h:b.toArray.size>sizeLine+2
 .rw[j0 h]
  exact yg (show KD (unsupported (α:=Unit) _)from trivial) λ_=>a
 .rw[j6 h]
  exact a
def V6 (a b c d e:Value)(f:zH):KD (EntryCells.newEntry a b c d e f):=Vy _ _
def zeI (f:Addr)(b:Bool):KD (entryPlaceOf f b):=by
 unfold entryPlaceOf
 refine yg (λ_=>trivial) λa=>?_
 split <;> trivial
def W2:KD frameEnvs:=by
 unfold frameEnvs
 exact yg (λ_=>trivial) λ_=>trivial
def zee:∀ l:List Env,KD (readyFrames l):=by
 intro l
 induction l with
 | nil=>trivial
 | cons env outer a =>
  unfold readyFrames
  split
  .refine yg (λ_=>trivial) λo=>?_
   split
   .trivial
   .refine yg ?_ λb=>yg ?_ λbk=>yg ⟨λo=>rfl,trivial⟩ λ_=>a
    .unfold behindIsImport
     split
     .trivial
     .split
      .trivial
      .exact yg (ZS _ _) λ_=>trivial
    .unfold keptBack
     split
     .split
      .trivial
      .unfold underTheClaimsCaller
       exact yg (λ_=>trivial) λ_=>trivial
     .trivial
  .trivial
def zbL (env:Env):KD (PySem.frameOf env):=by
 unfold PySem.frameOf
 refine yg W2 λl=>yg ?_ λo=>?_
 .unfold frameObject
  split
  .trivial
  .exact yg (zee _) λ_=>trivial
 .split <;> trivial
def ZE (e:Value)(env:Env):KD (noteFrame e env):=by
 unfold noteFrame
 split
 .rename_i f c
  refine yg (ZS e 1) λa=>?_
  have b:KD (do setField e 1 (<- EntryCells.newEntry a (<- PySem.frameOf env) .none (rawInt f) .none (<- entryPlaceOf f (a != .none)))):=yg (zbL env) λ_=>yg (zeI _ _) λ_=>yg (V6 _ _ _ _ _ _) λ_=>YE _ _ _
  by_cases h:(a != Value.none)=true
  .dsimp only
   rw[j0 h]
   refine yg (ZS a 3) λx=>?_
   split
   .trivial
   .exact yg (YE _ _ _) λ_=>b
  .dsimp only
   rw[j6 h]
   exact b
 .trivial
def XH (env:Env)(e:Value):KD (leaving env e):=yg (ZE e env) λ_=>vW e none
end L2
namespace L2
open PySem PySem.Spec PyProof.Rows
open Sem (wp)
abbrev exH (h:Heap) (C:Addr) (a:zH):Heap:=(h.push { cls:=.type "tuple",data:=.seq a.toArray }).push { cls:=.ref C,data:=.fields #[.ref h.objs.size,.none,.none,.none,.bool false,.none] }
def wx {h:Heap}(e:h.get? b=some o):(exH h C us).get? b=some o:=u6 _ (u6 _ e)
def zfG (h:Heap)(C:Addr)(a:zH):(exH h C a).get? (h.objs.size+1)=some { cls:=.ref C,data:=.fields #[.ref h.objs.size,.none,.none,.none,.bool false,.none] }:=by heap_get
section
variable {prog:zX}{w:World}{A:z5}{E:xa}{h:Heap}{g:Array GenState}{d:Drawn}{t:Nat}{os:OsState}
 {nm q:Str} {C N fI:Addr} {bs bm:zH} {hdct:Bool} {sn:zr} {sub:zH} {ab:Bool} {col:Option Bool} {dd:xT} {k0 k1 k2 k3 k5:Option Value} {mN:wH} {us:zH} {oI:Obj}
def zbz {R:Fin->Shared->Prop} (T:OwnTail h [.type "ValueError",.type "Exception",.type "BaseException",.type "object"] bm) (a:h.get? C=some (excClassObj nm q C N bs bm hdct sn sub ab col dd k0 k1 k2 k3 k5 "ValueError.__new__")) (l:h.Ns N mN) (p:mN "__init__"=some (.ref fI)) (s:h.get? fI=some oI) (y:oI.cls=.type "function")
 (k:wpAny (model prog w) A (call (.ref fI) (.ref (h.objs.size+1)::us)) (λr i=>r=.none/\R (.done (.ret (.ref (h.objs.size+1)))) i) E ⟨exH h C us,g,d,t,os⟩) (m:us.length<=sizeLine) :
 wpAny (model prog w) A (Builtin.«type.__call__» ⟨.ref C::us,[]⟩) R E ⟨h,g,d,t,os⟩:=by
 have FV:=u1E
 repeat (first | with_reducible refine wpAny_madeBy_exc a ?_ | with_reducible refine u0G a ?_ | wp_step)
 refine codeAny_call_builtin_code (u0O _ FV.quiet) (wpAny_check_new_subU FV (by decide) T a (codeAny_exc_new_subU FV (by decide) FV T a ?_ m))
 show wpAny _ _ _ _ _ _
 have j:=wx (us:=us) (C:=C) a
 have n:=wx (us:=us) (C:=C) s
 have u:(exH h C us).Ns N mN:=let ⟨ob,ens,epo,e1,r1⟩:=l;⟨ob,ens,epo,wx e1,r1⟩
 have x:=T.keeps (h':=exH h C us) λb o e=>wx e
 have v:=zfG h C us
 have c:(Value.ref C::bm).contains (.ref C)=true:=by simp
 unfold isInstance
 repeat (first | (with_reducible refine wpAny_isSubtype_exc j ?_;rw[c]) | with_reducible refine u0G v ?_ | wp_step)
 show wpAny _ _ (typeLookup (.ref C) _) _ _ _
 refine wpAny_typeLookup_tail j u x FV.mroIs FV.init.lookup ?_
 rw[p]
 refine l5 (u5 ?_)
 unfold bindSpecial
 refine u5 (u2c (T:="function") ⟨_,n,y⟩ ?_)
 rw[j0 (by decide)]
 refine t9 (u5 (n8 k (λr i f=>?_) λ_ _ z=>z))
 obtain⟨rfl,f⟩:=f
 wp_walk
 exact f
def zcb {R:xa} (T:OwnTail h [.type "ValueError",.type "Exception",.type "BaseException",.type "object"] bm) (a:h.get? C=some (excClassObj nm q C N bs bm hdct sn sub ab col dd k0 k1 k2 k3 k5 "ValueError.__new__")) (c:h.Ns N mN) (b:mN "__init__"=some (.ref fI)) (e:h.get? fI=some oI) (j:oI.cls=.type "function")
 (k:wpAny (model prog w) (A.under (.builtin "type.__call__" ⟨.ref C::us,[]⟩)) (call (.ref fI) (.ref (h.objs.size+1)::us)) (λr f=>r=.none/\R (.ref (h.objs.size+1)) f) E ⟨exH h C us,g,d,t,os⟩) (i:us.length<=sizeLine) :
 wpAny (model prog w) A (call (.ref C) us) R E ⟨h,g,d,t,os⟩:=by
 have m:=tc_lookup
 have l:=tc_bind (.ref C)
 have tp:(⟨h,g,d,t,os⟩:zi).TypeIs (.ref C) "type":=⟨_,a,rfl⟩
 refine u0N (codeAny_of_tree ?_)
 show wpAny _ _ (callAny (.ref C) _) _ _ _
 repeat (any_goals (first | with_reducible refine u0G a ?_ | assumption | wp_step))
 refine⟨rfl,codeAny_call_builtin_at (u0O _ (by decide +kernel)) entry_typeCall (wpAny_check_type_call_sub a (zbz T a c b e j ?_ i))⟩
 exact k
end
def zbq {A:z5} {E:xa} {nm:Str} {N:Addr} {bs bm:zH} {sub:zH} (k:bm.contains (.type "BaseException")=true) (i:A.handled=none) (h:wpAny M A x (λv a=>∃ e t c f,v=.ref e/\a.heap.get? C=some (excClassObj nm q C N bs bm hdct sn sub ab col dd k0 k1 k2 k3 k5 newId) /\
 a.heap.get? e=some { cls:=.ref C,dict:=c,data:=.fields #[.ref t,.none,.none,.none,.bool false,.none],slots:=f }/\E (.ref e) a) E s):wpAny M A (raiseStmt env (some x) none) Q E s:=by
 have b:(Value.ref C::bm).contains (.type "BaseException")=true:=by rw[List.contains_cons,k,u19]
 unfold raiseStmt
 refine u5 (n8 h (λv a z=>?_) λ_ _ z=>z)
 obtain⟨e,t,c,f,rfl,d,j,l⟩:=z
 obtain⟨hp,n,g,m,os⟩:=a
 repeat (first | with_reducible refine u0G d ?_ | with_reducible refine u0G j ?_ | (with_reducible refine wpAny_isSubtype_exc d ?_;rw[b]) | wp_step)
 exact wpAny_raiseNew_none i l
end L2
namespace L2
open PySem PySem.Spec PyProof.Rows
section
variable {prog:zX}{w:World}{A:z5}{E:xa}{s:zi}{env:Env}
 {nm q:Str} {C N fI:Addr} {bs bm:zH} {hdct:Bool} {sn:zr} {sub:zH} {ab:Bool} {col:Option Bool} {dd:xT} {k0 k1 k2 k3 k5:Option Value} {mN:wH} {oI:Obj}
def zbr {D:Pos} (L:bm.contains (.type "BaseException")=true) (G:A.handled=none) (n:(backTo c (starEach args env)).any (·.1)=false) (H:mN "__init__"=some (.ref fI)) (K:oI.cls=.type "function") (h:wpAny (model prog w) A (eval (.Name x D) env) (λf B=>f=.ref C/\wpAny (model prog w) A (evalArgs (.ref C) true (backTo c (starEach args env)) []) (λa b=>a.kw=[]/\a.pos.length<=sizeLine /\
 b.heap.get? C=some (excClassObj nm q C N bs bm hdct sn sub ab col dd k0 k1 k2 k3 k5 "ValueError.__new__")/\b.heap.Ns N mN/\OwnTail b.heap [.type "ValueError",.type "Exception",.type "BaseException",.type "object"] bm/\b.heap.get? fI=some oI /\
 wpAny (model prog w) (A.under (.builtin "type.__call__" ⟨.ref C::a.pos,[]⟩)) (call (.ref fI) (.ref (b.heap.objs.size+1)::a.pos)) (λr i=>r=.none/\∃ t m p,i.heap.get? C=some (excClassObj nm q C N bs bm hdct sn sub ab col dd k0 k1 k2 k3 k5 "ValueError.__new__") /\
  i.heap.get? (b.heap.objs.size+1)=some { cls:=.ref C,dict:=m,data:=.fields #[.ref t,.none,.none,.none,.bool false,.none],slots:=p }/\E (.ref (b.heap.objs.size+1)) i) E { b with heap:=exH b.heap C a.pos }) E B) E s) :
 wpAny (model prog w) A (exec (.Raise (some (.Call (.Name x D) args [] c)) none k) env) Q E s:=by
 rw[arm_exec_Raise]
 refine u5 (u0Y (zbq (C:=C) (nm:=nm) (q:=q) (N:=N) (bs:=bs) (bm:=bm) (hdct:=hdct) (sn:=sn) (sub:=sub) (ab:=ab) (col:=col) (dd:=dd) (k0:=k0) (k1:=k1) (k2:=k2) (k3:=k3) (k5:=k5) (newId:="ValueError.__new__") L G (u5 (n8 (wpAny_Call_ofName (n8 h (λf B z=>?_) λ_ _ z=>z)) (λv i z=>u5 (u0Y (t9 z))) λ_ _ z=>z))))
 obtain⟨rfl,z⟩:=z
 unfold callWith
 refine u5 (l5 (n8 z (λa b y=>u5 (u0Y ?_)) λ_ _ z=>z))
 obtain⟨S,O⟩:=a
 obtain⟨u,e,F,I,J,M,l⟩:=y
 obtain rfl:O=[]:=u
 obtain⟨hp,g,d,R,os⟩:=b
 simp only[n]
 refine u5 (wpAny_keeperOf_exc F (u5 (zcb J F I H M K (n8 l (λr i y=>?_) λ_ _ z=>z) e)))
 obtain⟨rfl,t,m,p,j,o,P⟩:=y
 exact⟨rfl,u5 (l5 (wpAny_point (t9 ⟨_,t,m,p,rfl,j,o,P⟩)))⟩
end
def zih (K:zu)(C f:Addr):Bool:=match K.lookup C with
 | some ⟨.type "type",_,.cls cd,sl⟩=>(match cd.mro,sl.toList with
  | .ref C'::bm,[_,_,_,_,some (.builtin n),_]=>(C' == C)&&(n == "ValueError.__new__"&&(!cd.hasDel&&(cd.hasDict&&(W.tailIn K [.type "ValueError",.type "Exception",.type "BaseException",.type "object"] bm&&(W.nsOkIn K cd.ns&&(W.nsIn K cd.ns "__init__" == some (some (.ref f))&&(match K.lookup f with | some of=>of.cls == .type "function" | none=>false)))))))
  | _,_=>false)
 | _=>false
def zgy {K:zu}{h:Heap}{N:Addr}{m:wH}(X:K.In h)(G:h.Ns N m)(e:W.nsIn K N n=some (some v)):m n=some v:=by
 obtain⟨j,f,i,a,g,_,c⟩:=G
 unfold W.nsIn at e
 split at e
 .rename_i b
  have z:=(X _ _ b).symm.trans a
  cases z
  cases g
  split at e
  .rename_i k d
   cases e
   rw[<-c]
   unfold nsFind findBy
   rw[<-Array.find?_toList,d]
   rfl
  .split at e <;> cases e
 .cases e
def zd7 {K:zu}{h0:Heap}{f:Addr}(X:K.In h0)(e:zih K C f=true) :
 ∃ i N s q r t d w c u p j k h m E o,h0.get? C=some (excClassObj s q C N r i true t d w c u p j k h m "ValueError.__new__")/\h0.Ns N E/\E "__init__"=some (.ref f)/\OwnTail h0 [.type "ValueError",.type "Exception",.type "BaseException",.type "object"] i/\h0.get? f=some o/\o.cls=.type "function":=by
 unfold zih at e
 split at e
 .rename_i u I B L
  split at e
  .rename_i C' i p j k h n m D A
   simp only[t5,u0z,Bool.not_eq_true']at e
   obtain⟨rfl,rfl,b,a,J,g,z,y⟩:=e
   obtain⟨s,r,F,ns,G,M,t,d,w,c,H⟩:=I
   dsimp only at D b a g z
   subst D b a
   have v:B=#[p,j,k,h,some (.builtin "ValueError.__new__"),m]:=by
    obtain⟨l⟩:=B
    simp only at A
    rw[A]
   subst v
   split at y
   .rename_i o x
    exact⟨i,ns,s,G,r,t,d,w,c,u,p,j,k,h,m,h0.nsMap ns,o,X _ _ L,.of_isNs (W.isNs_of_in X g),zgy X (.of_isNs (W.isNs_of_in X g)) z,W.tail_of_in X J,X _ _ x,u0z.mp y⟩
   .cases y
  .cases e
 .cases e
end L2
namespace L2
open PySem PySem.Spec PyProof.Rows PySem.Builtin PySem.Builtin.ObjectAttr
abbrev veV:zH:=[.type "ValueError",.type "Exception",.type "BaseException",.type "object"]
def zdn:zH->Bool
 | .ref _::r=>zdn r
 | l=>l == veV
def zcx (a:Value):∀ {l:zH},zdn l=true->refuseLoop a "__setattr__" l=pure ():=by
 intro l
 induction l with
 | nil=>intro e;cases e
 | cons v r b =>
  intro e
  cases v with
  | ref c=>rw[refuseLoop_ref];exact b e
  | _=>exact u0z.mp (show((_:zH) == veV)=true from e) ▸ PySem.F.store_ValueError.passes a
def zcL:∀ {l:zH},zdn l=true->l.contains (.type "object")=true/\l.isEmpty=false:=by
 intro l
 induction l with
 | nil=>intro e;cases e
 | cons v r a =>
  intro e
  refine⟨?_,rfl⟩
  cases v with
  | ref c=>rw[List.contains_cons,(a e).1,u19]
  | _=>rw[u0z.mp (show((_:zH) == veV)=true from e)];decide +kernel
def Vl (K:zu) (C:Addr):Bool:=(W.clsIn K C).any (λa=>zdn a.mro&&a.hasDict)&&W.findIn K (.ref C) "__setattr__" == some (some (.builtin "object.__setattr__"))&&W.findIn K (.ref C) "__getattribute__" == some (some (.builtin "BaseException.__getattribute__"))&&W.findIn K (.ref C) "__getattr__" == some none&&W.subIn K (.ref C) (.type "BaseException") == some true
structure vI (K:zu) (C:Addr):Prop where
 cls:∃ cd,W.clsIn K C=some cd/\zdn cd.mro=true/\cd.hasDict=true
 sa:W.findIn K (.ref C) "__setattr__"=some (some (.builtin "object.__setattr__"))
 ga:W.findIn K (.ref C) "__getattribute__"=some (some (.builtin "BaseException.__getattribute__"))
 gt:W.findIn K (.ref C) "__getattr__"=some none
 sb:W.subIn K (.ref C) (.type "BaseException")=some true
def vI.of {K:zu}{C:Addr}(h:Vl K C=true):vI K C:=by
 unfold Vl at h
 simp only[t5,u0z]at h
 obtain⟨b,e,a⟩:=W.any_some h.1.1.1.1
 rw[t5]at a
 exact⟨⟨b,e,a.1,a.2⟩,h.1.1.1.2,h.1.1.2,h.1.2,h.2⟩
section
variable {prog:zX}{w:World}{A:z5}{E:xa}{s:zi}{K:zu}{x C:Addr}{ox:Obj}{od:Option Obj}{name:Str}{v:Value}
def zhm {R:Result->Shared->Prop}(X:K.In s.heap)(I:PySem.W.InstAt s.heap x ox C od)(hp:vI K C)(n:W.findIn K (.ref C) name=some none)(h:wpAny (model prog w) A.in1 (storeInOwnDict (.ref x) (.ref C) (.str name a) name v false) (λfin b=>match fin with | .done f=>R (.ok f) b | .again j=>j.quiet=true/\codeAny (model prog w) A j R b) (λe b=>R (.error e) b) s) :
 codeAny (model prog w) A (.call (.builtin "object.__setattr__") ⟨[.ref x,.str name a,v],[]⟩) R s:=by
 have SO:=PySem.F.store_object
 obtain⟨m,k,i,_⟩:=hp.cls
 obtain⟨g,c⟩:=zcL i
 have d:PySem.W.Looks (model prog w) s.heap (isInstance (.ref x) (.type "object")) true:=I.type.andThen (W.looks_mroIn X (by unfold W.mroIn;rw[k,t4,j6 (by rw[c];decide),g]))
 refine i6 SO.slot.plain SO.entry (@W.check_slot (model prog w) _ _ s "object.__setattr__" "object" "__setattr__" (.ref x) [.str name a,v] [] _ SO.kind SO.split d (SO.args (.ref x) (.str name a) v) ?_)
 have o:PySem.W.Looks (model prog w) s.heap (mroOf (.ref C)) m.mro:=(W.looks_clsIn X k).andThen .now
 have l:PySem.W.Looks (model prog w) s.heap (storeTaker? none) none:=.now
 rw[W.osa_eq,refuse_eq]
 refine u5 (u5 (I.type.here (u5 (o.here ?_))))
 rw[zcx _ i]
 exact t9 (u5 (I.type.here (u5 ((u1n X n).here (u5 (l.here h))))))
def zg0 {Q:Unit->Shared->Prop}(X:K.In s.heap)(I:PySem.W.InstAt s.heap x ox C od)(hp:vI K C)(b:W.findIn K (.ref C) name=some none)
 (h:wpAny (model prog w) A.in1 (storeInOwnDict (.ref x) (.ref C) (.str name s.toks) name v false) (λfin a=>match fin with | .done (.ret _)=>Q () a | _=>False) E { s with toks:=s.toks+1 }) :
 wpAny (model prog w) A (setAttr (.ref x) name v) Q E s:=by
 refine W.set_plain X I hp.sa (zhm (s:={ s with toks:=s.toks+1 }) X I hp b (n8 h (λfin a z=>?_) λ_ _ z=>z))
 cases fin with
 | again c=>exact z.elim
 | done f=>cases f <;> first | exact z | exact z.elim
def zbf {Q:Unit->Shared->Prop} (X:K.In s.heap) (I:PySem.W.InstAt s.heap x ox C od) (c:W.subIn K (.ref C) (.type "BaseException")=some true) (f:Q () s):wpAny M A (checkBuiltinCall "BaseException.__getattribute__" ⟨[.ref x,a],[]⟩) Q E s:=by
 have d:builtinKind "BaseException.__getattribute__"=some .slot:=by decide +kernel
 have b:splitId "BaseException.__getattribute__"=some ("BaseException","__getattribute__"):=by decide +kernel
 have e:=PySem.F.args_bexc_ga (.ref x) a
 have L0:=I.type (M:=M)
 have L1:PySem.W.Looks M s.heap (isSubtype (.ref C) (.type "BaseException")) true:=W.looks_subIn X c
 simp only[checkBuiltinCall,d,b]
 refine u5 ?_
 unfold isInstance
 refine u5 (L0.here (L1.here ?_))
 repeat (first | assumption | wp_step)
def zdY {Q:Unit->Shared->Prop}(X:K.In s.heap)(j:s.heap.get? x=some ox)(f:ox.cls=.ref C)(a:PySem.W.notCls ox=true)(m:ox.dict=none)(hp:vI K C)(J:PySem.W.findIn K (.ref C) name=some none)
 (h:∀ g:Heap,g.get? x=some { ox with dict:=some s.heap.objs.size }->g.Ns1 s.heap.objs.size (λy=>if y=name then some v else none)->(∀ b o,b≠x->s.heap.get? b=some o->g.get? b=some o)->Q () { s with heap:=g,toks:=s.toks+2 }) :
 wpAny (model prog w) A (setAttr (.ref x) name v) Q E s:=by
 have I:PySem.W.InstAt s.heap x ox C none:=⟨j,f,a,by rw[m];trivial⟩
 refine zg0 X I hp J ?_
 obtain⟨U,L,_,D⟩:=hp.cls
 have O:=PySem.W.looks_clsIn (M:=model prog w) X L
 unfold storeInOwnDict
 refine u5 (t9 ?_)
 have k:(Value.ref C == Value.type "module")=false:=rfl
 simp only[k]
 unfold ownDictForStores instanceDict
 refine u5 ?_
 refine u5 (wpAny_loadPart j ?_)
 obtain⟨T,P,d,n⟩:=ox
 dsimp only at f m
 subst f m
 dsimp only
 refine u5 (O.here (s:={ s with toks:=s.toks+1 }) ?_)
 rw[D]
 rw[j6 (by decide),j6 (by simp[typeHasDict])]
 have F:∀ c,d≠.cls c:=λc e=>by rw[e]at a;cases a
 split
 .rename_i c;exact absurd rfl (F c)
 have t:(s.heap.push { cls:=.type "dict",data:=.dict #[] }).get? x=some ⟨.ref C,none,d,n⟩:=u6 _ j
 have u:x≠s.heap.objs.size:=j5 (t8 j)
 refine u5 (wpAny_alloc' (u5 (wpAny_update' t (t9 ?_))))
 generalize p:((s.heap.push { cls:=Value.type "dict",data:=Data.dict #[] }).update x λo=>{ cls:=o.cls,dict:=some s.heap.objs.size,data:=o.data,slots:=o.slots })=h1
 have B:h1.get? s.heap.objs.size=some { cls:=.type "dict",data:=.dict #[] }:=by rw[<-p];exact(Heap.get?_update_ne _ _ _ _ u.symm).trans (Heap.get?_push_at rfl rfl)
 have G:h1.Ns s.heap.objs.size (λ_=>none):=⟨_,#[],_,B,rfl,λe H=>absurd H (by simp),λ_=>rfl⟩
 show wpAny _ _ (storeInDict s.heap.objs.size (.str name s.toks) name v) _ _ _
 unfold storeInDict newKeyGuard
 refine u5 (t9 (u5 (wpAny_nsSet1 (Heap.Ns1.of_empty G) λg i z=>?_)))
 obtain⟨S,V,W,l,q,r⟩:=i.count (Within.cons name v Within.nil)
 refine u5 (wpAny_lookBehind l (by rw[q];exact pastItsLine_dict (k9 r (by rw[j8,u2a,u0E];omega))) (t9 (h g ?_ i λb o N e=>?_)))
 .refine(z.2 x u).trans ?_
  rw[<-p]
  refine Heap.get?_update_self _ t ?_
  have R:=(Heap.get?_some_iff.mp j).2
  cases d <;> first | rfl | exact R
 .refine(z.2 b (j5 (t8 e))).trans ?_
  rw[<-p]
  exact(Heap.get?_update_ne _ _ _ _ N).trans (u6 _ e)
def zge {f:Str}{Q:xa}(X:K.In s.heap)(I:PySem.W.InstAt s.heap x ox C od)(hp:vI K C)(e:W.findObj K C od f=some (.value v))(i:W.handedIn v=true)(h:Q v { s with toks:=s.toks+1 }):wpAny (model prog w) A (getAttr (.ref x) f b) Q E s:=by
 obtain⟨k,g,d,t,os⟩:=s
 have L0:=I.type (M:=model prog w)
 have L1:=u1n (M:=model prog w) X hp.ga
 have L2:=u1n (M:=model prog w) X hp.gt
 have L3:=W.looks_find (M:=model prog w) X I e
 have j:=u1x.ga.bind (.ref x)
 have c:(Value.builtin "BaseException.__getattribute__" == Value.builtin "object.__getattribute__")=false:=by decide +kernel
 have a:(b&&onTheHeap (Value.builtin "BaseException.__getattribute__"))=false:=by cases b <;> rfl
 unfold getAttr getAttrBy
 refine u5 (wpAny_mkText (l5 (u5 (L0.at (u5 (L1.at ?_))))))
 dsimp only
 rw[c,u0y,j6 u9]
 unfold getAttrByItsOwn
 refine u5 ?_
 show wpAny _ _ (typeLookup (.ref C) "__getattr__") _ _ _
 refine L2.at (u5 (u0W (l5 ?_)))
 unfold callGetattribute
 rw[a,j6 u9]
 unfold boundAndCalled
 rw[j]
 refine u5 (t9 ?_)
 refine u0N (i6 u1x.ga.plain PySem.F.entry_bexc_ga ?_)
 refine zbf X I hp.sb ?_
 refine u5 (t9 (u5 (t9 (u5 (L0.at (u5 (L3.at ?_)))))))
 refine t9 ?_
 show wpAny _ _ (handedOut v) _ _ _
 rw[W.handedOut_of i];exact t9 h
end
end L2
namespace L2
open PySem PySem.Spec PyProof.Rows
section
variable {P:zX}{w:World}{H H':Hp}{h h':Heap}{a:Addr}{o:HO}
def xI.ex (x:xI P w H h a o):∃ u,h.get? a=some u:=by
 cases o with
 | lst g=>obtain⟨_,_,_,_,e⟩:=x;exact⟨_,e⟩
 | tup g=>obtain⟨_,_,_,c,e,_⟩:=x;exact⟨_,e⟩
 | dK b=>obtain⟨_,_,_,_,o,_,_,e,_⟩:=x;exact⟨_,e⟩
 | dT b=>obtain⟨_,_,_,_,o,_,_,e,_⟩:=x;exact⟨_,e⟩
 | set S n=>obtain⟨o,_,_,_,e,_⟩:=x;exact⟨_,e⟩
 | ins C l d=>obtain⟨_,_,_,e,_⟩:=x;exact⟨_,e⟩
 | own y=>exact x
 | xd d=>obtain⟨_,⟨_,_,_,e,_⟩,_⟩:=x;exact⟨_,e⟩
 | rng i j=>obtain⟨_,_,_,e⟩:=x;exact⟨_,e⟩
 | frz c u=>obtain⟨e,_⟩:=x;exact⟨_,e⟩
 | tbl k=>exact⟨_,(show h.get? a=some _ from x)⟩
 | met f y=>exact⟨_,(show h.get? a=some _ from x)⟩
 | ext φ=>obtain⟨_,⟨_,e⟩,_⟩:=x;exact⟨_,e⟩
theorem HOk.stays (x:HOk P w H h)(k:∀ b u,H b≠none->h.get? b=some u->h'.get? b=some u):HOk P w H h':=λa o e =>
 (x a o e).stay (λb u c q=>k b u (by
  rcases c with rfl | c
  .rw[e];intro z;cases z
  .rw[c];intro z;cases z) q) (λ_ q=>q) λ_ _ q=>q
end
structure Cov (outer:List Env) (H:Hp) (h:Heap) (H':Hp) (h' B:Heap):Prop where
 old:∀ b o,h.get? b=some o->H b=none->b∉frs outer->B.get? b=some o
 there:∀ b o,h.get? b=some o->b∉frs outer->∃ o',B.get? b=some o'
 new:∀ b o,H' b≠none->h'.get? b=some o->B.get? b=some o
def Xd (h:Heap)(a:Addr)(c:xT):Prop:=∃ b,h.get? a=some b/\b.dict=c
def Xd.stay {c:Heap}(d:Xd h a i)(k:DK h c)(e:∃ g,c.get? a=some g):Xd c a i:=by
 obtain⟨g,j,l⟩:=d
 obtain⟨b,f⟩:=e
 exact⟨b,f,(k.of j f).trans l⟩
def Air (P:zX)(w:World):CXT:=λouter H s E e a =>
 ∃ (b C t:Addr) (c:xT) (H':Hp) (B:Heap),e=.ref b/\a.os=s.os/\AllBare a.gens/\Un (frs outer) [] H H' s.heap a.heap/\HOk P w H' a.heap /\
  Heap.FlyingW B outer b (.ref C) (.ref t) a.heap/\Cov outer H s.heap H' a.heap B/\Xd a.heap b c/\E (.ref C) c H'
section
variable {X:Cx}{pins:xo}{σ:St}{H H':Hp}{s s':zi}{E:XK}{e:Value}{M:Model}{E2:xa}
def Inv.airUn (k:X.ex=[])(I:Inv X pins σ H s){g B:Heap}(J:Inv X pins σ H' s')(d:Cov X.stack H s.heap H' s'.heap B)(j:B.StaysIn g)(l:g.FunFrames B X.outer)(D:s'.heap.UpToSlots g) :
 Un X.fs [] X.H₀ H' X.s₀.heap g/\HOk X.prog X.w H' g/\Cov X.outer X.H₀ X.s₀.heap H' g B:=by
 have m:∀ b o,X.s₀.heap.get? b=some o->b≠X.env.locals:=λb o e=>j5 (j3 (t8 e) I.ok.above)
 have h:∀ b o,X.s₀.heap.get? b=some o->b∉X.fs->b∉frs X.stack:=λb o e n z=>(q3.mp (I.stkSub b z)).elim (m b o e) n
 have nx:∀ b:Addr,b∉X.ex:=by rw[k];simp
 have c:Cov X.outer X.H₀ X.s₀.heap H' g B:=by
  refine⟨λb o e n a=>d.old b o (I.base.keep b o e n a (nx b)) (I.base.free b o e n (nx b)) (h b o e a),λb o e a=>?_,λb o a e=>?_⟩
  .obtain⟨i,r⟩:=I.base.there b o e (nx b)
   exact d.there b i r (h b o e a)
  .cases q:H' b with
   | none=>exact absurd q a
   | some u =>
    obtain⟨v,x⟩:=(J.hok b u q).ex
    have z:=d.new b v a x
    have t:=j b v z
    rw[e]at t
    cases t
    exact z
 refine⟨⟨λb o e n a _=>j b o (c.old b o e n a),λb o e n a _=>?_,λb o e n _=>J.base.free b o e n (nx b),λb o e _=>?_,J.base.tups,J.base.frzs,J.base.tbls⟩,J.hok.stays λb u a y=>j b u (d.new b u a y),c⟩
 .obtain⟨F,A⟩:=J.base.slot b o e n a (nx b)
  obtain⟨_,w,f,E⟩:=I.ok.funs.mem a
  rw[e]at f
  cases f
  obtain⟨p,C⟩:=D b _ A E
  exact⟨p,C⟩
 .by_cases a:b∈X.fs
  .obtain⟨_,w,f,_⟩:=l.mem a
   exact⟨w,f⟩
  .obtain⟨i,r⟩:=c.there b o e a
   exact⟨i,j b i r⟩
def zhQ (h:X.stack=X.env::X.outer)(u:X.env.frame=some X.env.locals)(i:X.ex=[])(I:Inv X pins σ H s)(a:Air X.prog X.w X.stack H s E e s') :
 wpAny M X.A (leaving X.env e) (λ_ d=>Air X.prog X.w X.outer X.H₀ X.s₀ E e d) E2 s':=by
 obtain⟨o,C,t,A,H',B,rfl,os,c,r,m,n,j,y,x⟩:=a
 have J:Inv X pins σ H' s':=I.call' (ch:=[]) os r m c (λb z=>nomatch z)
 rw[h]at n
 refine Xg (XH _ _) (wpAny_leaves_onW (Q:=λ_ d=>∃ f,d={ s' with heap:=f }/\Heap.FlyingW B X.outer o (.ref C) (.ref t) f/\s'.heap.UpToSlots f) (by rw[I.ok.frames,h]) u n λf g l=>⟨f,rfl,g,l⟩) ?_
 rintro _ _ ⟨f,rfl,g,l⟩ D
 obtain⟨w,v,p⟩:=I.airUn i J j g.1 g.2.2.1 l
 obtain⟨q,k,_⟩:=g.there
 exact⟨o,C,t,A,H',B,rfl,os.trans I.os,c,w,v,g,p,y.stay D ⟨q,k⟩,x⟩
end
def X0 {P:zX}{w:World}{K:zu}{h:wH}{c:Heap}{N:zr}{d:Str}{b:Scope}{f:Addr}{g:Value}{A:z5}{outer:List Env}{s:zi}{H:Hp}{E:XK} :
 Ys (Air P w) (vQ (Air P w) P w K h c N d b f g A outer s H E) E:=λi σ H1 j e k I a =>
 zhQ (X:=vQ (Air P w) P w K h c N d b f g A outer s H E) rfl rfl rfl I a
def zeU:PA X a (λ_ _ _=>False):=λ_ _ _ _ _ _ _ h=>h.elim
end L2
namespace Dl
open PySem L2
def pay (j:Nat):Option (List (Str × V)):=match j/16%4 with
 | 0=>none
 | 1=>some [("at",.int ((j/64:Nat)-1))]
 | 2=>some [("row",.int ((j/64:Nat)-1))]
 | _=>some [("many",.int ((j/64/1024:Nat):Int)),("most",.int ((j/64%1024:Nat):Int))]
variable [KK]
section
variable (E:XK)(cl:Nat->Addr)
def EJ (j:Nat)(H:Hp):Prop:=match pay j with
 | none=>E (.ref (cl j)) none H
 | some b=>∀ a,H a=none->E (.ref (cl j)) (some a) (upd H a (.xd b))
def Wi (F H:Hp)(j:Nat):Prop:=∀ F' H',Gr F H F' H'->EJ E cl j H'
def RXE (t:TE)(a:zfu):Prop:=∀ (σ:St) (ρ:Ev) (F H:Hp) (j:Nat) (Q:VK),yt F H->VAt F ρ σ->a ρ=some j->Wi E cl F H j->t σ H Q
def RXA (t:TA)(a:zfu):Prop:=∀ (σ:St) (ρ:Ev) (F H:Hp) (j:Nat) (Q:zz->Hp->Prop),yt F H->VAt F ρ σ->a ρ=some j->Wi E cl F H j->t σ H Q
def RXS (t:TS)(a:xR):Prop:=∀ (Fb Hb F H:Hp) (ρ:SE) (σ:St) (D':WO) (j:Nat),Rl Fb Hb F H ρ σ->a ρ=some j->Wi E cl Fb Hb j->t D' σ H
def XE (X:Cx)(e:Expr)(a:zfu):Prop:=∃ t,PE X e t/\RXE E cl t a
def XA (X:Cx)(b:yK)(a:zfu):Prop:=∃ t,PA X b t/\RXA E cl t a
def XS (X:Cx)(b:Stmt)(a:xR):Prop:=∃ t,PS X b t/\RXS E cl t a
def XSs (X:Cx)(a:v3)(b:xR):Prop:=∃ t,PSs X a t/\RXS E cl t b
end
section
variable {E:XK}{cl:Nat->Addr}{X:Cx}{a b c e:Expr}{es:yK}{st:Stmt}{sts:v3}{pos pos':Pos}
def Wi.grow (w:Wi E cl F H j)(g:Gr F H F1 H1):Wi E cl F1 H1 j:=λF' H' a=>w F' H' (g.trans a)
def Wi.out (w:Wi E cl Fb Hb j)(a:Rl Fb Hb F H ρ σ):Wi E cl (gOf ρ σ F H) H j:=λF' H' g=>w F' H' (a.out g)
def spX (cl:Nat->Addr)(m:Nat)(r:zhB):Sp:=λb H _ E=>∃ a j F,a.length=m/\yt F H/\AtL F a b/\r a=some j/\Wi E cl F H j
def V5 (m:Nat)(r:zhB)(f:yT):zfu:=fun ρ=>(f ρ).bind λa=>if a.length=m then r a else none
def zdh {f:Addr} (F:vP X.prog X.w X.K X.mg X.base (Air X.prog X.w) k f l h (spX cl m r)) (o:Ys (Air X.prog X.w) X E) (G:wF k X.A) (J:Gl X x) (I:X.mg x=some (.ref f)) (y:W.keepIn X.K (.ref f)=true) (A:YB X.K l h []) (u:AD X (e::es) d) (c:(x == ("__debug__":Str))=false:=by decide) (q:starEach (e::es) X.env=(false,eval e X.env)::starEach es X.env:=by rfl) (b:(backTo pos (starEach es X.env)).any (·.1)=false:=by rfl) :
 XE E cl X (.Call (.Name x v) (e::es) [] pos) (V5 m r d):=by
 obtain⟨t,z,n⟩:=u
 refine⟨_,zci F G J I y A .nil o z c q b,fun σ ρ F0 H j Q s B e w=>?_⟩
 obtain⟨g,p,a⟩:=u4.mp e
 split at a <;> try cases a
 rename_i K
 refine n σ ρ F0 H g _ s B p λF1 H1 L i C=>?_
 exact⟨g,j,F1,K,i.fh,by rw[n0];exact C,a,w.grow i⟩
def zgL {b:zfu}(h:XE E cl X a b)(c:starEach (a::es) X.env=(false,eval a X.env)::starEach es X.env:=by rfl):XA E cl X (a::es) b:=by
 obtain⟨t,p,r⟩:=h
 exact⟨_,zy p zeU c,fun σ ρ F H j Q s d e w=>r σ ρ F H j _ s d e w⟩
def zfy {i:Nat}{b:zfu}(g:X.N.Nodup)(d:X.N[i]?=some x)(c:Loc X.env.scope x)(h:XE E cl X e b)(f:swapsWith e (some (.Name x pos')) pos.line X.env=pure false:=by rfl)(k:X.fn x=true\/X.env.scope.names.lookup x=some .local:=by first | exact .inl rfl | exact .inr rfl | assumption):XS E cl X (.Assign [.Name x pos'] e pos) (fun ρ=>b (visG ρ)):=by
 obtain⟨t,p,r⟩:=h
 exact⟨_,Xe g d c p f k,λFb Hb F H ρ σ D' j a e w=>r σ _ _ H j _ a.gh a.visG e (w.out a)⟩
noncomputable def xIf (t:vO)(g h:xR):xR:=fun ρ=>match t (visG ρ) with
 | some true=>g ρ
 | some false=>h ρ
 | none=>none
def za8 {e f:v3}{g:xR}(m:TD X c t)(l:XSs E cl X e g)(o:XSs E cl X f h):XS E cl X (.If c e f pos) (xIf t g h):=by
 obtain⟨x,q,p⟩:=m
 obtain⟨u,n,i⟩:=l
 obtain⟨v,s,r⟩:=o
 refine⟨_,zeM q n s,λFb Hb F H ρ σ D' j b k w=>?_⟩
 unfold xIf at k
 cases h:t (visG ρ) with
 | none=>rw[h]at k;cases k
 | some d =>
  rw[h]at k
  refine p σ _ _ H d _ b.gh b.visG h λF' H' g=>?_
  have a:=b.grow (b.back g).1
  cases d with
  | true=>rw[j0 rfl];exact i Fb Hb _ H' ρ σ D' j a k w
  | false=>rw[j6 u9];exact r Fb Hb _ H' ρ σ D' j a k w
def xNo:xR:=λ_=>none
def ZU:XS E cl X st xNo:=⟨_,zaP,λ_ _ _ _ _ _ _ _ _ h _=>by cases h⟩
def wB {g:xR}(h:XS E cl X st g):XSs E cl X [st] g:=let ⟨_,p,r⟩:=h;⟨_,Yz p,r⟩
noncomputable def XT (b:xR)(g:zU)(c:xR):xR:=fun ρ=>match b ρ with
 | some j=>some j
 | none=>match g ρ with
  | .nx a=>c a
  | _=>none
def vx {c:xR}{g:zU}(x:XS E cl X st c)(z:SD X st g)(y:XSs E cl X sts i):XSs E cl X (st::sts) (XT c g i):=by
 obtain⟨r,n,m⟩:=x
 obtain⟨q,A,v⟩:=z
 obtain⟨u,p,t⟩:=y
 have f:PS X st (λD σ H=>r D σ H\/q D σ H):=λa s σ H D I h=>h.elim (n a s σ H D I) (A a s σ H D I)
 refine⟨_,wr f p,λFb Hb F H ρ σ D' j l k w=>?_⟩
 unfold XT at k
 cases d:c ρ with
 | some C =>
  rw[d]at k
  cases k
  exact .inl (m Fb Hb F H ρ σ _ j l d w)
 | none =>
  rw[d]at k
  dsimp only at k
  cases b:g ρ with
  | nx o =>
   rw[b]at k
   refine .inr (v Fb Hb F H ρ σ _ l ?_)
   rw[b]
   exact λF' H' B e=>t Fb Hb F' H' o B D' j e k w
  | rt _=>rw[b]at k;cases k
  | bk _=>rw[b]at k;cases k
  | ct _=>rw[b]at k;cases k
  | no=>rw[b]at k;cases k
def zcT {g:xR}(h:XS E cl X st g):XSs E cl X (st::sts) g:=by
 obtain⟨t,p,r⟩:=h
 exact⟨_,wr p (λ_ _ _ _ _ _ h=>(h:False).elim),λFb Hb F H ρ σ D' j a k w=>r Fb Hb F H ρ σ _ j a k w⟩
end
noncomputable def fnX (n:Nat)(b:xR)(a:zo):Option Nat:=b (a.map .v++List.replicate (n-a.length) .no)
def zfK {w:World}{g:Heap}{f:Addr}{N ps:zr}(Fu:Fun K x b i f u)(S:we N ps (zw i))(D:∀ (c:Value) (A:z5) (outer:List Env) (s:zi) (H:Hp) (E:XK),wF k (A.deeper (PyProof.Rows.envOfC b (zw i) s.heap.objs.size f c))->XSs E cl (vQ (Air P w) P w K n g N b (zw i) f c A outer s H E) (xb i) gx) :
 vP P w K n g (Air P w) (k+1) f u ps (spX cl ps.length (fnX N.length gx)):=by
 obtain⟨L,M,kV,v,J,O,c,ct,C,rfl,B,l⟩:=Fu.ex
 refine zhV B l S (λz H Q E h=>?_) λA outer s H z Q E G m=>?_
 .obtain⟨y,d,F,o,_,a,_⟩:=h
  rw[a.length];exact o
 .obtain⟨y,j,F,o,I,a,e,q⟩:=m
  obtain⟨t,p,r⟩:=D c A outer s H E G
  exact⟨t,p,r F H F H _ _ _ j (Wa I a) e q⟩
end Dl
namespace L2
open PySem PySem.Spec PyProof.Rows
section
variable {X:Cx}{pins:xo}{σ:St}{H H':Hp}{s s':zi}{E:XK}{e:Value}{E2:xa}{B h3:Heap}
def Inv.caught (I:Inv X pins σ H s)(os:s'.os=s.os)(g:AllBare s'.gens)(f:Un (frs X.stack) [] H H' s.heap s'.heap)(w:HOk X.prog X.w H' s'.heap)(d:Cov X.stack H s.heap H' s'.heap B)
 (t:B.StaysIn h3) (q:h3.FunFrames B X.stack) (A:s'.heap.UpToSlots h3):Inv X pins σ H' { s' with heap:=h3 }:=by
 obtain⟨N,j,v,i,h⟩:=s'
 have C:h=s.os:=os
 subst C
 have nil:∀ b:Addr,b∉([]:xw):=λb z=>nomatch z
 show Inv X pins σ H' { s with heap:=h3,gens:=j,drawn:=v,toks:=i }
 refine I.step (s:=s) (g':=j) (d':=v) (t':=i) (ch:=[]) (λb z=>nomatch z) (λb o x c _ e n=>t b o (d.old b o e n λz=>(q3.mp (I.stkSub b z)).elim x c)) (λb o x c _ e n=>?_) (λb o _ e n=>f.free b o e n (nil b)) (λb o _ e=>?_) f.tups f.frzs f.tbls (λm M=>?_) (w.stays λb u c D=>t b u (d.new b u c D)) g
 .obtain⟨L,l⟩:=f.any e n (nil b)
  obtain⟨_,y,a,p⟩:=I.funs.mem c
  rw[e]at a
  cases a
  obtain⟨k,G⟩:=A b _ l p
  exact⟨k,G⟩
 .by_cases c:b∈frs X.stack
  .obtain⟨_,y,a,_⟩:=q.mem c
   exact⟨y,a⟩
  .obtain⟨h,E⟩:=d.there b o e c
   exact⟨h,t b h E⟩
 .obtain⟨o,F,K,J,p,r⟩:=M
  obtain⟨L,l⟩:=f.any J I.free (nil _)
  exact A.ns ⟨_,F,K,l,p,r⟩
def za6 (l:X.stack=X.env::X.outer)(hf:X.env.frame=some X.env.locals)(P:X.ex=[])(I:Inv X pins σ H s)(a:Air X.prog X.w X.stack H s E e s') (k:∀ (b C t:Addr) (v:xT) (H':Hp) (B h3:Heap),E (.ref C) v H'->Xd h3 b v->H' b=none->(∀ n,X.s₀.heap.get? b=some n->False)->(∀ p∈X.pn++pins,p.1≠b)->Heap.FlyingW B X.stack b (.ref C) (.ref t) h3->(∀ x:Heap,B.StaysIn x->x.FunFrames B X.stack->h3.UpToSlots x->Inv X pins σ H' { s' with heap:=x }) ->
 e=.ref b->wpAny M X.A (handleBy (.ref b) X.env U) Q E2 { s' with heap:=h3 }) :
 wpAny M X.A (noteFrame e X.env) (λ_ s₂=>wpAny M X.A (setFlight e none) (λ_ Y=>wpAny M X.A (handleBy e X.env U) Q E2 Y) E2 s₂) E2 s':=by
 obtain⟨b,C,t,v,H',B,rfl,os,o,W,A,F,i,di,hE⟩:=a
 have N:X.A.frames=some (X.env::X.outer):=by rw[I.ok.frames,l]
 have y:=F
 rw[l]at y
 refine Xg (ZE _ _) (wpAny_looks_onW (Q:=λ_ j=>∃ g,j={ s' with heap:=g }/\Heap.HeldW B (X.env::X.outer) b (.ref C) (.ref t) X.env.locals g/\s'.heap.UpToSlots g) N hf y λg c m=>⟨g,rfl,c,m⟩) ?_
 rintro _ _ ⟨g,rfl,c,m⟩ R
 refine Xg (vW _ _) (wpAny_landsW (Q:=λ_ j=>∃ h3,j={ s' with heap:=h3 }/\Heap.FlyingW B (X.env::X.outer) b (.ref C) (.ref t) h3/\g.UpToSlots h3) (s:={ s' with heap:=g }) c λh3 d h=>⟨h3,rfl,d,h⟩) ?_
 rintro _ _ ⟨h3,rfl,d,h⟩ K
 have S:Xd h3 b v:=by
  obtain⟨G,J,_⟩:=d.there
  exact di.stay (DK.trans R K) ⟨G,J⟩
 rw[<-l]at d
 have w:B.get? b=none:=F.2.1
 have L:b∉frs X.stack:=λz=>by
  obtain⟨_,O,r,T⟩:=F.2.2.1.mem z
  obtain⟨oe,V,_,_,_,Z,_,hd,_⟩:=F.2.2.2
  rw[Z]at r
  cases r
  exact T V hd
 have f:∀ n,s.heap.get? b=some n->False:=λn z=>by
  obtain⟨O,D⟩:=i.there b n z L
  rw[w]at D
  cases D
 refine k b C t v H' B h3 hE S ?_ (λn z=>?_) (λp hp z=>?_) d (λx b1 b2 b3=>I.caught os o W A i b1 b2 ((m.trans h).trans b3)) rfl
 .cases q:H' b with
  | none=>rfl
  | some u =>
   obtain⟨G,ho⟩:=(A b u q).ex
   have z:=i.new b G (by rw[q];intro z;cases z) ho
   rw[w]at z
   cases z
 .obtain⟨O,D⟩:=I.base.there b n z (by rw[P];intro z;cases z)
  exact f O D
 .exact f p.2 (z ▸ (I.pin p hp).1)
end
abbrev Cx.held (X:Cx)(e:Value):Cx:={ X with A:=X.A.mark (some e),calm:=false }
section
variable {X:Cx}{pins:xo}{σ:St}{H H':Hp}{s s':zi}{E:xa}{e:Value}{M:Model}{A:z5}
def Cx.Ok.held (ok:X.Ok)(e:Value):(X.held e).Ok :=
 ⟨ok.mod,ok.kind,ok.glob,ok.blt,ok.above,ok.inj,ok.has,ok.cab,(λz=>by cases z),ok.frames,ok.stk,ok.exf,ok.bs,ok.bsz,ok.noex,ok.exfs,ok.funs,ok.frf⟩
def Inv.held (I:Inv X pins σ H s)(e:Value):Inv (X.held e) pins σ H s:=⟨I.ok.held e,I.os,I.bare,I.base,I.loc,I.cell,I.free,I.freeC,I.pin,I.hok,I.len⟩
def Inv.unheld (ok:X.Ok)(I:Inv (X.held e) pins σ H s):Inv X pins σ H s:=⟨ok,I.os,I.bare,I.base,I.loc,I.cell,I.free,I.freeC,I.pin,I.hok,I.len⟩
def YL {i:Nat}{D:Pos}{Q:Unit->Shared->Prop}(I:Inv X pins σ H s)(V:X.N.Nodup)(L:X.N[i]?=some x)(T:X.env.scope.names.lookup x=some .local)(h:∀ s',Inv X pins (σ.set i none) H s'->Q () s'):wpAny M A (do bindName X.env x .none;unbindBehindTheSuite X.env x D) Q E s:=by
 obtain⟨m,N,hl⟩:=id I.loc
 have t:(X.env.scope.kind == .class||(X.env.scope.kind == .module&&X.env.locals != X.env.globals))=false:=by rw[I.ok.kind];rfl
 have G:i<σ.length:=by rw[I.len];exact(q4.mp L).1
 have u:=I.cne
 refine wpAny_nameGoes_keeps T N t λh' v C f=>?_
 obtain⟨oL,_,_,a0,_⟩:=id N
 have a:HOk X.prog X.w H h':=λb S e=>by
  refine(I.hok b S e).stay (λc K B q=>(f.2 c ?_).trans q) (λ_ q=>q) λ_ _ q=>q
  rintro rfl
  rcases B with rfl | B
  .rw[I.free]at e;cases e
  .rw[I.free]at B;cases B
 have g:∀ b o,X.s₀.heap.get? b=some o->b≠X.env.locals:=λb o e=>j5 (j3 (t8 e) I.ok.above)
 refine h _ ⟨I.ok,I.os,I.bare,⟨λb o e n F r=>?_,λb o e n F r=>?_,I.base.free,λb o e r=>?_,I.base.tups,I.base.frzs,I.base.tbls⟩,⟨_,C,λj y R l w W=>?_⟩,λy c e=>?_,I.free,I.freeC,λp hp=>?_,a,by simpa using I.len⟩
 .exact(f.2 b (g b o e)).trans (I.base.keep b o e n F r)
 .obtain⟨sl,l⟩:=I.base.slot b o e n F r
  exact⟨sl,(f.2 b (g b o e)).trans l⟩
 .obtain⟨Y,l⟩:=I.base.there b o e r
  exact⟨Y,(f.2 b (g b o e)).trans l⟩
 .by_cases J:j=i
  .subst J
   rw[r6 G]at w
   cases w
  .rw[t3 (u0d J)]at w
   obtain⟨U,P,q⟩:=hl j y R l w W
   refine⟨U,P,?_⟩
   rcases q with ⟨k,e⟩ | ⟨k,c,e,z⟩
   .refine .inl ⟨k,?_⟩
    have:y≠x:=λe=>J (WG V l (e ▸ L))
    simp[this,e]
   .exact .inr ⟨k,c,e,z.sameBut f (u y c e)⟩
 .obtain⟨K,z⟩:=I.cell y c e
  exact⟨K,z.sameBut f (u y c e)⟩
 .obtain⟨e,n,O,Z,d⟩:=I.pin p hp
  exact⟨(f.2 p.1 O).trans e,n,O,Z,d⟩
def zbP (a C:Addr)(c:xT):HO:=.ext λh=>∃ b,h.get? a=some b/\b.cls=.ref C/\b.dict=c/\W.notCls b=true
def Inv.track {A:Obj}(I:Inv X pins σ H s)(h:H a=none)(B:s.heap.get? a=some A)(C:A.data=.fields G)(h0:∀ J,X.s₀.heap.get? a=some J->False)(hp:∀ p∈X.pn++pins,p.1≠a)(w:xI X.prog X.w (upd H a o) s.heap a o):Inv X pins σ (upd H a o) s:=by
 have t:X.env.locals≠a:=by
  rintro rfl
  obtain⟨m,⟨P,O,Q,r,i,_⟩,_⟩:=I.loc
  rw[B]at r
  cases r
  rw[C]at i
  cases i
 have y:∀ x c,X.env.cells.lookup x=some c->c≠a:=λx c e=>by
  rintro rfl
  obtain⟨v,N,l,k⟩:=I.cell x c e
  rw[B]at l
  cases l
  rw[C]at k
  cases k
 refine⟨I.ok,I.os,I.bare,⟨I.base.keep,I.base.slot,λb u e n F=>?_,I.base.there,λb D e=>?_,λb u v e=>?_,λb L e=>?_⟩,I.loc,I.cell,?_,λx c e=>?_,λp E=>?_,λb u e=>?_,I.len⟩
 .rw[zn (λz:b=a=>h0 u (z ▸ e))]
  exact I.base.free b u e n F
 .have f:=I.base.tups b D e
  rw[zn (zj f h)]
  exact f
 .have f:=I.base.frzs b u v e
  rw[zn (zj f h)]
  exact f
 .obtain⟨g,f⟩:=I.base.tbls b L e
  exact⟨g,by rw[zn (zj f h)];exact f⟩
 .rw[zn t]
  exact I.free
 .rw[zn (y x c e)]
  exact I.freeC x c e
 .obtain⟨e,n,M,K,d⟩:=I.pin p E
  exact⟨e,by rw[zn (hp p E)];exact n,M,K,d⟩
 .by_cases c:b=a
  .subst c
   rw[zx]at e
   cases e
   exact w
  .rw[zn c]at e
   refine(I.hok b u e).stay (λ_ _ _ q=>q) (λc j=>?_) λc D j=>?_
   .rw[zn (zj j h)];exact j
   .rw[zn (zj j h)];exact j
end
abbrev Cx.pinned (X:Cx)(a:xo):Cx:={ X with pn:=X.pn++a }
section
variable {X:Cx}{pins ps:xo}{σ:St}{H H':Hp}{s s':zi}
def Cx.Ok.pinned (ok:X.Ok)(ps:xo):(X.pinned ps).Ok :=
 ⟨ok.mod,ok.kind,ok.glob,ok.blt,ok.above,ok.inj,ok.has,ok.cab,ok.hd,ok.frames,ok.stk,ok.exf,ok.bs,ok.bsz,ok.noex,ok.exfs,ok.funs,ok.frf⟩
def Inv.pinAll (I:Inv X pins σ H s):Inv (X.pinned pins) [] σ H s:=⟨I.ok.pinned pins,I.os,I.bare,I.base,I.loc,I.cell,I.free,I.freeC,λp hp=>I.pin p (by rw[n0]at hp;exact hp),I.hok,I.len⟩
def Inv.unpin (ok:X.Ok)(I:Inv (X.pinned pins) ps σ H s):Inv X pins σ H s:=⟨ok,I.os,I.bare,I.base,I.loc,I.cell,I.free,I.freeC,λp hp=>I.pin p (u0I _ hp),I.hok,I.len⟩
end
abbrev gone (i:Nat)(D:WO):WO:={ nx:=fun σ H=>D.nx (σ.set i none) H,rt:=D.rt,bk:=fun σ H=>D.bk (σ.set i none) H,ct:=fun σ H=>D.ct (σ.set i none) H }
def exW (K:zu)(CS:Addr)(i n:Nat)(u:TS)(D:WO):XK:=λcls b H'=>∃ C,cls=.ref C/\W.exmOne K (.ref C) (.ref CS)=some true/\∀ (a:Addr) (σ:St),σ.length=n->H' a=none->u (gone i D) (σ.set i (some (.ref a))) (upd H' a (zbP a C b))
def zi6 {Y:Cx} {i:Nat} {g:v3} {tb:XK->TS} (Z:Y.stack=Y.env::Y.outer) (hf:Y.env.frame=some Y.env.locals) (a7:Y.ex=[]) (K:Y.N.Nodup) (F:Y.N[i]?=some n) (w:Y.env.scope.names.lookup n=some .local) (hg:Gl Y x) (hm:Y.mg x=some (.ref CS)) (r:∀ (ps:xo) (W:xa) (E0:XK),Ys (Air Y.prog Y.w) ((Y.pinned ps).wish W) E0->PSs ((Y.pinned ps).wish W) m (tb E0)) (l:∀ d,PSs (Y.held (.ref d)).nox (b₀::g) u) (hd:(x == ("__debug__":Str))=false:=by decide) :
 PS Y.nox (.Try m [.ExceptHandler (some (.Name x np)) (some n) (b₀::g) O] [] [] U) (λD σ H=>tb (exW Y.K CS i Y.N.length u D) D σ H):=by
 intro c s σ H D I h
 have ok:Y.Ok:=I.ok.unwish
 have IY:Inv Y c σ H s:=I.unwish
 refine wpAny_Try_except ?_
 refine n8 (r c _ (exW Y.K CS i Y.N.length u D) ?_ [] s σ H D (IY.pinAll.wish _) h) ?_ λe s₁ h=>h
 .intro a1 R H1 s1 e N I1 a
  have I1':Inv Y c R H1 s1:=I1.unwish.unpin ok
  refine za6 (X:=Y) Z hf a7 I1' a λd C t od H' B J hE a2 L h0 a4 y p ee=>?_
  obtain⟨C',ec,A,hu⟩:=hE
  cases ec
  have I3:Inv Y c R H' { N with heap:=J }:=p J y.1 y.2.2.1 (.refl _)
  obtain⟨ob,V,P⟩:=y.there
  have ty:PySem.W.Looks (model Y.prog Y.w) J (typeOf (.ref d)) (.ref C):=P ▸ (PySem.W.Looks.ld V).andThen .now
  refine wpAny_handleBy_cons (codeAny_handlers_test (Zf (X:=Y.held (.ref d)) (I3.held (.ref d)) hg hm ?_ hd)) (by intro q;cases q)
  refine(PySem.W.exm_one (M:=model Y.prog Y.w) I3.kIn ty A).here ?_
  refine codeAny_handlers_suite_as ?_
  refine Xg (vW _ _) (wpAny_setFlight_noneW (Q:=λ_ T=>∃ k,T={ N with heap:=k }/\B.StaysIn k/\k.FunFrames B Y.stack/\k.TracedW B d (.ref C) (.ref t)/\∀ b o,J.get? b=some o->(∀ vs,o.data≠.fields vs)->k.get? b=some o) (s:={ N with heap:=J }) y.1 y.2.2.1 y.2.2.2.at λk k1 k2 k3 k4=>⟨k,rfl,k1,k2,k3,k4⟩) ?_
  rintro _ _ ⟨k,rfl,k1,k2,k3,k4⟩ a0
  have I4:Inv Y c R H' { N with heap:=k }:=p k k1 k2 λb o hb hn=>⟨o.slots,k4 b o hb hn⟩
  obtain⟨S,vs,_,_,_,G,a3,z,_⟩:=k3
  obtain⟨a8,E,a5⟩:=a2.stay a0 ⟨S,G⟩
  rw[G]at E
  cases E
  have a6:PySem.W.notCls S=true:=by unfold PySem.W.notCls;rw[z]
  have I5:Inv Y c R (upd H' d (zbP d C od)) { N with heap:=k }:=I4.track L G z h0 a4 ⟨⟨S,G,a3.1,a5,a6⟩,⟨S,G⟩,λh1 h2 ⟨o1,e1,e2⟩ kk=>⟨o1,kk o1 e1,e2⟩⟩
  refine Y2 (X:=Y.held (.ref d)) (v:=.ref d) (I5.held (.ref d)) K F (.inl w) rfl (λs6 I6=>?_) (.inr w)
  refine n8 (l d c s6 _ _ (gone i D) (I6.wish _) (hu d R I4.len L)) (λf s7 q=>?_) λx s7 q=>q.elim
  cases f with
  | ret uv =>
   obtain⟨v,j,H7,I7,rv,q⟩:=q
   exact YL ((Inv.unheld (X:=Y) ok I7.unwish)) K F w λs8 I8=>⟨v,_,H7,I8.wish _,rv,q⟩
  | next =>
   obtain⟨j,H7,I7,q⟩:=q
   exact YL ((Inv.unheld (X:=Y) ok I7.unwish)) K F w λs8 I8=>⟨_,H7,I8.wish _,q⟩
  | brk =>
   obtain⟨j,H7,I7,q⟩:=q
   exact YL ((Inv.unheld (X:=Y) ok I7.unwish)) K F w λs8 I8=>⟨_,H7,I8.wish _,q⟩
  | cont =>
   obtain⟨j,H7,I7,q⟩:=q
   exact YL ((Inv.unheld (X:=Y) ok I7.unwish)) K F w λs8 I8=>⟨_,H7,I8.wish _,q⟩
 .intro f s₁ q
  cases f with
  | ret uv =>
   obtain⟨v,j,H7,I7,rv,q⟩:=q
   exact⟨v,j,H7,(Inv.unpin (X:=Y) ok I7.unwish).wish _,rv,q⟩
  | next =>
   obtain⟨j,H7,I7,q⟩:=q
   exact u1A ⟨j,H7,(Inv.unpin (X:=Y) ok I7.unwish).wish _,q⟩
  | brk =>
   obtain⟨j,H7,I7,q⟩:=q
   exact⟨j,H7,(Inv.unpin (X:=Y) ok I7.unwish).wish _,q⟩
  | cont =>
   obtain⟨j,H7,I7,q⟩:=q
   exact⟨j,H7,(Inv.unpin (X:=Y) ok I7.unwish).wish _,q⟩
end L2
namespace L2
open PySem PySem.Spec PyProof.Rows PySem.W PySem.Calls PySem.Builtin PySem.Builtin.Getset_descriptor
section
variable {prog:zX}{w:World}{A:z5}{E:xa}{K:zu}{h:Heap}{g:Array GenState}{d:Drawn}{t:Nat}{os:OsState}{a C:Addr}{o:Obj}
def Of (h:Heap)(a:Addr)(o:Obj)(C:Addr):Prop:=h.get? a=some o/\o.cls=.ref C
def Of.type (I:Of h a o C):Looks M h (typeOf (.ref a)) (.ref C):=I.2 ▸ (Looks.ld I.1).andThen .now
def zcu (X:K.In h) (d:findIn K (.ref C) b=some (some x)) (f:specialIn K x "__get__"=some (some c)) (e:takesIn K x=some true):Looks M h (Builtin.ObjectAttr.find (.ref a) (.ref C) b) (.bind c x):=by
 have L1:=looks_findIn (M:=M) X d
 have L2:Looks M h (Builtin.ObjectAttr.getOf (some x)) (some c):=looks_specialIn X f
 have L3:=looks_takesIn (M:=M) X e
 exact L1.andThen (L2.andThen ((show Looks M h (Builtin.ObjectAttr.dataDescriptor? (some x) (some c)) (some (c,x))from L3.andThen .now).andThen (Looks.tag .now)))
def zhb {R:Result->Shared->Prop} {tp:Value} (X:K.In h) (I:Of h a o C) (b:mroIn K C (.type "object")=some true) (c:R (.ok (.ret (.ref C))) ⟨h,g,d,t,os⟩) :
 codeAny (model prog w) A (.call (.builtin "getset_descriptor.__get__") ⟨[.builtin "object.__class__",.ref a,tp],[]⟩) R ⟨h,g,d,t,os⟩:=by
 have L0:=I.type (M:=model prog w)
 have L1:=looks_mroIn (M:=model prog w) X b
 refine i6 KF.slot_gs.plain KF.entry_gs (KF.slot_gs.check _ _ _ _ _ _ _ _ KF.type_class (KF.args_gs _ _ _) ?_)
 unfold Builtin.«getset_descriptor.__get__» descrGet
 rw[dga_obj]
 refine u5 (t9 ?_)
 unfold descrGetter descrCheckInstance descrNameAndClass isInstance
 simp only[KF.owner_class]
 repeat lk
 refine⟨u0O _ (by decide +kernel),codeAny_builtin KF.entry_class ?_⟩
 unfold Builtin.«object.__class__» shownTypeOf
 repeat lk
 exact c
def zcE {Q:Fin->Shared->Prop} (X:K.In h) (I:Of h a o C) (b:findIn K (.ref C) "__class__"=some (some (.builtin "object.__class__"))) (f:specialIn K (.builtin "object.__class__") "__get__"=some (some (.builtin "getset_descriptor.__get__"))) (c:takesIn K (.builtin "object.__class__")=some true) (e:mroIn K C (.type "object")=some true) (j:Q (.done (.ret (.ref C))) ⟨h,g,d,t,os⟩):wpAny (model prog w) A (Builtin.«object.__getattribute__» ⟨[.ref a,.str "__class__" i],[]⟩) Q E ⟨h,g,d,t,os⟩:=by
 have L0:=I.type (M:=model prog w)
 have L1:=zcu (M:=model prog w) (a:=a) X b f c
 refine u5 (t9 (u5 ?_))
 refine t9 (u5 (L0.at (u5 (L1.at ?_))))
 show wpAny _ _ (holding [.builtin "object.__class__"] (call (.builtin "getset_descriptor.__get__") [.builtin "object.__class__",.ref a,.ref C])>>=ret) _ _ _
 exact u5 (l5 (u0N (zhb X I e (t9 j))))
def zdK {Q:Unit->Shared->Prop} (X:K.In h) (I:Of h a o C) (e:subIn K (.ref C) (.type "BaseException")=some true) (j:Q () ⟨h,g,d,t,os⟩):wpAny M A (checkBuiltinCall "BaseException.__getattribute__" ⟨[.ref a,b],[]⟩) Q E ⟨h,g,d,t,os⟩:=by
 have f:builtinKind "BaseException.__getattribute__"=some .slot:=by decide +kernel
 have c:splitId "BaseException.__getattribute__"=some ("BaseException","__getattribute__"):=by decide +kernel
 have i:=F.args_bexc_ga (.ref a) b
 have L0:=I.type (M:=M)
 have L1:Looks M h (isSubtype (.ref C) (.type "BaseException")) true:=looks_subIn X e
 simp only[checkBuiltinCall,f,c]
 refine u5 ?_
 unfold isInstance
 refine u5 (L0.at (L1.at ?_))
 repeat (first | assumption | wp_step)
def ziM {f:Tok} {Q:xa} (X:K.In h) (I:Of h a o C) (e:findIn K (.ref C) "__getattribute__"=some (some (.builtin "BaseException.__getattribute__"))) (c:findIn K (.ref C) "__getattr__"=some none)
 (j:findIn K (.ref C) "__class__"=some (some (.builtin "object.__class__"))) (n:specialIn K (.builtin "object.__class__") "__get__"=some (some (.builtin "getset_descriptor.__get__"))) (k:takesIn K (.builtin "object.__class__")=some true) (l:mroIn K C (.type "object")=some true) (i:subIn K (.ref C) (.type "BaseException")=some true) (p:Q (.ref C) ⟨h,g,d,t,os⟩) :
 wpAny (model prog w) A (getAttrBy (.ref a) (.str "__class__" f) false) Q E ⟨h,g,d,t,os⟩:=by
 have L0:=I.type (M:=model prog w)
 have L1:=looks_findIn (M:=model prog w) X e
 have L2:=looks_findIn (M:=model prog w) X c
 have m:=F.attrBase_ValueError.ga.bind (.ref a)
 have b:(Value.builtin "BaseException.__getattribute__" == Value.builtin "object.__getattribute__")=false:=by decide +kernel
 unfold getAttrBy
 refine l5 (u5 (L0.at (u5 (L1.at ?_))))
 dsimp only
 rw[b,u0y,j6 u9]
 unfold getAttrByItsOwn
 refine u5 ?_
 show wpAny _ _ (typeLookup (.ref C) "__getattr__") _ _ _
 refine L2.at (u5 (u0W (l5 ?_)))
 show wpAny _ _ (boundAndCalled (.builtin "BaseException.__getattribute__") (.ref a) (.str "__class__" f)) _ _ _
 unfold boundAndCalled
 rw[m]
 refine u5 (t9 ?_)
 refine u0N (i6 F.attrBase_ValueError.ga.plain F.entry_bexc_ga (zdK X I i (zcE X I j n k l ?_)))
 exact handed_on rfl p
def zcZ {Q:Option Value->Shared->Prop} {s:zi} (X:K.In s.heap) (I:Of s.heap a o C) (c:findIn K (.ref C) "__getattribute__"=some (some (.builtin "BaseException.__getattribute__"))) (b:findIn K (.ref C) "__getattr__"=some none)
 (f:findIn K (.ref C) "__class__"=some (some (.builtin "object.__class__"))) (j:specialIn K (.builtin "object.__class__") "__get__"=some (some (.builtin "getset_descriptor.__get__"))) (h:takesIn K (.builtin "object.__class__")=some true) (i:mroIn K C (.type "object")=some true) (e:subIn K (.ref C) (.type "BaseException")=some true)
 (k:Q (some (.ref C)) { s with toks:=s.toks+1 }):wpAny (model prog w) A (getAttr? (.ref a) "__class__") Q E s:=by
 obtain⟨l,g,d,t,os⟩:=s
 unfold getAttr? getAttrBy?
 exact u5 (wpAny_mkText (u5 (u0W (ziM X I c b f j h i e (t9 k)))))
def wE (K:zu) (C:Addr):Bool:=(clsIn K C).isSome&&findIn K (.ref C) "__getattribute__" == some (some (.builtin "BaseException.__getattribute__"))&&findIn K (.ref C) "__getattr__" == some none&&findIn K (.ref C) "__class__" == some (some (.builtin "object.__class__"))
 && specialIn K (.builtin "object.__class__") "__get__" == some (some (.builtin "getset_descriptor.__get__"))&&takesIn K (.builtin "object.__class__") == some true&&mroIn K C (.type "object") == some true&&subIn K (.ref C) (.type "BaseException") == some true
def zeS (q:wE K C=true):KitX K (.ref a) (.ref C) (λh=>∃ o,Of h a o C):=by
 unfold wE at q
 simp only[t5,u0z]at q
 obtain⟨⟨⟨⟨⟨⟨⟨c,i⟩,l⟩,r⟩,w⟩,s⟩,t⟩,m⟩:=q
 obtain⟨x,b⟩:=u1U.mp c
 unfold clsIn at b
 refine⟨λ_ _ _ ⟨_,I⟩=>I.type,λ_ _ X _=>?_,λh tp B v n A X d=>?_,λX ⟨_,I⟩ k=>zcZ X I i l r w s t m k⟩
 .split at b
  .rename_i p u j g f
   intro A' Q' E' y k q
   unfold isType loadHead
   exact u5 (wpAny_loadPart (k _ _ (X _ _ f)) (t9 q))
  .cases b
 .refine Bool.eq_false_iff.mpr λq=>?_
  have e:C=tp:=Value.ref.inj (u0z.mp q)
  subst e
  split at b
  .rename_i p u j g f
   have z:=(X _ _ f).symm.trans d
   cases z
  .cases b
def Xv {s:zi}{Q:xa}(q:wE K C=true)(X:K.In s.heap)(I:∃ o,Of s.heap a o C)(e:kitOne K (.ref C) c=some b)(f:∀ d,Q (.bool b) { s with toks:=d }) :
 wpAny (model prog w) A (call (.builtin "isinstance") [.ref a,c]) Q E s:=kia_one (zeS q) X I e (by intro z;cases z) f
end
end L2
namespace L2
open PySem PySem.Spec PyProof.Rows
section
variable {P:zX}{w:World}{K:zu}{mg:wH}{base:Heap}
def zcY (P:zX)(w:World)(K:zu)(mg:wH)(base:Heap)(k:Nat)(f:Addr)(g:vy)(c:zr)(d:Sp):Prop :=
 (∀ a H Q E,d a H Q E->a.length=c.length)/\∀ (A:z5) (outer:List Env) (s:zi) (H:Hp) (args:Args) (b:zH) (a:zz) (Q:VK) (E:XK) (e:Value),wF k A->zfa P w K mg base A outer s H->BindsTo s g args (c.zip b)->yU a b->d a H Q E ->
  codeAny (model P w) (A.mark (some e)) (.call (.ref f) args) (CR CX0 outer P w H s Q E) s
def zfZ {f:Addr}{N ps:zr}{z:Sp}(F:Fun K x c i f G)(S:we N ps (zw i))(n:∀ g H Q E,z g H Q E->g.length=ps.length) (h:∀ (d:Value) (A:z5) (outer:List Env) (s:zi) (H:Hp) (g:zz) (Q:VK) (E:XK) (m:Value),wF k (A.deeper (envOfC c (zw i) s.heap.objs.size f d))->z g H Q E ->
 ∃ t,PSs ((vQ CX0 P w K mg base N c (zw i) f d A outer s H E).held m).nox (xb i) t/\t { nx:=λ_ H'=>Q .non H',rt:=Q } (start N g) H):zcY P w K mg base (k+1) f G ps z:=by
 obtain⟨oc,od,kV,L,pm,an,d,ct,R,rfl,O,B⟩:=F.ex
 refine⟨n,λA outer s H args us g Q E m C l T r p=>?_⟩
 have KX:K.In s.heap:=l.mod.kin.keeps λb o e=>(l.bs b o e).1
 have lim:s.heap.NoLimit:=l.mod.nolimit.keeps λb o e=>(l.bs b o e).1
 refine u1g (A:=A.mark (some m)) C.depth (KX _ _ O) rfl S.co S.gen rfl (u1K KX B) (T _ _ _ _ ?_)
 refine wpAny_newFunctionEnv_cells S.kind (λy Y=>?_) λenv X D x=>?_
 .rcases S.par y.1 (u0T (a:=y.1) (b:=y.2) Y).1 with q | q
  .exact .inl q
  .exact .inr ⟨q,u0B _ _ _ (.inl q)⟩
 subst X
 refine⟨lim.keeps x.toInCall.keep,codeAny_func ?_⟩
 obtain⟨t,M,Z⟩:=h d A outer s H g Q E m (C.deeper _) p
 have I:Inv (vQ CX0 P w K mg base N c (zw i) f d A outer s H E) [] (start N g) H D:=Xh S C.hd l (n _ _ _ _ p) r x
 refine n8 (M [] D (start N g) H _ ((I.held m).wish _) Z) (λU s' j=>?_) λe s' j=>j.elim
 cases U with
 | ret u =>
  obtain⟨v,σ',H',J,W,q⟩:=j
  exact⟨v,H',J.os,J.bare,J.base,J.hok,W,q⟩
 | next =>
  obtain⟨σ',H',J,q⟩:=j
  exact⟨V.non,H',J.os,J.bare,J.base,J.hok,rfl,q⟩
 | brk =>
  obtain⟨_,_,_,q⟩:=j
  exact False.elim q
 | cont =>
  obtain⟨_,_,_,q⟩:=j
  exact False.elim q
end
def zed {Y:Cx} {f:Addr} {w:zr} (F:zcY Y.prog Y.w Y.K Y.mg Y.base k f y w n) (G:wF k Y.A) (K:Gl Y x) (J:Y.mg x=some (.ref f)) (B:W.keepIn Y.K (.ref f)=true) (C:YB Y.K y w []) (o:Y.Ok) (A:PA (Y.held i).nox (e::c) t) (l:(x == ("__debug__":Str))=false:=by decide) (z:starEach (e::c) Y.env=(false,eval e Y.env)::starEach c Y.env:=by rfl) (m:(backTo b (starEach c Y.env)).any (·.1)=false:=by rfl) :
 PE (Y.held i).nox (.Call (.Name x p) (e::c) [] b) (ze4 n [] E t):=by
 intro a s σ H Q I h
 refine u0j (Zf I K J ?_ l)
 refine u1J (h₀:=Y.base) I.ok.mod.kin B (thn (A b a s σ H _ I h) λj g ⟨v,H1,I1,r,q⟩=>⟨I1.kIn,?_⟩) z m
 have q:n (v++[]) H1 Q E:=q
 rw[n0]at q
 have I2:Inv Y a σ H1 g:=Inv.unheld (X:=Y) o I1.unwish
 refine u0N (u0t (F.2 Y.A Y.stack g H1 ⟨j,[]⟩ j v Q E i G I2.env0 ?_ r q) λr L d=>?_)
 .have:=C g j I2.kIn (by rw[n0,<- r.length];exact F.1 _ _ _ _ q)
  rwa[n0]at this
 .cases r with
  | error e=>exact False.elim d
  | ok D =>
   cases D with
   | ret u=>exact I1.after d
   | next=>exact False.elim d
   | brk=>exact False.elim d
   | cont=>exact False.elim d
end L2
namespace L2
open PySem PySem.Spec PyProof.Rows PySem.SeqAt
def Wd:∀ {c:List Bool} {a:zH},yU (c.map V.bl) a->a=c.map Value.bool
 | [],a,r=>by
  have:=r.length
  exact List.eq_nil_of_length_eq_zero (by rw[<-this];rfl)
 | b::c,a,r=>by
  cases r with
  | cons d e =>
   rw[Wd e]
   cases d
   rfl
def zaJ {a:List Bool}(h:y∈(a.map Value.bool).toArray):EqAt A s y (.bool true) (isBoolOf true y):=by
 obtain⟨b,_,rfl⟩:=i4.mp (List.mem_toArray.mp h)
 exact EqAt.bool_bool b true
def zdy:V->zz->Hp->VK->Prop:=λx b H Q=>∃ (l:Addr) (a:List Bool),x=.ref l/\b=[.bl true]/\H l=some (.lst (a.map V.bl))/\Q (.int ((a.countP (· == true):Nat):Int)) H
def zb7:MtR X "list.count" zdy:=by
 intro d s σ H x B v A Q I o k h
 obtain⟨l,a,rfl,rfl,g,q⟩:=h
 cases o
 obtain⟨u,rfl,m⟩:=k.one
 cases m
 obtain⟨w,r,i,z⟩:=I.list (SqL.of (K:=X.K) g)
 have e:=Wd r
 subst e
 obtain⟨⟨cls,j,data,p⟩,b,f,n,c⟩:=i.isList
 simp only at f c
 subst f c
 refine u09 PySem.F.slot_list_count ⟨_,b,rfl⟩ PySem.F.entry_list_count (PySem.F.args_list_count_2 _ _) (list_countAt l (a.map Value.bool).toArray n j p (.bool true) (isBoolOf true)) ⟨b,λy t=>zaJ t,?_⟩
 refine⟨.int (((a.map Value.bool).toArray.toList.countP (isBoolOf true):Nat):Int),H,I.tok _,⟨_,rfl⟩,?_⟩
 rw[show(a.map Value.bool).toArray.toList=a.map Value.bool from rfl,List.countP_map]
 exact q
def zdi:V->zz->Hp->VK->Prop:=λx b H Q=>∃ (l:Addr) (a:List Bool),x=.ref l/\b=[.bl true]/\H l=some (.lst (a.map V.bl))/\true∈a/\Q (.int ((a.idxOf true:Nat):Int)) H
def zdt:MtR X "list.index" zdi:=by
 intro j s σ H x J v M Q I w o h
 obtain⟨l,a,rfl,rfl,B,E,q⟩:=h
 cases w
 obtain⟨u,rfl,C⟩:=o.one
 cases C
 obtain⟨F,r,k,G⟩:=I.list (SqL.of (K:=X.K) B)
 have e:=Wd r
 subst e
 obtain⟨⟨cls,A,data,D⟩,f,d,n,c⟩:=k.isList
 simp only at d c
 subst d c
 have i:a.idxOf true<a.length:=List.idxOf_lt_length_iff.mpr E
 have g:=XV
 have L:a.length<=sizeLine:=by simpa using G
 refine u09 PySem.F.slot_list_index ⟨_,f,rfl⟩ PySem.F.entry_list_index (PySem.F.args_list_index_2 _ _) (list_indexAt l (a.map Value.bool).toArray n A D (.bool true) (isBoolOf true) (a.idxOf true) (by simpa using i) (by omega) ?_ ?_) ⟨f,λy z=>zaJ z,⟨.int ((a.idxOf true:Nat):Int),H,I.tok _,⟨_,rfl⟩,q⟩⟩
 .simp only[List.getElem_toArray,List.getElem_map]
  rw[List.getElem_idxOf i]
  rfl
 .intro m t b
  simp only[List.getElem_toArray,List.getElem_map]
  exact List.not_of_lt_findIdx (p:=(· == true)) (xs:=a) b
end L2
namespace L2
open PySem PySem.Spec PyProof.Rows
def clsV:V->Option Value
 | .ref C=>some (.ref C)
 | .ty T=>some (.type T)
 | _=>none
def zjx (K:zu):zbb:=λd H Q=>∃ (a C:Addr) (e:xT) (v:V) (c:Value) (b:Bool),d=[.ref a,v]/\H a=some (zbP a C e)/\wE K C=true/\clsV v=some c/\W.kitOne K (.ref C) c=some b/\Q (.bl b) H
def yS {X:Cx}:Yy X (.builtin "isinstance") (zjx X.K):=by
 intro i s σ H y p Q I m h
 obtain⟨a,C,z,v,c,b,rfl,j,u,x,w,q⟩:=h
 obtain⟨g,d,rfl,f,e⟩:∃ g d,p=[g,d]/\xW (.ref a) g/\xW v d:=by
  cases m with
  | cons f r=>cases r with
   | cons e r=>cases r;exact⟨_,_,rfl,f,e⟩
 cases f
 have t:d=c:=by
  cases v <;> try cases x
  .cases e;rfl
  .cases e;rfl
 subst t
 obtain⟨⟨l,k,o,_⟩,_⟩:=I.hok a _ j
 exact Xv u I.kIn ⟨l,k,o⟩ w λn=>⟨.bl b,H,I.tok n,rfl,q⟩
def zaT {K:zu}{σ:St}{H:Hp}{a C:Addr}{d:xT}{v:V}{c:Value}{b:Bool}{Q:VK}(h0:σ[0]?=some (some (.ref a)))(e:H a=some (zbP a C d))(f:wE K C=true)(h:clsV v=some c)(g:W.kitOne K (.ref C) c=some b)(q:Q (.bl b) H) :
 tCB (zjx K) (ZN (zao 0) (ZN (tC v) zfj)) σ H Q:=⟨.ref a,h0,⟨a,C,d,v,c,b,rfl,e,f,h,g,q⟩⟩
def zbm (n j:Nat):List Bool:=(List.range n).map λi=>i == j
def zaA (K:zu) (a:xw) (CS C:Addr) (j:Nat):Bool:=wE K C&&(W.kitOne K (.ref C) (.type "ValueError") == some true)&&(W.exmOne K (.ref C) (.ref CS) == some true)&&(a.map (λc=>W.kitOne K (.ref C) (.ref c)) == (zbm a.length j).map some)
structure zaz (K:zu) (cs:xw) (CS C:Addr) (j:Nat):Prop where
 look:wE K C=true
 val:W.kitOne K (.ref C) (.type "ValueError")=some true
 exm:W.exmOne K (.ref C) (.ref CS)=some true
 hot:cs.map (λc=>W.kitOne K (.ref C) (.ref c))=(zbm cs.length j).map some
def zaz.of {K:zu}{a:xw}{CS C:Addr}{j:Nat}(h:zaA K a CS C j=true):zaz K a CS C j:=by
 unfold zaA at h
 simp only[t5,u0z]at h
 exact⟨h.1.1.1,h.1.1.2,h.1.2,h.2⟩
section
variable {K:zu}{σ:St}{H H0:Hp}{a C:Addr}{od:xT}
def tIs (K:zu):xw->TA
 | []=>zfj
 | c::r=>ZN (tCB (zjx K) (ZN (zao 0) (ZN (tC (.ref c)) zfj))) (tIs K r)
def zfS (h0:σ[0]?=some (some (.ref a)))(g:H a=some (zbP a C od))(k:wE K C=true):∀ (f:xw) (d:List Bool) (Q:zz->Hp->Prop),f.map (λc=>W.kitOne K (.ref C) (.ref c))=d.map some->Q (d.map V.bl) H->tIs K f σ H Q:=by
 intro f
 induction f with
 | nil =>
  intro d Q e q
  cases d with
  | nil=>exact q
  | cons b r=>cases e
 | cons c r j =>
  intro d Q e q
  cases d with
  | nil=>cases e
  | cons b d =>
   obtain⟨h,i⟩:=u0R e
   exact zaT h0 g k rfl h (j d _ i q)
structure KSt (H0:Hp) (a C:Addr) (od:xT) (bs:List Bool) (σ:St) (H:Hp):Prop where
 same:yt H0 H
 len:σ.length=2
 e0:σ[0]?=some (some (.ref a))
 he:H a=some (zbP a C od)
 lst:∃ p,σ[1]?=some (some (.ref p))/\H p=some (.lst (bs.map V.bl))
def zc3 {c:List Bool}(s:yt H0 H)(g:σ.length=2)(f:σ[0]?=some (some (.ref a)))(d:H a=some (zbP a C od))(hp:H p=none):KSt H0 a C od c (σ.set 1 (some (.ref p))) (upd H p (.lst (c.map V.bl))):=by
 refine⟨λb o e=>?_,by rw[List.length_set];exact g,?_,?_,p,?_,zx⟩
 .have:=s b o e
  rw[zn (zj this hp)];exact this
 .rw[t3 (by decide)];exact f
 .rw[zn (zj d hp)];exact d
 .rw[r6 (by omega)]
def zdq {cs:xw}{bs:List Bool}{D:WO}(i:wE K C=true)(e:cs.map (λc=>W.kitOne K (.ref C) (.ref c))=bs.map some)(g:bs.length<=sizeLine)(h:σ.length=2)(b:σ[0]?=some (some (.ref a)))(d:H a=some (zbP a C od))(k:∀ f H',KSt H a C od bs f H'->D.nx f H') :
 zgr (zjE (tIs K cs)) (vN 1) D σ H :=
 zfS b d i cs bs _ e ⟨by rw[t1];exact g,λp hp=>k _ _ (zc3 (.refl _) h b d hp)⟩
def WE {cs:xw}{d bs:List Bool}{D:WO}(l:wE K C=true)(e:cs.map (λc=>W.kitOne K (.ref C) (.ref c))=bs.map some)(h:d.length+bs.length<=sizeLine)(S:KSt H0 a C od d σ H)(k:∀ g H',KSt H0 a C od (d++bs) g H'->D.nx g H') :
 zgr (tOp zjN (zao 1) (zjE (tIs K cs))) (vN 1) D σ H:=by
 obtain⟨p,i,hp⟩:=S.lst
 refine⟨.ref p,i,zfS S.e0 S.he l cs bs _ e ⟨by rw[t1];omega,λq f=>?_⟩⟩
 refine⟨p,q,d.map V.bl,bs.map V.bl,rfl,rfl,by rw[zn (zj hp f)];exact hp,zx,by rw[t1,t1];exact h,λr j=>?_⟩
 rw[<-o4]
 refine k _ _ (zc3 (λb o e=>?_) S.len S.e0 ?_ j)
 .have:=S.same b o e
  rw[zn (zj this f)];exact this
 .rw[zn (zj S.he f)];exact S.he
def zb2:∀ j:Nat,j<13->(zbm 13 j).countP (· == true)=1/\(zbm 13 j).idxOf true=j/\true∈zbm 13 j:=by decide +kernel
def zg5 {j:Nat} {D:WO} (f:W.kitOne K (.ref C) (.type "ValueError")=some true) (h:wE K C=true) (g:j<13) (S:KSt H0 a C od (zbm 13 j) σ H) (k:D.rt (.int j) H) :
 zhy (zj7 (tOr (tNot (tB (tCB (zjx K) (ZN (zao 0) (ZN (tC (.ty "ValueError")) zfj))))) (zal (tOp rNe (tBM K "list" zdy (zao 1) (ZN (tC (.bl true)) zfj)) (tC (.int 1))))) e zf4) (zjZ (tBM K "list" zdi (zao 1) (ZN (tC (.bl true)) zfj))) D σ H:=by
 obtain⟨c,i,d⟩:=zb2 j g
 obtain⟨p,b,hp⟩:=S.lst
 refine zaT S.e0 S.he h rfl f ⟨true,rfl,?_⟩
 show(if (!true)=true then _ else _)
 rw[j6 (by decide)]
 refine⟨.ref p,b,.inl ⟨rfl,_,SqL.of hp⟩,p,_,rfl,rfl,hp,?_⟩
 rw[c]
 refine⟨rfl,false,by rw[WH];rfl,?_⟩
 show(if false=true then _ else _)
 rw[j6 (by decide)]
 refine⟨.ref p,b,.inl ⟨rfl,_,SqL.of hp⟩,p,_,rfl,rfl,hp,d,?_⟩
 rw[i]
 exact k
end
def zbS (c:Nat->Addr)(ok:Nat->Prop):Sp:=λd H Q _=>∃ a j b,d=[.ref a]/\H a=some (zbP a (c j) b)/\ok j/\∀ H',yt H H'->Q (.int (j:Nat)) H'
def tXA (K:zu)(d:TE)(f:Str):TE:=fun σ H Q=>d σ H λx H1=>∃ a C b c v,x=.ref a/\H1 a=some (zbP a C (some b))/\H1 b=some (.xd c)/\vI K C/\XR K C f/\c.lookup f=some v/\Q v H1
def zkc {X:Cx}{f:Str}(z:PE X e i)(F:attributeBase e f X.env (eval e X.env)=eval e X.env):PE X (.Attribute e f c) (tXA X.K i f):=by
 intro b s σ H Q I h
 refine zhh F (thn (z b s σ H _ I h) λu p hh9=>?_)
 obtain⟨x,H1,I1,A,a,C,O,R,v,ex,M,k,g,n,l,q⟩:=hh9
 subst ex
 obtain rfl:u=Value.ref a:=A
 obtain⟨⟨J,E,K,G,L⟩,_⟩:=I1.hok a _ M
 obtain⟨y,B,P⟩:=I1.hok O _ k
 obtain⟨d,t,g2⟩:=Vu B
 obtain⟨u,m,j⟩:=zgJ.some_of (v:=v) (o:=y f) (by rw[<-l];exact P f)
 have II:PySem.W.InstAt p.heap a J C (some d):=⟨E,K,L,by rw[G];exact t⟩
 obtain⟨w,D,_,r⟩:=g.cls
 have N:W.findObj X.K C (some d) f=some (.value u):=by
  unfold W.findObj
  rw[D,t4,show W.findIn X.K (.ref C) f=some none from n]
  show((W.ownOf w (some d) f).bind _)=_
  unfold W.ownOf
  rw[r,j0 rfl]
  dsimp only
  rw[g2,m]
  rfl
 exact zge I1.kIn II g N (zcO j) ⟨v,H1,I1.tok _,j,q⟩
def PS.nox {X:Cx}(h:PS X.nox b t):PS X b t:=λa s σ H D I hw =>
 n8 (h a s σ H D (I.wish _) hw) (λ_ _ q=>q.unwish) λ_ _ z=>False.elim z
end L2
namespace Dl
open PySem L2
variable [KK]
def SD.nox {X:Cx}{g:zU}(h:SD X.nox a g):SD X a g:=let ⟨t,p,r⟩:=h;⟨t,p.nox,r⟩
def SDs.nox {X:Cx}{g:zU}(h:SDs X.nox a g):SDs X a g:=let ⟨t,p,r⟩:=h;⟨t,p.nox,r⟩
noncomputable def xEx (a:zfu):xR:=fun ρ=>a (visG ρ)
def YJ:XSs E cl X a xNo:=⟨λ_ _ _=>False,λ_ _ _ _ _ _ h=>h.elim,λ_ _ _ _ _ _ _ _ _ h _=>by cases h⟩
def Gr.more (s:yt F H)(k:yt H H'):Gr F H F H':=⟨yt.refl _,s.trans k,λp o a b=>⟨.inl a,k p o b⟩⟩
def zhv (a:xR)(g:zU)(h:Nat->Option D):zU:=fun ρ=>match a ρ with
 | some j=>match h j with
  | some d=>.rt d
  | none=>.no
 | none=>g ρ
def Wb (H:Hp)(j:Nat)(b:xT):Prop:=match pay j with
 | none=>b=none
 | some c=>∃ a,b=some a/\H a=some (.xd c)
def Wb.mono (h:Wb H j a)(s:yt H H'):Wb H' j a:=by
 unfold Wb at h ⊢
 cases e:pay j with
 | none=>rw[e]at h;exact h
 | some f=>rw[e]at h;obtain⟨c,b,d⟩:=h;exact⟨c,b,s _ _ d⟩
structure Est (cl:Nat->Addr) (i j:Nat) (σ:St) (H:Hp) (a:Addr) (od:xT):Prop where
 sl:σ[i]?=some (some (.ref a))
 he:H a=some (zbP a (cl j) od)
 pa:Wb H j od
def Est.mono (h:Est cl i j σ H a b)(s:yt H H'):Est cl i j σ H' a b:=⟨h.sl,s _ _ h.he,h.pa.mono s⟩
def RU (b:Nat->Addr)(i:Nat)(u:TS)(h:Nat->Option D):Prop:=∀ (j:Nat) (d:D) (σ:St) (H:Hp) (a:Addr) (c:xT) (D':WO),h j=some d->Est b i j σ H a c->(∀ H' v,(∀ F,yt F H->∃ F',Gr F H F' H'/\At F' d v)->D'.rt v H')->u D' σ H
def zhK {Y:Cx} {i:Nat} {f:v3} {C:Nat->Addr} {g:zU} {h:Nat->Option D} (L:Y.stack=Y.env::Y.outer) (hf:Y.env.frame=some Y.env.locals) (P:Y.ex=[]) (hN:Y.N.Nodup) (Z:Y.N[i]?=some n) (hk:Y.env.scope.names.lookup n=some .local) (hg:Gl Y x) (hm:Y.mg x=some (.ref CS)) (S:∀ (c:xo) (W:xa) (E0:XK),Ys (Air Y.prog Y.w) ((Y.pinned c).wish W) E0->XSs E0 C ((Y.pinned c).wish W) a O) (hb:∀ (c:xo) (W:xa),SDs ((Y.pinned c).wish W) a g) (y:∀ j d,h j=some d->PySem.W.exmOne Y.K (.ref (C j)) (.ref CS)=some true) (m:Y.Ok->∀ z,PSs (Y.held (.ref z)).nox (T::f) u) (hu:RU C i u h) (hd:(x == ("__debug__":Str))=false:=by decide) :
 SD Y.nox (.Try a [.ExceptHandler (some (.Name x np)) (some n) (T::f) B] [] [] G) (zhv O g h):=by
 let K:XK->TS:=λE0 D σ H=>∀ (c:xo) (W:xa),Ys (Air Y.prog Y.w) ((Y.pinned c).wish W) E0->∃ t,PSs ((Y.pinned c).wish W) a t/\t D σ H
 refine⟨λD σ H=>K (exW Y.K CS i Y.N.length u D) D σ H,λl s σ H D I Q=>?_,λFb Hb F H ρ σ D U k=>?_⟩
 .refine zi6 (tb:=K) L hf P hN Z hk hg hm (λc W E0 J l s σ H D I Q=>?_) (m I.ok.unwish) hd l s σ H D I Q
  obtain⟨t,p,ht⟩:=Q c W J
  exact p l s σ H D I ht
 .intro c W J
  unfold zhv at k
  cases e:O ρ with
  | none =>
   rw[e]at k
   obtain⟨t,p,r⟩:=hb c W
   exact⟨t,p,r Fb Hb F H ρ σ D U k⟩
  | some j =>
   rw[e]at k
   dsimp only at k
   cases E:h j with
   | none=>rw[E]at k;exact k.elim
   | some d =>
    rw[E]at k
    obtain⟨t,p,r⟩:=S c W _ J
    refine⟨t,p,r Fb Hb F H ρ σ D j U e λF' H' R=>?_⟩
    have go:∀ (A:xT) (H0:Hp),yt H' H0->Wb H0 j A->exW Y.K CS i Y.N.length u D (.ref (C j)) A H0:=λA H0 sm pa=>⟨_,rfl,y j d E,λz σ' hl hn=>by
     have N:i<σ'.length:=by
      rw[hl]
      exact(q4.mp Z).1
     have w:yt H0 (upd H0 z (zbP z (C j) A)):=λb o q=>by rw[zn (zj q hn)];exact q
     refine hu j d _ _ z A _ E ⟨by rw[r6 N],zx,pa.mono w⟩ λH'' v av=>?_
     obtain⟨F2,g2,a2⟩:=av F' (R.fh.trans (sm.trans w))
     exact k F2 H'' v ((R.trans (Gr.more R.fh (sm.trans w))).trans g2) a2⟩
    unfold EJ
    cases X:pay j with
    | none=>exact go none H' (yt.refl _) (by unfold Wb;rw[X])
    | some fs=>exact λV M=>go (some V) _ (λb o q=>by rw[zn (zj q M)];exact q) (by unfold Wb;rw[X];exact⟨V,rfl,zx⟩)
def SX (b:Nat->Addr)(i:Nat)(t:TE)(f:Nat->Option D):Prop:=∀ (j:Nat) (d:D) (σ:St) (H:Hp) (a:Addr) (c:xT) (Q:VK),f j=some d->Est b i j σ H a c->(∀ H' v,yt H H'->(∀ F,At F d v)->Q v H')->t σ H Q
section
variable {cl:Nat->Addr}{i:Nat}
def fK (a:Xj):Nat->Option D:=λj=>if j%16∈a then some (.int (j%16:Nat))else none
def zej {f:Xj}{ok:Nat->Prop}(b:∀ j,cl j=cl (j%16))(c:∀ j,j∈f->ok j):SX cl i (ze4 (zbS cl ok) [] E (ZN (zao i) zfj)) (fK f):=by
 intro j d σ H a m Q e g k
 unfold fK at e
 split at e <;> try cases e
 rename_i h
 refine⟨.ref a,g.sl,a,j%16,m,rfl,?_,c _ h,λH' l=>k H' _ l λF=>.int⟩
 rw[<-b j]
 exact g.he
def fA (f:Str)(b:Xj):Nat->Option D:=λj=>if j%16∈b then (pay j).bind λa=>match a.lookup f with
 | some (.int n)=>some (.int n)
 | _=>none
 else none
def zhd {f:Str}(l:∀ j,j%16∈h->vI K (cl j)/\XR K (cl j) f):SX cl i (tXA K (zao i) f) (fA f h):=by
 intro j d σ H a t Q e g k
 unfold fA at e
 split at e <;> try cases e
 rename_i o
 obtain⟨r,p,m⟩:=u4.mp e
 have c:=g.pa
 unfold Wb at c
 rw[p]at c
 obtain⟨q,rfl,b⟩:=c
 split at m <;> cases m
 rename_i n s
 exact⟨.ref a,g.sl,a,_,q,r,.int n,rfl,g.he,b,(l j o).1,(l j o).2,s,k H _ (yt.refl _) λF=>.int⟩
def zfL {f:Nat->Option D}(h:SX cl i t f):RU cl i (zjZ t) f:=λj d σ H a c D' e b k =>
 h j d σ H a c _ e b λH' v l g=>k H' v λF s=>⟨F,Gr.more s l,g F⟩
def zdA (f:Nat->Option D)(c:Int)(a b:Nat->Option D):Nat->Option D:=λj=>match f j with
 | some (.int n)=>if n=c then a j else b j
 | _=>none
def zjQ {f:Nat->Option D}(h:SX cl i t f)(B:RU cl i u x)(C:RU cl i r y):RU cl i (zhy (zj7 (zal (tOp rEq t (tC (.int c)))) u zf4) r) (zdA f c x y):=λj d σ H a p D' e o k=>by
 unfold zdA at e
 split at e <;> try cases e
 rename_i n A
 refine h j _ σ H a p _ A o λH' v m E=>?_
 cases (E H).int_inv
 have b:∀ H2 w,(∀ F,yt F H'->∃ F',Gr F H' F' H2/\At F' d w)->D'.rt w H2:=λH2 w q=>k H2 w λF s=>by
  obtain⟨F',g,z⟩:=q F (s.trans m)
  exact⟨F',(Gr.more s m).trans g,z⟩
 refine⟨rfl,decide (n=c),by rw[WH];rfl,?_⟩
 by_cases l:n=c
 .rw[j0 l]at e
  rw[j0 (by rw[u8 l])]
  exact B j d σ H' a p _ e (o.mono m) b
 .rw[j6 l]at e
  rw[j6 (by rw[u7 l];decide)]
  exact C j d σ H' a p _ e (o.mono m) b
end
end Dl
namespace L2
open PySem PySem.Spec PyProof.Rows
def zbN (a C t:Addr)(c:xT):HO:=.ext λh=>∃ b,h.get? a=some { cls:=.ref C,dict:=c,data:=.fields #[.ref t,.none,.none,.none,.bool false,.none],slots:=b }
section
variable {X:Cx}{pins:xo}{σ:St}{H:Hp}{s:zi}{h':Heap}{a C t dx:Addr}{f:Str}
def zc9 {w:World}{H:Hp}{h:Heap}(e:h.get? a=some { cls:=.ref C,dict:=b,data:=.fields #[.ref t,.none,.none,.none,.bool false,.none],slots:=sl }):xI P w H h a (zbN a C t b) :=
 ⟨⟨sl,e⟩,⟨_,e⟩,λc d ⟨sl,z⟩ k=>⟨sl,k _ z⟩⟩
def Inv.two {y:Nat}(I:Inv X pins σ H s)(w:H a=some (.ext φ))(i:∀ o,H dx=some o->∃ p,o=.xd p)(x:∀ o,s.heap.get? dx=some o->H dx≠none)(C:a≠dx)(k:∀ b o,b≠a->b≠dx->s.heap.get? b=some o->h'.get? b=some o)(r:xI X.prog X.w (upd (upd H dx m) a l) h' a l)(t:xI X.prog X.w (upd (upd H dx m) a l) h' dx m):Inv X pins σ (upd (upd H dx m) a l) { s with heap:=h',toks:=y }:=by
 have d:∀ b u,H b=some u->(∀ ψ,u≠.ext ψ)->(∀ p,u≠.xd p)->upd (upd H dx m) a l b=some u:=λb u e r t=>by
  have h:b≠a:=λz=>by subst z;rw[w]at e;cases e;exact r _ rfl
  have j:b≠dx:=λz=>by subst z;obtain⟨p,rfl⟩:=i u e;exact t _ rfl
  rw[zn h,zn j];exact e
 have f:∀ b o,s.heap.get? b=some o->H b=none->b≠a/\b≠dx:=λb o e n=>⟨λz=>by(subst z;rw[w]at n;cases n),λz=>by(subst z;exact x o e n)⟩
 refine I.un ⟨λb o e n _ _=>k b o (f b o e n).1 (f b o e n).2 e,λb o e n _ _=>⟨o.slots,k b o (f b o e n).1 (f b o e n).2 e⟩,λb o e n _=>by rw[zn (f b o e n).1,zn (f b o e n).2];exact n,λb o e _=>?_,
  λb A e=>d b _ e (λ_ z=>by cases z) (λ_ z=>by cases z),λb o u e=>d b _ e (λ_ z=>by cases z) (λ_ z=>by cases z),λb B e=>⟨#[],by rw[Array.append_empty];exact d b _ e (λ_ z=>by cases z) (λ_ z=>by cases z)⟩⟩ λb u e=>?_
 .by_cases h:b=a
  .subst h;exact r.ex
  .by_cases j:b=dx
   .subst j;exact t.ex
   .exact⟨o,k b o h j e⟩
 .by_cases h:b=a
  .subst h;rw[zx]at e;cases e;exact r
  .rw[zn h]at e
   by_cases j:b=dx
   .subst j;rw[zx]at e;cases e;exact t
   .rw[zn j]at e
    refine(I.hok b u e).stay (λc v g q=>?_) (λc g=>d c _ g (λ_ z=>by cases z) λ_ z=>by cases z) λc A g=>d c _ g (λ_ z=>by cases z) λ_ z=>by cases z
    rcases g with rfl | g
    .exact k _ v h j q
    .refine k c v (λz=>?_) (λz=>?_) q
     .subst z;rw[w]at g;cases g
     .subst z;obtain⟨p,z⟩:=i _ g;cases z
def zka {Q:Unit->Shared->Prop}(I:Inv X pins σ H s)(e:H a=some (zbN a C t none))(k:vI X.K C)(n:XR X.K C f)(j:xW y u)(h:∀ dx d,H dx=none->Inv X pins σ (upd (upd H dx (.xd [(f,y)])) a (zbN a C t (some dx))) d->Q () d):wpAny (model X.prog X.w) A (setAttr (.ref a) f u) Q E s:=by
 obtain⟨⟨i,c⟩,_⟩:=I.hok a _ e
 refine zdY I.kIn c rfl rfl rfl k n λh' l m r=>h s.heap.objs.size _ (I.hok.fresh (t7 _)) ?_
 have v:a≠s.heap.objs.size:=j5 (t8 c)
 refine I.two e (λo z=>by rw[I.hok.fresh (t7 _)]at z;cases z) (λo z=>absurd (t8 z) (u0g _)) v (λb o p _ z=>r b o p z) (zc9 (sl:=i) l) ⟨_,m,λg=>?_⟩
 show zgJ (List.lookup g [(f,y)]) _
 by_cases q:g=f
 .subst q
  rw[j0 rfl]
  simp only[List.lookup,u0K]
  exact j
 .rw[j6 q]
  simp only[List.lookup,u0b.mpr q]
  trivial
end
def sX1 (K:zu)(d c:TE)(f:Str):TS:=λD σ H=>c σ H λy H1=>d σ H1 λx H2=>∃ a C t,x=.ref a/\H2 a=some (zbN a C t none)/\vI K C/\XR K C f/\∀ b,H2 b=none->D.nx σ (upd (upd H2 b (.xd [(f,y)])) a (zbN a C t (some b)))
section
variable {X:Cx}{o e value:Expr}{f:Str}{pos pos':Pos}{ta tv:TE}
def zjL (m:PE X o ta)(l:PE X value tv)(c:swapsWith value (some (.Attribute o f pos')) pos.line X.env=pure false):PS X (.Assign [.Attribute o f pos'] value pos) (sX1 X.K ta tv f):=by
 intro b s σ H D I h
 refine plainObj_wpAny_Assign_Attribute (thn (l b s σ H _ I h) λu g ⟨y,H1,I1,e,q⟩=>thn (m b g σ H1 _ I1 q) λv w hh9=>?_) c
 obtain⟨x,H2,I2,p,a,C,t,ex,j,i,n,d⟩:=hh9
 subst ex
 obtain rfl:v=Value.ref a:=p
 exact zka I2 j i n e λk z r I3=>⟨σ,_,I3,d k r⟩
end
def spI (K:zu)(m:Nat)(ns:zr)(g:zz->List (Str × V)):Sp:=λd H Q _=>∃ a C t c,d=.ref a::c/\c.length=m/\H a=some (zbN a C t none)/\vI K C/\(∀ f,f∈ns->XR K C f)/\∀ b,H b=none->Q .non (upd (upd H b (.xd (g c))) a (zbN a C t (some b)))
def gI1 (f:Str):zz->List (Str × V):=λa=>[(f,a.getD 0 .non)]
def zhq {K:zu}{m:Nat}{ns:zr}{g:zz->List (Str × V)}(b:zz)(H:Hp)(Q:VK)(E:XK)(h:spI K m ns g b H Q E):b.length=m+1:=by
 obtain⟨a,C,t,d,rfl,c,_⟩:=h
 rw[j8,c]
def zgq {K:zu} {f:Str} {c:zz} {H:Hp} {Q:VK} {E:XK} {rt:VK} (h:spI K 1 [f] (gI1 f) c H Q E):sX1 K (zao 0) (zao 1) f { nx:=λ_ H'=>Q .non H',rt:=rt } (start ["self",f] c) H:=by
 obtain⟨a,C,t,b,rfl,d,i,e,k,q⟩:=h
 obtain⟨y,rfl⟩:∃ y,b=[y]:=by
  cases b with
  | nil=>cases d
  | cons y r=>cases r with
   | nil=>exact⟨y,rfl⟩
   | cons _ _=>cases d
 exact⟨y,rfl,.ref a,rfl,a,C,t,rfl,i,e,k f (t2.mpr rfl),λg j=>q g j⟩
section
variable {X:Cx}{pins:xo}{σ:St}{H:Hp}{s:zi}{ea dx:Addr}{φ:Heap->Prop}
def Inv.untrack {H':Hp}(I:Inv X pins σ H s)(g:H ea=some (.ext φ))(i:H' ea=none)(d:∀ b,b≠ea->H' b=H b):Inv X pins σ H' s:=by
 have no:∀ b,H b=none->H' b=none:=λb e=>by
  have:b≠ea:=λz=>by(subst z;rw[g]at e;cases e)
  rw[d b this];exact e
 have keep:∀ b u,H b=some u->(∀ ψ,u≠.ext ψ)->H' b=some u:=λb u e n=>by
  have:b≠ea:=λz=>by(subst z;rw[g]at e;cases e;exact n _ rfl)
  rw[d b this];exact e
 refine⟨I.ok,I.os,I.bare,⟨I.base.keep,I.base.slot,λb o e n j=>no b (I.base.free b o e n j),I.base.there,λb h e=>keep b _ (I.base.tups b h e) (λ_ z=>by cases z),λb o u e=>keep b _ (I.base.frzs b o u e) (λ_ z=>by cases z),λb k e=>?_⟩,I.loc,I.cell,no _ I.free,λx c e=>no _ (I.freeC x c e),λp hp=>?_,λb u e=>?_,I.len⟩
 .obtain⟨a,z⟩:=I.base.tbls b k e
  exact⟨a,keep b _ z λ_ y=>by cases y⟩
 .obtain⟨e,n,r⟩:=I.pin p hp
  exact⟨e,no _ n,r⟩
 .have l:b≠ea:=λz=>by(subst z;rw[i]at e;cases e)
  rw[d b l]at e
  exact(I.hok b u e).stay (λ_ _ _ q=>q) (λc f=>keep c _ f λ_ z=>by cases z) λc h f=>keep c _ f λ_ z=>by cases z
end
structure zhT (K:zu) (mg:wH) (C:Addr) (x:Str) (f:Addr) (ns:zr):Prop where
 bound:mg x=some (.ref C)
 exc:zih K C f=true
 attr:Vl K C=true
 no:∀ n,n∈ns->W.findIn K (.ref C) n=some none
def zdF {P:zX}{w:World}{K:zu}{S:wH}{i:Heap}{N:zr}{j:Str}{d:Scope}{f:Addr}{U:Value}{A:z5}{outer:List Env}{s:zi}{H:Hp}{E:XK}{C fI:Addr}{fd:vy}{x:Str}{np G b6:Pos}{ns ps:zr}{m k:Nat}{g:zz->List (Str × V)}{e:Expr}{es:yK}{t:TA}
 (hc:zhT K S C x fI ns) (F:vP P w K S i CX0 k fI fd ps (spI K m ns g)) (O:YB K fd ps []) (hr:wF (k+1) (vQ (Air P w) P w K S i N j d f U A outer s H E).A) (hg:Gl (vQ (Air P w) P w K S i N j d f U A outer s H E) x) (ha:PA (vQ (Air P w) P w K S i N j d f U A outer s H E) (e::es) t) (hd:(x == ("__debug__":Str))=false:=by decide)
 (a9:starEach (e::es) (vQ (Air P w) P w K S i N j d f U A outer s H E).env=(false,eval e (vQ (Air P w) P w K S i N j d f U A outer s H E).env)::starEach es (vQ (Air P w) P w K S i N j d f U A outer s H E).env:=by rfl) (c1:(backTo G (starEach es (vQ (Air P w) P w K S i N j d f U A outer s H E).env)).any (·.1)=false:=by rfl) :
 PS (vQ (Air P w) P w K S i N j d f U A outer s H E) (.Raise (some (.Call (.Name x np) (e::es) [] G)) none b6) (λ_ σ H0=>t σ H0 λW H1=>W.length=m/\m<=1000/\∀ p,H1 p=none->E (.ref C) (some p) (upd H1 p (.xd (g W)))):=by
 let X:=vQ (Air P w) P w K S i N j d f U A outer s H E
 intro l s1 σ H0 D I h
 have I:Inv X l σ H0 s1:=I
 obtain⟨bm,NN,nm,q,bs,sn,b4,ab,a7,dd,k0,k1,k2,k3,k5,mN,oI,hC,hN,hi,T,hf,b9⟩:=zd7 I.ok.mod.kin hc.exc
 refine zbr (C:=C) (nm:=nm) (q:=q) (N:=NN) (bs:=bs) (bm:=bm) (hdct:=true) (sn:=sn) (sub:=b4) (ab:=ab) (col:=a7) (dd:=dd) (k0:=k0) (k1:=k1) (k2:=k2) (k3:=k3) (k5:=k5) (mN:=mN) (fI:=fI) (oI:=oI) (T.hasType u1E.hasBase) (I.ok.hd rfl) (by rw[a9];show((false||(backTo G (starEach es _)).any (·.1)))=false;rw[c1];rfl) hi b9 (Zf I hg hc.bound ⟨rfl,?_⟩ hd)
 have hs:=ha G l s1 σ H0 _ I h
 rw[a9]at hs ⊢
 refine PySem.Calls.evalArgs_plain (n8 hs (λY c z=>?_) λ_ _ z=>z)
 obtain⟨W,H1,I2,r,hl,hm,hE⟩:=z
 have I2:Inv X l σ H1 c:=I2
 have c2:Y.length<=sizeLine:=by rw[<-r.length,hl];exact u1I (YK hm)
 refine⟨rfl,c2,I2.bk _ _ hC,hN.keeps I2.bk,T.keeps I2.bk,I2.bk _ _ hf,?_⟩
 have I3:Inv X l σ (upd H1 (c.heap.objs.size+1) (zbN (c.heap.objs.size+1) C c.heap.objs.size none)) { c with heap:=exH c.heap C Y }:=I2.laid (t':=c.toks) (λb o z=>wx z) (u06 _) (zc9 (zfG _ _ _))
 have a8:H1 (c.heap.objs.size+1)=none:=I2.hok.fresh (u06 _)
 let R:VK:=λv H'=>v=.non/\∃ p,upd H1 (c.heap.objs.size+1) (zbN (c.heap.objs.size+1) C c.heap.objs.size none) p=none/\H'=upd (upd (upd H1 (c.heap.objs.size+1) (zbN (c.heap.objs.size+1) C c.heap.objs.size none)) p (.xd (g W))) (c.heap.objs.size+1) (zbN (c.heap.objs.size+1) C c.heap.objs.size (some p))
 have b0:spI K m ns g (.ref (c.heap.objs.size+1)::W) (upd H1 (c.heap.objs.size+1) (zbN (c.heap.objs.size+1) C c.heap.objs.size none)) R E0:=⟨_,C,_,W,rfl,hl,zx,.of hc.attr,hc.no,λp J=>⟨rfl,p,J,rfl⟩⟩
 have r3:yU (V.ref (c.heap.objs.size+1)::W) (Value.ref (c.heap.objs.size+1)::Y):=.cons rfl r
 have b8:(Value.ref (c.heap.objs.size+1)::Y++[]).length=ps.length:=by rw[n0,<- r3.length];exact F.len _ _ _ _ b0
 have bd:=O { c with heap:=exH c.heap C Y } (Value.ref (c.heap.objs.size+1)::Y) I3.kIn b8
 rw[n0]at bd
 refine u0N (u0t (F.run _ X.stack _ _ ⟨Value.ref (c.heap.objs.size+1)::Y,[]⟩ _ _ R E0 (hr.make C Y []) (I3.env0.make C Y []) bd r3 b0) λres Z z=>?_)
 cases res with
 | error e=>exact z.elim
 | ok fl =>
  cases fl with
  | next=>exact False.elim z
  | brk=>exact False.elim z
  | cont=>exact False.elim z
  | ret u =>
   obtain⟨v,H4,c4,a3,a4,a6,rv,rfl,p,J,rfl⟩:=id z
   have J4:Inv X l σ _ Z:=I3.call' (ch:=[]) c4 a4 a6 a3 (λb z=>nomatch z)
   obtain rfl:u=Value.none:=rv
   have a5:c.heap.objs.size+1≠p:=λz=>by(subst z;rw[zx]at J;cases J)
   have c0:H1 p=none:=by rw[zn a5.symm]at J;exact J
   have J5:Inv X l σ (upd H1 p (.xd (g W))) Z:=J4.untrack (ea:=c.heap.objs.size+1) zx (by rw[zn a5];exact a8) λb O=>by
    rw[zn O]
    unfold upd
    by_cases M:b=p
    .rw[j0 M,j0 M]
    .rw[j6 M,j6 M,j6 O]
   obtain⟨⟨sl,a2⟩,_⟩:=J4.hok _ _ zx
   refine⟨rfl,_,some p,sl,J4.bk _ _ hC,a2,?_⟩
   show wpAny (model P w) X.A (leaving X.env (.ref (c.heap.objs.size+1))) (λ_ a0=>Air P w outer H s E (.ref (c.heap.objs.size+1)) a0) _ Z
   let B:=PySem.W.hideAll Z.heap ((c.heap.objs.size+1)::frs X.stack)
   have c3:∀ env∈X.stack,∀ a,env.frame=some a->a∈(c.heap.objs.size+1)::frs X.stack:=λenv he a ha=>.tail _ (u0S.mpr ⟨env,he,ha⟩)
   refine Xg (XH _ _) (wpAny_leaving_firstW (Q:=λ_ a0=>∃ M,a0={ Z with heap:=M }/\Heap.LeftW B (X.env::outer) (c.heap.objs.size+1) (.ref C) (.ref c.heap.objs.size) Z.heap M) (base:=B) (L:=X.env.locals) (outer:=outer) (J4.ok.frames) (PySem.W.funFrames_hide J4.stack c3) rfl a2 (λb o q=>PySem.W.of_hideAll _ q) (u1m _ (.head _)) rfl rfl rfl λM y=>⟨M,rfl,y⟩) ?_
   rintro _ _ ⟨M,rfl,y1,⟨_,_,y2⟩,y3,y4⟩ dk
   have x1:Heap.FlyingW B outer (c.heap.objs.size+1) (.ref C) (.ref c.heap.objs.size) M:=⟨y1,u1m _ (.head _),y2,y3⟩
   have a1:∀ b,b∉frs X.stack->b≠c.heap.objs.size+1->b∉(c.heap.objs.size+1)::frs X.stack:=λb h1 M z=>(q3.mp z).elim M h1
   have b5:Cov X.stack H1 c.heap (upd H1 p (.xd (g W))) Z.heap B:=by
    refine⟨λb o e n O=>?_,λb o e O=>?_,λb o O e=>?_⟩
    .have ne:b≠c.heap.objs.size+1:=j5 (i9 (t8 e))
     exact u0L _ (a4.keep b o (wx e) (by rw[zn ne];exact n) O (by simp)) (a1 b O ne)
    .have ne:b≠c.heap.objs.size+1:=j5 (i9 (t8 e))
     obtain⟨o',e'⟩:=a4.there b o (wx e) (by simp)
     exact⟨o',u0L _ e' (a1 b O ne)⟩
    .refine u0L _ e (a1 b (λz=>O (J5.stkFree b z)) λz=>?_)
     subst z
     exact O (by rw[zn a5];exact a8)
   obtain⟨u1,u2,u3⟩:=I2.airUn (X:=X) rfl J5 b5 x1.1 x1.2.2.1 y4
   obtain⟨ob,b7,_⟩:=x1.there
   exact⟨_,C,_,some p,_,B,rfl,J5.os,J5.bare,u1,u2,x1,u3,Xd.stay (h:=Z.heap) ⟨_,a2,rfl⟩ dk ⟨ob,b7⟩,hE p c0⟩
end L2
namespace Dl
open PySem L2
variable [KK]
def xRI (a:zhB)(b:yT):xR:=fun ρ=>(b (visG ρ)).bind a
def VM (c a:Nat):zhB
 | [.int i]=>if -1<=i then some (c+16*a+64*(i+1).toNat)else none
 | _=>none
def ziw (d:Nat->Addr)(C:Addr)(m:Nat)(g:zz->List (Str × V))(a:zhB):Prop:=∀ b j,a b=some j->d j=C/\b.length=m/\∀ F c,AtL F b c->pay j=some (g c)
def Yc {cl:Nat->Addr} {c:Nat} (b:∀ j,cl j=cl (j%16)) (k:c<16):ziw cl (cl c) 1 (gI1 "row") (VM c 2):=by
 intro l j e
 unfold VM at e
 split at e <;> try cases e
 rename_i i
 split at e <;> cases e
 rename_i n
 refine⟨by rw[b (c+16*2+64*(i+1).toNat)];congr 1;omega,rfl,λF m a=>?_⟩
 obtain⟨v,r,rfl,d,h⟩:=a.cons_inv
 cases d.int_inv
 cases h.nil_inv
 have f:(c+16*2+64*(i+1).toNat)/16%4=2:=by omega
 have g:(((c+16*2+64*(i+1).toNat)/64:Nat):Int)-1=i:=by omega
 unfold pay
 rw[f]
 show some [(_,V.int _)]=_
 rw[g]
 rfl
def vf {w:World} {N:zr} {f:Addr} {g:zz->List (Str × V)} (U:zhT K h C x I ns) (F:vP P w K h c CX0 k I L J (spI K m ns g)) (X:YB K L J []) (y:ziw cl C m g n) (hr:wF (k+1) (vQ (Air P w) P w K h c N d b f i A outer s H E).A) (hg:Gl (vQ (Air P w) P w K h c N d b f i A outer s H E) x) (R:AD (vQ (Air P w) P w K h c N d b f i A outer s H E) (e::o) B) (hm:m<=1000:=by decide) (T:(x == ("__debug__":Str))=false:=by decide) (q:starEach (e::o) (vQ (Air P w) P w K h c N d b f i A outer s H E).env=(false,eval e (vQ (Air P w) P w K h c N d b f i A outer s H E).env)::starEach o (vQ (Air P w) P w K h c N d b f i A outer s H E).env:=by rfl) (u:(backTo l (starEach o (vQ (Air P w) P w K h c N d b f i A outer s H E).env)).any (·.1)=false:=by rfl) :
 XS E cl (vQ (Air P w) P w K h c N d b f i A outer s H E) (.Raise (some (.Call (.Name x Z) (e::o) [] l)) none p) (xRI n B):=by
 obtain⟨t,W,M⟩:=R
 refine⟨_,zdF U F X hr hg W T q u,λFb Hb F H ρ σ D' j v e w=>?_⟩
 obtain⟨G,Q,S⟩:=u4.mp e
 obtain⟨ec,Y,ep⟩:=y G j S
 refine M σ _ _ H G _ v.gh v.visG Q λF' H' O gr a=>⟨by rw[a.length];exact Y,hm,λdx r=>?_⟩
 have z:=w F' H' (v.out gr)
 unfold EJ at z
 rw[ep F' O a,ec]at z
 exact z dx r
def YD (b:vM)(c:xR)(g:zU):zo->SE->Option Nat
 | [],_=>none
 | d::ds,ρ=>match b d ρ with
  | none=>none
  | some e=>match c e with
   | some j=>some j
   | none=>match g e with
    | .nx a=>YD b c g ds a
    | .ct a=>YD b c g ds a
    | _=>none
def zhC (f:yT)(b:vM)(a:xR)(g:zU):xR:=fun ρ=>match f (visF ρ) with
 | some c=>YD b a g c ρ
 | none=>none
def zib {X:Cx}{f:yT}{g:zU}(hp:PassesOwn (model X.prog X.w) X.A X.env X.xe)(hc:X.calm=true)(Q:ID X L n f)(hg:BD X L b)(V:XSs E R X a z)(hb:SDs X a g)(hs:∀ x,foldedSetIterable n X.env x=pure x:=by intro _;rfl):XS E R X (.For L n a [] G) (zhC f b z g):=by
 obtain⟨wi,W,ri⟩:=Q
 obtain⟨a0,pg,U⟩:=hg
 obtain⟨Z,S,r1⟩:=V
 obtain⟨Y,p2,r2⟩:=hb
 have K:PSs X a (λD σ H=>Z D σ H\/Y D σ H):=λp s σ H D I h=>h.elim (S p s σ H D I) (p2 p s σ H D I)
 refine⟨_,zcQ hp hc W pg K hs,λFb Hb F H ρ σ D' j u k w=>?_⟩
 unfold zhC at k
 cases h:f (visF ρ) with
 | none=>rw[h]at k;cases k
 | some c =>
  rw[h]at k
  refine ri σ _ _ H c _ u.gr.fh u.visF h λF1 H1 J g1 C=>?_
  have o:=u.grow g1
  refine⟨λi m σ H=>m=c.length-i/\i<=c.length/\∃ F ρ,yt F1 F/\Rl Fb Hb F H ρ σ/\YD b z g (c.drop i) ρ=some j,⟨c.length,by simp,u07 _,F1,ρ,yt.refl _,o,k⟩,?_⟩
  rintro i m σ H ⟨rfl,Q,F,ρ,N,u,k⟩
  obtain⟨P,go⟩:=C i F H N u.gr.fh
  by_cases t:i<c.length
  .have hd:c.drop i=c[i]::c.drop (i+1):=l9 t
   rw[hd]at k
   unfold YD at k
   obtain⟨q1,q2⟩:=go c[i] (by simp[t])
   refine .inr ⟨q1,fun σ H=>∃ F ρ,yt F1 F/\Rl Fb Hb F H ρ σ/\YD b z g (c.drop (i+1)) ρ=some j,fun σ' H' w=>⟨c.length-(i+1),by omega,rfl,t,w⟩,λx H' hy=>?_⟩
   obtain⟨F3,O,a3⟩:=q2 x H' hy
   cases r:b c[i] ρ with
   | none=>rw[r]at k;cases k
   | some A =>
    rw[r]at k
    dsimp only at k
    refine U Fb Hb F3 H' ρ A σ _ x _ (u.grow O) a3 r λM v=>?_
    have s3:=N.trans O.ff
    cases q:z A with
    | some j' =>
     rw[q]at k
     cases k
     exact .inl (r1 Fb Hb F3 H' A M _ j v q w)
    | none =>
     rw[q]at k
     dsimp only at k
     refine .inr (r2 F1 (hb2 F1 Hb) F3 H' A M _ (v.dn o.gr.ff s3) ?_)
     cases l:g A with
     | nx B=>rw[l]at k;exact λF4 H4 T y=>⟨F4,B,y.gr.ff,y.up o.gr,k⟩
     | ct B=>rw[l]at k;exact λF4 H4 T y=>⟨F4,B,y.gr.ff,y.up o.gr,k⟩
     | bk B=>rw[l]at k;cases k
     | rt d=>rw[l]at k;cases k
     | no=>rw[l]at k;cases k
  .have e:i=c.length:=by omega
   subst e
   rw[u0J]at k
   cases k
end Dl
namespace L2
open PySem PySem.Spec PyProof.Rows
def zjk (s:Stmt)(k:Nat):Stmt:=match s with
 | .ClassDef _ _ _ a _ _ _ _ _ _ _=>a.getD k s
 | _=>s
def zj1 (K:zu)(C:Addr)(ns:zr):Bool:=ns.all λn=>W.findIn K (.ref C) n == some none
def Yu {K:zu}{C:Addr}{ns:zr}(h:zj1 K C ns=true):∀ n,n∈ns->W.findIn K (.ref C) n=some none:=λn a=>u0z.mp (k7.mp h n a)
end L2
namespace Dl
open PySem L2
def ziU [KK]:SX b i (tUn (rU λi=>.int (-i)) (tC (.int c))) (λ_=>some (.int (-c))):=λj d σ H a g Q e f k=>by
 cases e
 exact⟨c,rfl,k H _ (yt.refl _) λF=>.int⟩
def zfk (a:Xj)(h:Nat->Option D):Nat->Option D:=λj=>if j%16∈a then h j else none
def zgg (e:zfk a h j=some d):j%16∈a:=by
 unfold zfk at e
 split at e
 .assumption
 .cases e
def ziK [KK](r:RU b i u h):RU b i u (zfk c h):=λj d σ H a g D' e f k=>by
 unfold zfk at e
 split at e
 .exact r j d σ H a g D' e f k
 .cases e
end Dl
namespace OwnTim
open PySem PyProof.Rows
abbrev KA:=Array Keyed
abbrev dn (v u o:KA)(i j:Nat):KA:=o++v.extract i v.size++u.extract j u.size
abbrev ls (v u o:KA)(i j:Nat):KA:=o++u.extract j u.size++v.extract i v.size
def ky (κ:KeyKind)(x:Keyed):κ.α:=(κ.keyOf x.1).getD κ.dflt
def LE (κ:KeyKind)(x y:Keyed):Prop:=κ.kle (ky κ x) (ky κ y)
abbrev fh (v u o:KA)(i j:Nat):KA:=u.extract 0 j++v.extract 0 i++o.reverse
abbrev Pd:=Array (Nat × Nat × Nat)
def SO (κ:KeyKind)(b:KA)(a n:Nat):Prop:=∀ i j,i<=j->j<n->κ.kle (KK κ b (a+i)) (KK κ b (a+j))
abbrev g2 (r:Nat × Nat × Nat):Nat × Nat:=(r.1,r.2.1)
end OwnTim
namespace OwnSortT
open PySem PyProof.Rows OwnSort
def zhe:∀ a:zB,HT.lexLt a a=false:=by
 intro a
 induction a with
 | nil=>rfl
 | cons x c b=>rw[HT.lexLt_cons,j0 rfl,b]
def VC:∀ a b c:zB,HT.lexLt a b=true->HT.lexLt b c=true->HT.lexLt a c=true:=by
 intro a
 induction a with
 | nil =>
  intro b c e d
  cases c with
  | nil=>cases b <;> cases d
  | cons _ _=>rfl
 | cons x j h =>
  intro b c e d
  cases b with
  | nil=>cases e
  | cons y i=>cases c with
   | nil=>cases d
   | cons z zs =>
    rw[HT.lexLt_cons]at e d ⊢
    by_cases g:x=y
    .rw[j0 g]at e
     by_cases f:y=z
     .rw[j0 f]at d;rw[j0 (g.trans f)];exact h _ _ e d
     .rw[j6 f,r8]at d;rw[j6 (by omega),r8];omega
    .rw[j6 g,r8]at e
     by_cases f:y=z
     .rw[j6 (by omega),r8];omega
     .rw[j6 f,r8]at d;rw[j6 (by omega),r8];omega
def VA:∀ a b:zB,HT.lexLt a b=false->HT.lexLt b a=false->a=b:=by
 intro a
 induction a with
 | nil =>
  intro b c d
  cases b with
  | nil=>rfl
  | cons _ _=>cases c
 | cons x h f =>
  intro b c d
  cases b with
  | nil=>cases d
  | cons y g =>
   rw[HT.lexLt_cons]at c d
   by_cases e:x=y
   .rw[j0 e]at c;rw[j0 e.symm]at d;rw[e,f _ c d]
   .rw[j6 e,l4]at c;rw[j6 (u0d e),l4]at d;omega
def zgP (a b c:zB)(h:HT.lexLt a c=true):HT.lexLt a b=true\/HT.lexLt b c=true:=by
 cases e:HT.lexLt a b with
 | true=>exact .inl rfl
 | false =>
  refine .inr ?_
  cases d:HT.lexLt b a with
  | true=>exact VC _ _ _ d h
  | false=>rw[<-VA _ _ e d];exact h
def TT (h:Heap) (v:Value) (t:zB):Prop:=∃ a o n b,v=.ref a/\h.get? a=some o/\o.cls=.type "tuple"/\o.data=.seq b.toArray n/\IntsAre b t/\t≠[]
def zcm:∀ {c:zH} {ns a:zB},IntsAre c ns->IntsAre c a->ns=a:=by
 intro c ns a h
 induction h generalizing a with
 | nil=>intro b;cases b;rfl
 | cons n t h d=>intro b;cases b with | cons g f e=>rw[d e]
def TT.uniq (x:TT h v s)(y:TT h v t):s=t:=by
 obtain⟨a,o,n,d,rfl,j,_,l,q,_⟩:=x
 obtain⟨b,p,m,c,e,f,_,g,k,_⟩:=y
 cases e
 rw[j]at f
 cases f
 rw[l]at g
 have i:d.toArray=c.toArray:=by injection g
 cases List.toArray_inj i
 exact zcm q k
open Classical in
noncomputable def zj0 (h:Heap)(v:Value):Option zB:=if x:∃ t,TT h v t then some x.choose else none
@[reducible] noncomputable def kindTT (h:Heap):KeyKind where
 α:=zB
 blt:=HT.lexLt
 irrefl:=zhe
 trans:=VC
 negTrans:=zgP
 total:=VA
 keyOf:=zj0 h
 dflt:=[]
end OwnSortT
namespace Dl
open PySem L2
variable [KK]
section
variable {X:Cx}{st1 st2 st3 st4:Stmt}{i j:Nat}
omit [KK] in
def W8 {j:Nat}(σ:St)(H:Hp)(Q:Bool->Hp->Prop)(a:σ[j]?=some (some .non))(q:Q false H):zal (tOp (λx y H Q=>(y=.non/\Q (.bl (!decide (x=.non))) H)\/∃ i j,x=.bl i/\y=.bl j/\Q (.bl (!(i == j))) H) (zao j) (tC .non)) σ H Q:=⟨.non,a,.inl ⟨rfl,false,rfl,q⟩⟩
end
end Dl
namespace Dl
open PySem L2
def b3:W4
 | .tup [x,y,z]=>some [some x,some y,some z]
 | _=>none
end Dl
namespace Dl
open PySem L2
variable [KK]
def edv {X:Cx} (i:Nat) (c:X.N[i]?=some x:=by rfl) (d:Vis X.env.scope x:=by first | exact Or.inl rfl | exact Or.inr (Or.inl rfl) | exact Or.inr (Or.inr rfl)) (e:(x == ("__debug__":Str))=false:=by decide) (b:(x == ("__classdict__":Str))=false:=by decide):ED X (.Name x a) (zc i):=zid i (pv i c d e b)
def zt {X:Cx} {f:Addr} (F:vP X.prog X.w X.K X.mg X.base CX0 j f l i (spD m p)) (r:wF k X.A) (t:Gl X x) (d:Def X.K X.mg x n i f l) (q:AD X (e::b) h) (s:j<=k:=by decide) (c:(x == ("__debug__":Str))=false:=by decide) (o:starEach (e::b) X.env=(false,eval e X.env)::starEach b X.env:=by rfl) (g:(backTo a (starEach b X.env)).any (·.1)=false:=by rfl) :
 ED X (.Call (.Name x u) (e::b) [] a) (zq m p h):=zgx (F.mono s) r t d.at_ d.kp d.bd q c o g
end Dl
namespace L2
open PySem PySem.Spec PyProof.Rows
def zce:∀ {b:zr} {a:zH},yU (b.map V.str) a->∃ l:List (Str × Tok),a=strValues l/\l.map (·.1)=b:=by
 intro b
 induction b with
 | nil=>intro a h;cases h;exact⟨[],rfl,rfl⟩
 | cons x b c =>
  intro a h
  cases h with
  | cons r t =>
   obtain⟨u,rfl⟩:=r
   obtain⟨l,rfl,e⟩:=c t
   exact⟨(x,u)::l,rfl,by rw[u0w,e]⟩
def zcF (l:List (Str × Tok)):yU ((l.map (·.1)).map V.str) (strValues l):=by
 induction l with
 | nil=>exact .nil
 | cons p l a=>exact .cons ⟨p.2,rfl⟩ a
section
variable {X:Cx}
def zi7 (K:zu):V->zz->Hp->VK->Prop:=λx c H Q=>∃ a p b,x=.str a/\c=[.ref p]/\SqL K H p (b.map V.str)/\JoinOk a b=true/\Q (.str (Txt.join a b)) H
def zam:MtM X "str.join" (zi7 X.K):=by
 intro b s σ H x y v w Q I i e h
 obtain⟨d,p,z,rfl,rfl,f,a,q⟩:=h
 obtain⟨t,rfl⟩:=i
 obtain⟨u,rfl,g⟩:=e.one
 cases g
 obtain⟨m,r,c,n⟩:=I.list f
 obtain⟨l,rfl,j⟩:=zce r
 exact SC.join (D:=p) c.isList j a λo k=>⟨.str _,H,I.tok _,⟨_,rfl⟩,q⟩
def zcU {w:World} {s:zi} {a b:Str} {g:Tok} {Q:xa} (i:(b.length == 0)=false) (j:a.length+2<=sizeLine) (q:∀ (l:List (Str × Tok)) (k:Nat),l.map (·.1)=Txt.split a b->Q (.ref s.heap.objs.size) { s with heap:=s.heap.push { cls:=.type "list",data:=.seq (strValues l).toArray },toks:=k }) :
 wpAny (model e w) A (call (.builtin "str.split") [.str a c,.str b g]) Q E s:=by
 have h:(Builtin.Str.partsBetween a (Builtin.Str.occurrences a b 0 a.length (a.length+1)) b.length).length<=sizeLine:=by
  have z:=u1f a b 0 a.length (a.length+1)
  rw[u1y]
  omega
 cases d:(decide (a.length<b.length)||decide (Builtin.Str.strKind a<Builtin.Str.strKind b)) with
 | true=>exact u09 F.slot_str_split (u0q s a c) u1S (u1G _ _) (meets_str_split_cannot_occur a b c g d) (q [(a,c)] s.toks (by unfold Txt.split;rw[j0 d];rfl))
 | false =>
  cases f:(Builtin.Str.occurrences a b 0 a.length (a.length+1)).isEmpty with
  | true=>exact u09 F.slot_str_split (u0q s a c) u1S (u1G _ _) (meets_str_split_not_found a b c g d i f) (q [(a,c)] s.toks (by unfold Txt.split;rw[j6 (by rw[d];decide),j0 f];rfl))
  | false =>
   refine u09 F.slot_str_split (u0q s a c) u1S (u1G _ _) (meets_str_split_sep a b c g d i f (by omega) h) ?_
   have z:=q (numbered s.toks (Builtin.Str.partsBetween a (Builtin.Str.occurrences a b 0 a.length (a.length+1)) b.length))
   rw[<-strsFrom_eq]at z
   exact z _ (by rw[numbered_texts];unfold Txt.split;rw[j6 (by rw[d];decide),j6 (by rw[f];decide)])
def zfz:V->zz->Hp->VK->Prop:=λx c H Q=>∃ a b,x=.str a/\c=[.str b]/\(b.length == 0)=false/\a.length+2<=sizeLine/\(Txt.split a b).length<=sizeLine/\∀ l,H l=none->Q (.ref l) (upd H l (.lst ((Txt.split a b).map V.str)))
def wO:MtM X "str.split" zfz:=by
 intro c s σ H x o v n Q I g f h
 obtain⟨a,b,rfl,rfl,d,j,i,q⟩:=h
 obtain⟨t,rfl⟩:=g
 obtain⟨u,rfl,m,rfl⟩:=f.one
 refine zcU d j λl k e=>?_
 refine⟨.ref _,_,I.lnew (ys:=(Txt.split a b).map V.str) (its:=strValues l) (by rw[<-e];exact zcF l) (by rw[t1];exact i),rfl,q _ I.fresh⟩
def ZM:Yy X (.type "int") (λb H Q=>∃ a n,b=[.str a]/\a.length<=640/\intText? a=some n/\Q (.int n) H):=by
 intro c s σ H b f Q I r h
 obtain⟨a,n,rfl,d,e,q⟩:=h
 obtain⟨u,rfl,t,rfl⟩:=WA r
 exact call_int_1 (PySem.W.KIN.gives_text d e).meets (show(Made.int n).post _ s from⟨rfl,.int n,H,I.tok _,⟨_,rfl⟩,q⟩)
def Its (a:Str):It:=⟨λi _=>i<a.cps.size,λi H x H'=>H'=H/\∃ c,a.cps[i]?=some c/\x=.str ⟨#[c]⟩,λi _=>a.cps.size<=i⟩
def zet {P:zX} {w:World} {K:zu} {tg:Expr} (a:Str) (t:Tok) (it:Addr):zeJ P w K tg (Its a) [it] it (λi h=>h.IsStrIter it "str_ascii_iterator" a t i) where
 mem:=t2.mpr rfl
 obj:=λi h st b hb=>by
  obtain rfl:=t2.mp hb
  obtain⟨o,e,_,d⟩:=st
  exact⟨o,e,λv z=>by rw[d]at z;cases z⟩
 keep:=λi h h' st k=>by
  obtain⟨o,e,r⟩:=st
  exact⟨o,k it (t2.mpr rfl) o e,r⟩
 item:=by
  intro X hP hw hK hc i pins s σ H E I hf st hg
  subst hP hw hK
  have hg:i<a.cps.size:=hg
  obtain⟨f0,f1,f2,f3,f4,f5⟩:=hf it (t2.mpr rfl)
  refine wpAny_pyNext_ascii_item st (c:=a.cps[i]) (u1M hg) λh' st' sb=>?_
  have I1:Inv X pins σ H { s with heap:=h',toks:=s.toks+1 }:=I.turned (t':=s.toks+1) (λb o hb e=>(sb.2 b hb).trans e) f0 f1 f3 f4 f5
  obtain⟨o,e,c,d⟩:=id st'
  exact⟨_,rfl,zef (s:={ s with heap:=h',toks:=s.toks+1 }) e c d (by decide) ⟨.str ⟨#[a.cps[i]]⟩,H,I1,⟨_,rfl⟩,⟨rfl,_,u1M hg,rfl⟩,st',λb hb=>(hf b hb).1⟩⟩
 done:=by
  intro X hP hw hK hc i pins s σ H E I hf st hg
  subst hP hw hK
  have hg:a.cps.size<=i:=hg
  obtain⟨f0,f1,f2,f3,f4,f5⟩:=hf it (t2.mpr rfl)
  exact wpAny_pyNext_ascii_end (I.ok.hd hc) st (Array.getElem?_eq_none hg) λh' eb=>⟨rfl,I.turned (t':=s.toks) (λb o hb e=>eb b o hb e) f0 f1 f3 f4 f5⟩
 self:=λ_ _ _ _ _ st h=>wpAny_pyIter_striter_ascii st h
def iTxt (t:TE):TI:=fun σ H R=>t σ H λx H1=>∃ a,x=.str a/\a.cps.all (· < 128)=true/\R (Its a) H1
def zjj (h:PE X e t):PI X j e (iTxt t):=by
 intro c s σ H R I q
 refine thn (h c s σ H _ I q) λv d hh9=>?_
 obtain⟨x,H1,I1,f,i⟩:=hh9
 obtain⟨a,rfl,k,q⟩:=i
 obtain⟨u,rfl⟩:=f
 refine wpAny_pyIter_ascii k ?_
 refine⟨_,[d.heap.objs.size],_,Its a,H1,rfl,I1.kept (t':=d.toks) (λb o e=>u6 _ e),zet a u _,⟨_,j4 _ rfl,rfl,rfl⟩,λb g=>?_,q⟩
 rw[t2.mp g]
 exact I1.fpOk (t7 _) (I1.hok.fresh (t7 _))
end
end L2
namespace PySem
open Sem (wp)
open AutoSeq1 (wpAny_loadPart')
def WK (l:Addr)(a:vC)(n:Nat)(f:Tok) :
 Meets (Builtin.«enumerate.__new__» ⟨[.type "enumerate",.ref l],[(Str.ofString "start",.int 2 f)]⟩) (λ_ R s=>s.heap.get? l=some { cls:=.type "list",dict:=none,data:=.seq a n,slots:=#[] } /\
  R (.ok (.ret (.ref (s.heap.push { cls:=.type "list_iterator",data:=.fields #[.ref l,.int 0 0] }).objs.size)))
   { s with heap:=(s.heap.push { cls:=.type "list_iterator",data:=.fields #[.ref l,.int 0 0] }).push { cls:=.type "enumerate",data:=.fields #[.none,.bool false,.ref s.heap.objs.size,rawInt 2,.none,.none] } }) :=
 .of_wp λj w A R s h=>by
  obtain⟨hp,g,d,k,os⟩:=s;obtain⟨b,h⟩:=h
  have i:=sub_enumerate
  have e:Heap.IsList (Shared.heap ⟨hp,g,d,k,os⟩) l a:=⟨_,b,rfl,n,rfl⟩
  wp_walk using f8 b
  refine wpAny_stack_any λm=>t9 ?_
  split
  .rename_i c _ _ _ _ _
   cases (c == Value.type "enumerate")
   .wp_walk using f8 b,p8 e
    exact⟨_,rfl,h⟩
   .wp_walk using f8 b,p8 e
    exact⟨_,rfl,h⟩
  .wp_walk using f8 b,p8 e
   exact⟨_,rfl,h⟩
def Vm (x:Str) :
 Meets (Builtin.«object.__init__» ⟨[c,a],[(x,b)]⟩) (λ_ R s=>s.TypeIs c "enumerate"/\R (.ok (.ret .none)) s):=by
 refine Meets.of_wp λd w A R s e=>?_
 obtain⟨i,g⟩:=e
 have j:=o0.init.lookup
 have h:=o0.made
 have f:(some "enumerate.__new__" != some "object.__new__")=true:=by decide
 repeat (any_goals (first | assumption | wp_step))
 exact⟨_,rfl,g⟩
set_option maxHeartbeats 4000000 in
def Xy {f:zX} {w:World} {s:zi} {Q:xa} (K:s.heap.get? l=some { cls:=.type "list",dict:=none,data:=.seq d n,slots:=#[] }) (q:∀ h,IsEnum h (s.heap.objs.size+1) s.heap.objs.size 2 .none->h.IsListIter s.heap.objs.size l 0->(∀ b o,s.heap.get? b=some o->h.get? b=some o)->Q (.ref (s.heap.objs.size+1)) { s with heap:=h }) :
 wpAny (model f w) A (call (.type "enumerate") [.ref l] [(Str.ofString "start",.int 2 a)]) Q E s:=by
 obtain⟨c,N,v⟩:=o0.mro
 have i:=o0.made
 have B:=o0.sub
 have D:checkTypeCall "enumerate" ⟨[.ref l],[(Str.ofString "start",.int 2 a)]⟩=pure ():=by kernel_rfl
 have m:checkBuiltinCall "enumerate.__new__" ⟨[.type "enumerate",.ref l],[(Str.ofString "start",.int 2 a)]⟩=pure ():=by kernel_rfl
 refine u0N (codeAny_of_tree ?_)
 show wpAny _ _ (callAny (.type "enumerate") _) _ _ _
 refine t9 ⟨u0O _ (by decide +kernel),codeAny_builtin F.entry_type_call ?_⟩
 rw[Around.under_plain (weight_type_call_type "enumerate" [.ref l] [(Str.ofString "start",.int 2 a)]) rfl]
 have L:=o0.notType
 have M:=o0.canCreate
 repeat (any_goals (first | assumption | wp_step))
 have y:(s.heap.push { cls:=.type "list_iterator",data:=.fields #[.ref l,.int 0 0] }).objs.size=s.heap.objs.size+1:=g6 ..
 refine u0t (i6 o0.plain F.entry_enumerate_new (wpAny_of_eq m (WK l d n a f w A.in1 (wants (λobj t=>obj=.ref (s.heap.objs.size+1)/\t={ s with heap:=(s.heap.push { cls:=.type "list_iterator",data:=.fields #[.ref l,.int 0 0] }).push { cls:=.type "enumerate",data:=.fields #[.none,.bool false,.ref s.heap.objs.size,rawInt 2,.none,.none] } }) E) s ⟨K,by rw[y];exact⟨rfl,rfl⟩⟩))) λr t p=>?_
 cases r with
 | error e=>exact p
 | ok J =>
  cases J with
  | ret obj =>
   obtain⟨rfl,rfl⟩:=p
   have u:IsEnum ((s.heap.push { cls:=.type "list_iterator",data:=.fields #[.ref l,.int 0 0] }).push { cls:=.type "enumerate",data:=.fields #[.none,.bool false,.ref s.heap.objs.size,rawInt 2,.none,.none] }) (s.heap.objs.size+1) s.heap.objs.size 2 .none:=by
    rw[<-y]
    exact j4 _ rfl
   have C:Shared.TypeIs { s with heap:=(s.heap.push { cls:=.type "list_iterator",data:=.fields #[.ref l,.int 0 0] }).push { cls:=.type "enumerate",data:=.fields #[.none,.bool false,.ref s.heap.objs.size,rawInt 2,.none,.none] } } (.ref (s.heap.objs.size+1)) "enumerate":=⟨_,u,rfl⟩
   have H:=o0.init.lookup
   have I:=o0.init.bind (.ref (s.heap.objs.size+1))
   repeat (any_goals (first | assumption | wp_step))
   have j:argsOk "object.__init__" ⟨[.ref (s.heap.objs.size+1),.ref l],[(Str.ofString "start",.int 2 a)]⟩:=by unfold argsOk;kernel_rfl
   refine u0t (i6 o0.init.plain F.entry_object_init (o0.init.check _ _ _ _ _ _ _ _ C j (Vm (Str.ofString "start") f w A.in1 (wants (λr z=>r=.none/\Q (.ref (s.heap.objs.size+1)) z) E) _ ⟨C,rfl,q _ u ⟨_,u6 _ (j4 _ rfl),rfl,rfl⟩ λb o x=>u6 _ (u6 _ x)⟩))) λG z g=>?_
   cases G with
   | error e=>exact g
   | ok k =>
    cases k with
    | ret r =>
     obtain⟨rfl,O⟩:=g
     repeat (any_goals (first | assumption | wp_step))
    | _=>exact g.elim
  | _=>exact p.elim
end PySem
namespace PySem
def Vo {prog:zX}{w:World}{A:z5}{it:Addr}{fp:xw}{n:Nat}{P:Nat->Value->Prop}{St:Nat->Heap->Prop}(D:Draws prog w A it fp n P St):Draws prog w A it fp (n+2) (λi v=>P (i-2) v) (λi h=>2<=i/\St (i-2) h) where
 live:=λi h st=>D.live _ _ st.2
 frame:=λi h h' st k=>⟨st.1,D.frame _ _ _ st.2 k⟩
 item:=λi s Q E hi st k=>by
  have h2:=st.1
  refine D.item (i-2) s Q E (by omega) st.2 λx h' tk p st' sb=>k x h' tk p ⟨by omega,?_⟩ sb
  rw[show i+1-2=i-2+1 by omega]
  exact st'
 done:=λs Q E st k=>D.done s Q E (by have:=st.2;rwa[u0f]at this) k
end PySem
namespace L2
open PySem PySem.Spec PyProof.Rows
def Ies (K:zu)(a:Addr):It :=
 ⟨λi H=>∃ b x,SqL K H a b/\b[i]?=some x,λi H v H'=>∃ T x,v=.ref T/\H T=none/\H'=upd H T (.tup [.int ((i+2:Nat):Int),x])/\∀ b,SqL K H a b->b[i]?=some x,λi H=>∃ b,SqL K H a b/\b.length=i⟩
def zbF {P:zX}{w:World}{K:zu}{es:yK}{k:Nat}{tp:Pos}(a e it:Addr)(hne:e≠it)(hai:a≠it)(hae:a≠e) :
 zeJ P w K (.Tuple es k tp) (Ies K a) [e,it] e (λi h=>(∃ old,IsEnum h e it ((i+2:Nat):Int) old)/\h.IsListIter it a i) where
 mem:=.head _
 obj:=λi h st b hb=>by
  obtain⟨⟨old,he⟩,o,ho,_,hd⟩:=st
  rcases q3.mp hb with rfl | hb
  .exact⟨_,he,λv z=>by cases z⟩
  .obtain rfl:=t2.mp hb
   exact⟨o,ho,λv z=>by rw[hd]at z;cases z⟩
 keep:=λi h h' st kk=>by
  obtain⟨⟨old,he⟩,hit⟩:=st
  exact⟨⟨old,kk e (.head _) _ he⟩,hit.at λo q=>kk it (.tail _ (.head _)) o q⟩
 item:=by
  intro X hP hw hK hc i pins s σ H E I hf st hg
  subst hP hw hK
  obtain⟨⟨old,he⟩,hit⟩:=st
  obtain⟨xs,x,hq,hx⟩:=hg
  obtain⟨its,rv,p,hz⟩:=I.list hq
  obtain⟨u,hu,ru⟩:=rv.get hx
  have hlt:i<its.toArray.size:=by rw[q7];exact(q4.mp hu).1
  have D:=Vo (Draws.list (prog:=X.prog) (w:=X.w) (A:=X.A.in1) (I.ok.hd hc) it a hai its.toArray)
  refine wpAny_pyNext_enum_itemD (i:=i+2) D he ⟨by omega,by rw[u0f];exact⟨hit,p.isList⟩⟩ (by omega) hne (λz=>?_) λv h1 tk pv ho1 st1 hT1 hz1 hk1=>?_
  .rcases q3.mp z with z | z
   .exact hne z
   .exact hae (t2.mp z).symm
  have ev:v=u:=by
   rw[u0f]at pv
   have:its[i]?=some v:=by simpa using pv
   rw[hu]at this
   exact(o6 this).symm
  subst ev
  have hit1:h1.IsListIter it a (i+1):=by
   have:=st1.2.1
   rwa[show i+2+1-2=i+1 by omega]at this
  refine⟨_,rfl,u0H ho1 λh2 he2 hs2=>?_⟩
  have hfr:H s.heap.objs.size=none:=I.hok.fresh (t7 _)
  have neE:s.heap.objs.size≠e:=u0h (t8 he)
  have hT2:=(hs2.2 _ neE).trans hT1
  refine⟨.ref s.heap.objs.size,upd H s.heap.objs.size (.tup [.int ((i+2:Nat):Int),x]),?_,rfl,⟨_,x,rfl,hfr,rfl,λys hy=>by rw[I.list_inj hy hq];exact hx⟩,⟨⟨_,by rw[show((i+1+2:Nat):Int)=((i+2:Nat):Int)+1 by omega];exact he2⟩,hit1.at λo q=>(hs2.2 it (u0d hne)).trans q⟩,λb hb=>?_⟩
  .refine I.grown (ch:=[e,it]) hf (t7 _) (λb v hb q=>?_) ?_
   .have n1:b≠e:=λz=>hb (z ▸ .head _)
    have n2:b≠it:=λz=>hb (z ▸ .tail _ (.head _))
    exact(hs2.2 b n1).trans (hk1 b v n1 n2 q)
   .exact⟨by show 2<=sizeLine;decide,[.int ((i+2:Nat):Int) tk,v],.cons ⟨_,rfl⟩ (.cons ru .nil),⟨_,hT2,rfl,0,rfl⟩⟩
  .have hlt2:b<s.heap.objs.size:=by
    rcases q3.mp hb with rfl | hb
    .exact t8 he
    .obtain rfl:=t2.mp hb
     obtain⟨o,ho,_⟩:=hit
     exact t8 ho
   rw[zn (j5 hlt2)]
   exact(hf b hb).1
 done:=by
  intro X hP hw hK hc i pins s σ H E I hf st hg
  subst hP hw hK
  obtain⟨⟨old,he⟩,hit⟩:=st
  obtain⟨xs,hq,hx⟩:=hg
  obtain⟨its,rv,p,hz⟩:=I.list hq
  have hl:i=its.toArray.size:=by rw[q7,<- rv.length];exact hx.symm
  have D:=Vo (Draws.list (prog:=X.prog) (w:=X.w) (A:=X.A.in1) (I.ok.hd hc) it a hai its.toArray)
  refine wpAny_pyNext_enum_endD D he ⟨by omega,?_⟩ λh1 hx1=>⟨rfl,I.turnedN (ch:=[e,it]) (t':=s.toks) hf λb v hb q=>hx1 b v (λz=>hb (z ▸ .tail _ (.head _))) q⟩
  rw[u0f,<- hl]
  exact⟨hit,p.isList⟩
 self:=λ_ _ _ _ _ st h=>u0r st.1.choose_spec h
def zgI (l:backTo b (starEach [e] env)=(false,eval e env)::backTo b (starEach [] env))(i:(backTo b (starEach [e] env)).any (·.1)=false)(d:(backToKw b (keywordEach c env)).all (·.1.isSome)=true)(j:(backToKw b (keywordEach c env)).any (·.1.isNone)=false)(h:wpAny M A (spliced (backTo b (starEach [e] env))) (λk f=>wpAny M A (evalAll ((backToKw b (keywordEach c env)).map (·.2))) (λg n=>wpAny M A (call (.type T) k (((backToKw b (keywordEach c env)).filterMap (·.1)).zip g)) Q E n) E f) E s) :
 wpAny M A (callWith b (.type T) [] (backTo b (starEach [e] env)) (backToKw b (keywordEach c env))) Q E s:=by
 have m:wpAny M A (evalArgs (.type T) true (backTo b (starEach [e] env)) (backToKw b (keywordEach c env))) (λa f=>wpAny M A (call (.type T) a.pos a.kw) Q E f) E s:=by
  rw[l]at h ⊢
  exact PyProof.Rows.evalArgs_kwB d h
 unfold callWith
 refine u5 (l5 (n8 m (λa o z=>u5 (u0Y ?_)) λ_ _ z=>z))
 simp only[i,j,Bool.or_false]
 exact u5 (t9 (u5 (n8 z (λr p y=>u5 (l5 (wpAny_point (t9 y)))) λ_ _ y=>y)))
def iEnS (K:zu)(c:TA):TI:=fun σ H R=>c σ H λd H1=>∃ a b,d=[.ref a]/\H1 a=some (.lst b)/\R (Ies K a) H1
def zeZ {X:Cx} {tp:Pos} {N:Pos} (Q:Gl X "enumerate") (P:X.mg "enumerate"=none) (g:bootBuiltins "enumerate"=some (.type "enumerate")) (E:PA X [a] x) (D:backTo c (starEach [a] X.env)=(false,eval a X.env)::backTo c (starEach [] X.env):=by rfl) (r:(backTo c (starEach [a] X.env)).any (·.1)=false:=by rfl) :
 PI X (.Tuple F k tp) (.Call (.Name "enumerate" p) [a] [⟨some "start",.Constant (.int 2) j N,L⟩] c) (iEnS X.K x):=by
 intro d s σ H R I h
 refine u0j (ZG I Q P g ?_ (by decide) (by decide))
 refine zgI D r rfl rfl (thn (E c d s σ H _ I h) λY B ⟨U,H1,I1,z,M⟩=>PyProof.Rows.kws_cons (thn (zf (i:=2) d B σ H1 (λv H2=>v=.int 2/\H2=H1) I1 ⟨rfl,rfl⟩) λT m ⟨y,H2,I2,K,A⟩=>PyProof.Rows.kws_nil ?_))
 obtain⟨rfl,rfl⟩:=A
 obtain⟨l,V,rfl,C,q⟩:=M
 obtain⟨u,rfl,O⟩:=WA z
 cases O
 obtain⟨G,rfl⟩:=K
 obtain⟨_,S,n,_,_,e⟩:=I2.lstM C
 have t:∀ b∈[m.heap.objs.size+1,m.heap.objs.size],VZ X d H2 b:=λb g=>by
  rcases q3.mp g with rfl | g
  .exact I2.fpOk (u06 _) (I2.hok.fresh (u06 _))
  .obtain rfl:=t2.mp g
   exact I2.fpOk (t7 _) (I2.hok.fresh (t7 _))
 have w:l<m.heap.objs.size:=t8 e
 refine Xy e λW f o J=>u0r f ?_
 exact⟨_,_,_,_,H2,rfl,I2.kept (t':=m.toks) J,zbF l _ _ (Nat.succ_ne_self _) (j5 w) (j5 (i9 w)),⟨⟨_,f⟩,o⟩,t,q⟩
end L2
namespace Dl
open PySem L2 PySem.Spec PyProof.Rows
variable [KK]
section
variable {X:Cx}{tg a b e:Expr}{pos:Pos}
def ZL:zo->Option zr
 | []=>some []
 | .str x::ds=>(ZL ds).map (x::·)
 | _=>none
omit [KK] in
def Zx (a:zr):ZL (a.map .str)=some a:=by
 induction a with
 | nil=>rfl
 | cons x a b=>show(ZL (a.map .str)).map (x::·)=_;rw[b];rfl
def AtL.strs:∀ {a:zo} {b:zr} {c:zz},ZL a=some b->AtL F a c->c=b.map V.str:=by
 intro a
 induction a with
 | nil=>intro b c h f;cases h;exact f.nil_inv
 | cons d a g =>
  intro b c h f
  cases d with
  | str x =>
   obtain⟨l,e,rfl⟩:=t0.mp h
   obtain⟨y,r,rfl,i,j⟩:=f.cons_inv
   rw[g e j,i.str_inv]
   rfl
  | _=>cases h
def AtL.ofStrs (a:zr):AtL F (a.map D.str) (a.map V.str):=by
 induction a with
 | nil=>exact .nil
 | cons x a b=>exact .cons .str b
def WI (c d:D):Option D:=match c,d with
 | .str s,.lst ds=>(ZL ds).bind λa=>if JoinOk s a=true then some (.str (Txt.join s a))else none
 | _,_=>none
def zaj {f:ya} {g:yT} (A:ED X a f) (x:AD X [e] g) (hp:∀ {b:TE} {t:TA},PE X a b->PA X [e] t->PE X (.Call (.Attribute a "join" p) [e] [] pos) (tBM X.K "str" (zi7 X.K) b t)):ED X (.Call (.Attribute a "join" p) [e] [] pos) (Vn WI f g):=by
 obtain⟨b,E,o⟩:=A
 obtain⟨t,M,G⟩:=x
 refine⟨_,hp E M,fun σ ρ F H z Q s n h0 q=>?_⟩
 obtain⟨c,w,m⟩:=u4.mp h0
 obtain⟨O,B,h⟩:=u4.mp m
 clear h0 m
 split at h
 .rename_i d
  unfold WI at h
  split at h
  .rename_i j R
   obtain⟨L,J,h⟩:=u4.mp h
   split at h <;> cases h
   rename_i i
   refine o σ ρ F H _ _ s n w λF1 H1 v k K=>?_
   cases K.str_inv
   refine⟨rfl,?_⟩
   refine G σ ρ F1 H1 _ _ k.fh (n.mono k.ff) B λF2 H2 S g2 N=>?_
   obtain⟨y,P,rfl,C,u⟩:=N.cons_inv
   cases u.nil_inv
   obtain⟨l,T,rfl,r,I⟩:=C.lst_inv
   have:=I.strs J
   subst this
   exact⟨j,l,L,rfl,rfl,SqL.of (g2.fh _ _ r),i,q F2 H2 _ (k.trans g2) .str⟩
  .cases h
 .cases h
def yV (c d:D):Option zo:=match c,d with
 | .str x,.str y=>if (y.length == 0)=false/\x.length<=100000/\(Txt.split x y).length<=100000 then some ((Txt.split x y).map .str)else none
 | _,_=>none
def wT (m:D->D->Option zo)(f:ya)(g:yT):yT:=fun ρ=>(f ρ).bind λc=>(g ρ).bind λa=>match a with
 | [d]=>m c d
 | _=>none
def wM {f:ya} {g:yT} (B:ED X a f) (A:AD X [e] g) (hp:∀ {i:TE} {t:TA},PE X a i->PA X [e] t->PE X (.Call (.Attribute a "split" p) [e] [] pos) (tBM X.K "str" zfz i t)):FL X (.Call (.Attribute a "split" p) [e] [] pos) (wT yV f g):=by
 obtain⟨i,I,o⟩:=B
 obtain⟨t,L,J⟩:=A
 refine⟨_,hp I L,fun σ ρ F H z Q s n h0 q=>?_⟩
 obtain⟨c,w,m⟩:=u4.mp h0
 obtain⟨N,C,h⟩:=u4.mp m
 clear h0 m
 split at h
 .rename_i d
  unfold yV at h
  split at h
  .rename_i x y
   split at h <;> cases h
   rename_i G
   refine o σ ρ F H _ _ s n w λF1 H1 v k K=>?_
   cases K.str_inv
   refine⟨rfl,?_⟩
   refine J σ ρ F1 H1 _ _ k.fh (n.mono k.ff) C λF2 H2 P g2 M=>?_
   obtain⟨u,O,rfl,E,r⟩:=M.cons_inv
   cases r.nil_inv
   cases E.str_inv
   have R:100002<=sizeLine:=by rw[u0E];decide
   have b:=k.trans g2
   exact⟨x,y,rfl,rfl,G.1,by omega,by omega,λl j=>q _ _ _ _ (b.trans (Gr.hide g2.fh j _)) (zjS b j) (g2.fh.free j) zx (AtL.ofStrs _)⟩
  .cases h
 .cases h
def zae:vp
 | [.int i]=>if 0<=i/\i<1000000 then some (.str (Str.ofString (toString i)))else none
 | _=>none
def Wt:CaD (λd H Q=>∃ i,d=[.int i]/\i.natAbs.log2<1920/\Q (.str (toString i)) H) zae:=by
 intro F H k j z Q s b h q
 unfold zae at h
 split at h
 .rename_i i
  split at h <;> cases h
  rename_i l
  obtain⟨x,r,rfl,g,f⟩:=b.cons_inv
  cases f.nil_inv
  refine⟨i,by rw[g.int_inv],?_,q F H _ (.refl s) .str⟩
  by_cases c:i.natAbs=0
  .rw[c];decide
  .have e:(2:Nat)^20=1048576:=by decide
   have a:i.natAbs<2^20:=by rw[e];omega
   exact(Nat.log2_lt c).mpr (j3 a (Nat.pow_le_pow_right (by decide) (by decide)))
 .cases h
def zbw:vp
 | [.str x]=>if x.length<=640 then (intText? x).map .int else none
 | _=>none
def zaG:CaD (λc H Q=>∃ a n,c=[.str a]/\a.length<=640/\intText? a=some n/\Q (.int n) H) zbw:=by
 intro F H j i z Q s b h q
 unfold zbw at h
 split at h
 .rename_i x
  split at h
  .rename_i d
   obtain⟨n,e,rfl⟩:=t0.mp h
   obtain⟨y,r,rfl,g,f⟩:=b.cons_inv
   cases f.nil_inv
   exact⟨x,n,by rw[g.str_inv],d,e,q F H _ (.refl s) .int⟩
  .cases h
 .cases h
def Zr:vp
 | [.str x]=>if x.length<=100000 then some (.int (x.length:Int))else none
 | _=>none
def Z2:CaD (λb H Q=>∃ z,b=[.str z]/\z.length<=sizeLine/\Q (.int z.length) H) Zr:=by
 intro F H g f z Q s a h q
 unfold Zr at h
 split at h
 .rename_i x
  split at h <;> cases h
  rename_i i
  obtain⟨y,r,rfl,d,c⟩:=a.cons_inv
  cases c.nil_inv
  have e:100002<=sizeLine:=by rw[u0E];decide
  exact⟨x,by rw[d.str_inv],by omega,q F H _ (.refl s) .int⟩
 .cases h
def zd5:xC
 | .str x,.int i=>if x.length<=100000 then (L2.atI x.cps.toList i).map λc=>.str ⟨#[c]⟩else none
 | _,_=>none
def zhu:OpD zjV zd5:=by
 intro F H x y d e z Q s g f a q
 unfold zd5 at a
 split at a
 .rename_i w i
  split at a
  .rename_i j
   obtain⟨c,b,rfl⟩:=t0.mp a
   have h:100002<=sizeLine:=by rw[u0E];decide
   exact⟨w,i,c,g.str_inv,f.int_inv,by omega,b,q F H _ (.refl s) .str⟩
  .cases a
 .cases a
def zfw {f:ya}(e:ED X a f)(d:ED X b h)(c:VX b):ED X (.Subscript a b pos) (zd zd5 f h) :=
 let ⟨_,pa,ra⟩:=e
 let ⟨_,pb,rb⟩:=d
 ⟨_,ziV zfq pa pb c,zap zhu ra rb⟩
def zfI:xC
 | .str x,.str y=>some (.bl (!(Builtin.Str.occurrences y x 0 y.length 1).isEmpty))
 | _,_=>none
def zgl:OpD (λx y H Q=>∃ i j,x=.str i/\y=.str j/\Q (.bl (!(Builtin.Str.occurrences j i 0 j.length 1).isEmpty)) H) zfI:=by
 intro F H x y d e z Q s c b a q
 unfold zfI at a
 split at a <;> cases a
 exact⟨_,_,c.str_inv,b.str_inv,q F H _ (.refl s) .bl⟩
def signs:D->Option zo
 | .str x=>if x.cps.all (· < 128)=true then some (x.cps.toList.map λc=>.str ⟨#[c]⟩)else none
 | _=>none
def iTx (f:ya):yT:=fun ρ=>(f ρ).bind signs
def zfA {f:ya}(o:ED X a f):ID X tg a (iTx f):=by
 obtain⟨t,p,r⟩:=o
 refine⟨_,zjj p,fun σ ρ F H G R s w e q=>?_⟩
 obtain⟨d,n,g⟩:=u4.mp e
 refine r σ ρ F H d _ s w n λF1 H1 v C A=>?_
 unfold signs at g
 split at g
 .rename_i x
  split at g <;> cases g
  rename_i m
  refine⟨x,A.str_inv,m,q F1 H1 _ C λi F2 H2 E z=>⟨λB=>?_,λd k=>?_⟩⟩
  .show x.cps.size<=i
   rw[t1,h8]at B
   omega
  .rw[j7]at k
   obtain⟨c,h,rfl⟩:=t0.mp k
   have j:i<x.cps.size:=by have:=(q4.mp h).1;rwa[h8]at this
   refine⟨j,λy H3 u=>?_⟩
   obtain⟨rfl,l,b,rfl⟩:=u
   have:l=c:=by
    rw[Array.getElem?_toList]at h
    rw[h]at b
    exact(o6 b).symm
   subst this
   exact⟨F2,.refl z,.str⟩
 .cases g
def zdP (f:yT):yT:=fun ρ=>(f ρ).bind λa=>match a with
 | [.lst ds]=>some (ws 2 ds)
 | _=>none
def zc2 {tp:Pos} {f:yT} (W:Gl X "enumerate") (V:X.mg "enumerate"=none) (O:bootBuiltins "enumerate"=some (.type "enumerate")) (K:AD X [a] f) (J:backTo pos (starEach [a] X.env)=(false,eval a X.env)::backTo pos (starEach [] X.env):=by rfl) (m:(backTo pos (starEach [a] X.env)).any (·.1)=false:=by rfl):ID X (.Tuple L k tp) (.Call (.Name "enumerate" p) [a] [⟨some "start",.Constant (.int 2) j U,M⟩] pos) (zdP f):=by
 obtain⟨t,N,r⟩:=K
 refine⟨_,zeZ W V O N J m,fun σ ρ F H ds R s Q e q=>?_⟩
 obtain⟨G,I,h⟩:=u4.mp e
 refine r σ ρ F H G _ s Q I λF1 H1 v E S=>?_
 split at h
 .rename_i P
  cases h
  obtain⟨x,r',rfl,o,ar⟩:=S.cons_inv
  cases ar.nil_inv
  obtain⟨p,c,rfl,w,B⟩:=o.lst_inv
  refine⟨p,c,rfl,E.fh _ _ w,q F1 H1 _ E λi F2 H2 u C=>?_⟩
  have n:SqL X.K H2 p c:=SqL.of (C _ _ (u _ _ w))
  refine⟨λZ=>⟨c,n,by rw[B.length,Z,xy]⟩,λd A=>?_⟩
  rw[w4]at A
  obtain⟨d',g,rfl⟩:=t0.mp A
  obtain⟨x,b,o⟩:=B.get g
  refine⟨⟨c,x,n,b⟩,λy H3 l=>?_⟩
  obtain⟨T,y,rfl,Y,rfl,l⟩:=l
  have:=l c n
  rw[b]at this
  cases this
  have z:=Gr.alloc C Y (.tup [.int ((i+2:Nat):Int),x])
  exact⟨_,z,.tup zx (.cons (by rw[Nat.add_comm];exact .int) (.cons (o.mono (u.trans z.ff)) .nil))⟩
 .cases h
end
end Dl
namespace Mz
open PySem Dl
abbrev Tie:=Int × Int
abbrev y6:=List Tie
def ltP (s t:Tie):Prop:=s.1<t.1\/(s.1=t.1/\s.2<t.2)
instance (s t:Tie):Decidable (ltP s t):=by unfold ltP;infer_instance
def VJ (h:ltP a b)(k:ltP b c):ltP a c:=by
 unfold ltP at *
 omega
def zv (t:Tie):D:=.tup [.int t.1,.int t.2]
def Xs (h:zv s=zv t):s=t:=by
 unfold zv at h
 injection h with h
 injection h with h1 h2
 injection h2 with h2 _
 injection h1 with h1
 injection h2 with h2
 exact Prod.ext h1 h2
def Y7:∀ {s t:y6},s.map zv=t.map zv->s=t
 | [],[],_=>rfl
 | [],_::_,h=>by cases h
 | _::_,[],h=>by cases h
 | a::s,b::t,h=>by
  rw[u0w,u0w]at h
  injection h with h1 h2
  rw[Xs h1,Y7 h2]
def wI (b:Int)(a:y6):D:=.tup [.int b,.tup (a.map zv)]
structure vY (many:Int) (ties:y6):Prop where
 lo:1<=many
 hi:many<=8
 rng:∀ t∈ties,0<=t.1/\t.1<t.2/\t.2<many
 srt:ties.Pairwise ltP
def leP (s t:Tie):Bool:=if s.1=t.1 then (if s.2=t.2 then true else decide (s.2<=t.2))else decide (s.1<=t.1)
def YV:leP s t=false↔ltP t s:=by
 unfold leP ltP
 by_cases h:s.1=t.1
 .rw[j0 h]
  by_cases k:s.2=t.2
  .rw[j0 k];simp;omega
  .rw[j6 k,l4];omega
 .rw[j6 h,l4];omega
def Yp:D->Option Tie
 | .tup [.int a,.int b]=>some (a,b)
 | _=>none
def vU (t:Tie):Yp (zv t)=some t:=rfl
def Xo (h:Yp d=some t):d=zv t:=by
 unfold Yp at h
 split at h
 .cases h;rfl
 .cases h
def inR (m a:Int):Bool:=decide (0<=a)&&decide (a<=m-1)
def x8 (m:Int)(d:D):Bool:=match Yp d with
 | some t=>inR m t.1&&inR m t.2&&!decide (t.1=t.2)
 | none=>false
def W5 (p:Option Tie)(t:Tie):Bool:=match p with
 | some q=>!leP t q
 | none=>true
def yL (m:Int):Option Tie->zo->Bool
 | _,[]=>true
 | p,d::r=>match Yp d with
  | some t=>x8 m d&&!decide (t.2<t.1)&&W5 p t&&yL m (some t) r
  | none=>false
def Ye (m:Int):D->Bool
 | .tup a=>yL m none a
 | _=>false
def wy:D->Bool
 | .tup [.int m,t]=>decide (1<=m)&&decide (m<=8)&&Ye m t
 | _=>false
def ZH (m:Int):∀ (j:zo) (p:Option Tie),yL m p j=true↔∃ l:y6,j=l.map zv/\(∀ t∈l,0<=t.1/\t.1<t.2/\t.2<m)/\(∀ q,p=some q->∀ t∈l,ltP q t)/\l.Pairwise ltP:=by
 intro j
 induction j with
 | nil =>
  intro p
  refine⟨λ_=>⟨[],rfl,by simp,by simp,.nil⟩,λ_=>rfl⟩
 | cons d r z =>
  intro p
  unfold yL
  cases e:Yp d with
  | none =>
   refine Iff.intro (λh=>nomatch h) (λx=>?_)
   obtain⟨l,h,_⟩:=x
   cases l with
   | nil=>cases h
   | cons t s =>
    rw[u0w]at h
    injection h with c _
    rw[c,vU]at e
    cases e
  | some t =>
   have w:=Xo e
   subst w
   simp only[x8,vU,t5,Bool.not_eq_true',l4,inR,r8]
   rw[z (some t)]
   constructor
   .rintro⟨⟨⟨⟨⟨c,o⟩,B⟩,C⟩,y⟩,l,rfl,i,g,f⟩
    refine⟨t::l,rfl,?_,?_,u1H.mpr ⟨g t rfl,f⟩⟩
    .intro u a
     rcases q3.mp a with rfl | a
     .omega
     .exact i u a
    .rintro q rfl u a
     have b:ltP q t:=YV.mp (by simpa [W5]using y)
     rcases q3.mp a with rfl | a
     .exact b
     .exact VJ b (g t rfl u a)
   .rintro⟨l,h,i,g,f⟩
    cases l with
    | nil=>cases h
    | cons u s =>
     rw[u0w]at h
     injection h with c o
     have a:=Xs c
     subst a
     have A:=i t (by simp)
     refine⟨⟨⟨⟨⟨by omega,by omega⟩,by omega⟩,by omega⟩,?_⟩,s,o,λv n=>i v (by simp[n]),λq k v n=>?_,(u1H.mp f).2⟩
     .cases p with
      | none=>rfl
      | some q =>
       have:=YV.mpr (g q rfl t (by simp))
       simp[W5,this]
     .cases k
      exact(u1H.mp f).1 v n
def Zh (d:D):wy d=true↔∃ m a,d=wI m a/\vY m a:=by
 constructor
 .intro h
  unfold wy at h
  split at h
  .rename_i m t
   simp only[t5,r8]at h
   obtain⟨⟨c,i⟩,b⟩:=h
   unfold Ye at b
   split at b
   .rename_i g
    obtain⟨l,rfl,f,_,e⟩:=(ZH m g none).mp b
    exact⟨m,l,rfl,c,i,f,e⟩
   .cases b
  .cases h
 .rintro⟨m,a,rfl,w⟩
  unfold wI wy Ye
  simp only[t5,r8]
  exact⟨⟨w.lo,w.hi⟩,(ZH m _ none).mpr ⟨a,rfl,w.rng,by simp,w.srt⟩⟩
def zg8 (h:∀ m a,d=wI m a->¬ vY m a):wy d=false:=by
 cases e:wy d with
 | false=>rfl
 | true =>
  obtain⟨m,a,rfl,w⟩:=(Zh d).mp e
  exact absurd w (h m a rfl)
def wg (n:Nat):y6:=(List.range n).flatMap λa=>(List.range (n-(a+1))).map λ(j:Nat)=>((a:Int),(a:Int)+1+(j:Int))
def Vq:∀ n:Nat,n<=8->(wg n).Pairwise ltP/\(∀ t∈wg n,0<=t.1/\t.1<t.2/\t.2<(n:Int))/\(wg n).length<=28:=by
 have h:∀ n:_root_.Fin 9,(wg n.val).Pairwise ltP/\(∀ t∈wg n.val,0<=t.1/\t.1<t.2/\t.2<(n.val:Int))/\(wg n.val).length<=28:=by decide +kernel
 exact λn a=>h ⟨n,by omega⟩
end Mz
namespace Mz
open Dl
def VN (i j:Nat):y6:=(List.range j).map λ(k:Nat)=>((i:Int),(i:Int)+1+(k:Int))
def xP (n i:Nat):y6:=(List.range i).flatMap λa=>VN a (n-(a+1))
def zcl (n:Nat):wg n=xP n n:=rfl
def ZC (n i:Nat):xP n (i+1)=xP n i++VN i (n-(i+1)):=by
 unfold xP
 rw[List.range_succ,List.flatMap_append]
 simp
def ZJ (i j:Nat):(VN i j).length=j:=by unfold VN;simp
def zbG (n:Nat)(a:n<=8):∀ i:Nat,(xP n i).length<=8*i:=by
 intro i
 induction i with
 | zero=>simp[xP]
 | succ i b =>
  rw[ZC,q5,ZJ]
  omega
def za0 (c k:Int):Int :=
 let a:=(c%2147483647+977*k+1)*48271%2147483647
 let b:=a*a%2147483629
 (b+40692*(k+3))*69621%2147483647/8
def adj (c:y6)(a b:Int):Prop:=(a,b)∈c\/(b,a)∈c
inductive zeP (ts:y6) (p:Int):Nat->Int->Prop
 | zero:zeP ts p 0 p
 | step {k:Nat} {a b:Int}:zeP ts p k a->adj ts a b->zeP ts p (k+1) b
def zjR {P:Nat->Prop}:∀ k,P k->∃ j,P j/\∀ i,P i->j<=i:=by
 intro k
 induction k using Nat.strongRecOn with
 | _ k b =>
  intro h
  by_cases c:∃ i,i<k/\P i
  .obtain⟨i,a,d⟩:=c
   exact b i a d
  .exact⟨k,h,λi a=>u15 λz=>c ⟨i,z,a⟩⟩
def Within (a:y6)(p:Int)(k:Nat)(v:Int):Prop:=∃ j,j<=k/\zeP a p j v
def zh0 {n:Nat}{i:Int}(h0:0<=i)(a:i<n):L2.ixN n i=some i.toNat:=by
 unfold L2.ixN
 rw[j0 h0,j0 a]
def Z7 {α:Type}{xs:List α}{i:Int}{x:α}(h0:0<=i)(h:xs[i.toNat]?=some x):L2.atI xs i=some x:=by
 have:=(q4.mp h).1
 unfold L2.atI
 rw[zh0 h0 (by omega)]
 exact h
def zeo (ns:zB):zhw [.lst (ns.map .int)]=some (.int ns.sum):=by
 show((zhn (ns.map .int)).bind λns=>some (D.int ns.sum))=_
 rw[zaD]
 rfl
def zeA {α:Type}(a:List α)(c b:yu):(XM a c b).length<=a.length:=by
 unfold XM
 rw[r0,r9]
 omega
def Y1 {a b:zo}(h:a.length+b.length<=1000):yb (.lst a) (.lst b)=some (.lst (a++b)):=by
 show(if lim (a.length+b.length)=true then _ else none)=_
 rw[j0 (wK h)]
def zfg:∀ {ns:zB},(∀ x∈ns,0<=x)->0<=ns.sum
 | [],_=>by simp
 | n::ns,h=>by
  have:=zfg (ns:=ns) λx a=>h x (l6 _ a)
  have:=h n p9
  rw[List.sum_cons]
  omega
def Zz {f:ya}{ρ:SE}(h:vEv m f ρ=some d)(a:ρ.set i (.v d)=ρ':=by rfl):yf m i f ρ=.nx ρ':=by
 unfold yf
 rw[h,<- a]
def xQ {f:ya}(h:f (visG ρ)=some d):yI f ρ=.rt d:=by
 unfold yI
 rw[h]
def zg4 {f:yT}{ρ:SE}(h:f (visF ρ)=some a)(b:ρ.set i (.o a)=ρ':=by rfl):Yj i f ρ=.nx ρ':=by
 unfold Yj
 rw[h,<- b]
def yh:neD (.int a) (.int b)=some (.bl (!decide (a=b))):=rfl
def zaZ {a m x:Int}(h:0<m)(b:a%m=x):0<=x/\x<m:=by
 subst b
 exact⟨u0Q _ (by omega),u0P _ h⟩
def zQ:vL (.int a) (.int b)=some (.bl (decide (a=b))):=rfl
def yk:vL (.bl a) (.bl b)=some (.bl (decide (a=b))):=rfl
def zM:vL (.str a) (.str b)=some (.bl (decide (a=b))):=rfl
def zO:yb (.int a) (.int b)=some (.int (a+b)):=rfl
def zeu {a b:zo}(h:a.length+b.length<=1000):yb (.tup a) (.tup b)=some (.tup (a++b)):=by
 show(if lim (a.length+b.length)=true then some (D.tup (a++b))else none)=_
 rw[j0 (wK h)]
def zdI {α:Type}(a:List α)(k:Nat):XM a none (some (k:Int))=a.take k:=by
 unfold XM
 rw[HT.sIx_none,List.drop_zero,Nat.sub_zero,HT.sIx_nat]
 by_cases h:k<=a.length
 .rw[Nat.min_eq_left h]
 .rw[Nat.min_eq_right (by omega),u00 (t7 _),u00 (by omega)]
def Ve {α:Type}(a:List α)(k:Nat):XM a (some (k:Int)) none=a.drop k:=by
 unfold XM
 rw[HT.sIx_none,HT.sIx_nat]
 by_cases h:k<=a.length
 .rw[Nat.min_eq_left h,u00 (by rw[r9];omega)]
 .rw[Nat.min_eq_right (by omega),Nat.sub_self,List.take_zero,List.drop_of_length_le (by omega)]
section
variable {ρ:Ev}{f g h:ya}{a:yT}{t u:vO}{d e x y z:D}{ds es:zo}{b c:Bool}
def ym:zh ρ=some []:=rfl
def zA (b:f ρ=some d)(c:a ρ=some ds):za f a ρ=some (d::ds):=by unfold za;rw[b,c];rfl
def xi {n:Nat}{p:vp}(b:a ρ=some ds)(e:p ds=some d)(c:ds.length=n:=by rfl):zq n p a ρ=some d:=by
 unfold zq
 rw[b,t4,j0 c,e]
def x5 {n:Nat}{p:vp}{σ b:SE}(c:a (visF σ)=some ds)(g:p ds=some d)(f:ds.length=n:=by rfl)(e:σ.set i (.v d)=b:=by rfl):yf false i (zq n p a) σ=.nx b:=Zz (show zq n p a (visF σ)=some d from xi c g f) e
def Yi {f:ya}{σ a:SE}(h:f (visF σ)=some d)(b:σ.set i (.v d)=a:=by rfl):yf false i f σ=.nx a:=Zz (show f (visF σ)=some d from h) b
def zm {k:xC}(a:f ρ=some x)(b:g ρ=some y)(c:k x y=some z):zd k f g ρ=some z:=by unfold zd;rw[a,b];exact c
def vH (b:a ρ=some ds):yy a ρ=some (.lst ds):=by unfold yy;rw[b];rfl
def vd {k:vp}(b:a ρ=some ds)(c:k ds=some d):eFn k a ρ=some d:=by unfold eFn;rw[b];exact c
def Xc (b:a ρ=some ds)(c:ds.length<=1000):zW a ρ=some ds:=by unfold zW;rw[b,t4,j0 (wK c)]
def zdj (b:a ρ=some ds)(c:ds.length<=1000):x6 a ρ=some (.tup ds):=by unfold x6;rw[b,t4,j0 (wK c)]
def zaH (a:f ρ=some d)(b:yY d=some ds):iOf f ρ=some ds:=by unfold iOf;rw[a];exact b
def zhM (a:f ρ=some (.bl b))(d:g ρ=some (.bl c)):wY f g ρ=some (.bl (b&&c)):=by unfold wY;rw[a,d];cases b <;> rfl
def yP (a:f ρ=some (.bl b)):tOf f ρ=some b:=by unfold tOf;rw[a];rfl
def Z9 (a:t ρ=some b):zV t ρ=some (!b):=by unfold zV;rw[a];rfl
def zfC (a:t ρ=some b)(d:u ρ=some c):yD t u ρ=some (b&&c):=by unfold yD;rw[a,d];cases b <;> rfl
def W1 (a:t ρ=some b)(d:u ρ=some c):yX t u ρ=some (b||c):=by unfold yX;rw[a,d];cases b <;> rfl
def zgV (a:t ρ=some false):yD t u ρ=some false:=by unfold yD;rw[a];rfl
def zgW (a:t ρ=some true)(b:u ρ=some c):yD t u ρ=some c:=by unfold yD;rw[a];exact b
def XW (a:t ρ=some false)(b:u ρ=some c):yX t u ρ=some c:=by unfold yX;rw[a];exact b
end
end Mz
namespace PySem
open Sem (wp)
def Runs.toks {f:List Frame}{s c:zi}(h:Runs M Γ p t f s e c):s.toks<=c.toks:=by
 induction h with
 | done=>exact t7 _
 | raise=>exact t7 _
 | yield=>exact t7 _
 | fresh _ d=>exact k9 (u06 _) d
 | call _ _ b a=>exact k9 b a
 | resumeFresh _ _ _ _ b a=>exact k9 b a
 | resumeSuspended _ _ _ _ b a=>exact k9 b a
 | segRet _ _ b a=>exact k9 b a
 | segGen _ _ b a=>exact k9 b a
 | segSuspGen _ _ _ _ b a=>exact k9 b a
 | _=>assumption
def Wakes.toks {g:Nat}{s b:zi}(h:Wakes M Γ p g r s res b):s.toks<=b.toks:=by
 unfold Wakes at h
 split at h
 .exact h.elim
 .split at h
  .obtain⟨e,c,a,_,_,rfl⟩:=h
   exact a.toks
  .rw[h.2];exact t7 _
  .rw[h.2];exact t7 _
 .obtain⟨e,c,a,_,_,rfl⟩:=h
  exact a.toks
 .rw[h.2];exact t7 _
 .rw[h.2];exact t7 _
def zgF {α:Type}{n:Nat}{Q:α->Pos->Shared->Prop}{E:Value->Pos->Shared->Prop}:∀ (t:Sem α) (p:Pos) (s:zi),n<=s.toks->wp M Γ t Q E p s->wp M Γ t (λa j i=>n<=i.toks/\Q a j i) (λe j i=>n<=i.toks/\E e j i) p s:=by
 intro t
 induction t with
 | pure a=>exact λp s b h=>⟨b,h⟩
 | raise e=>exact λp s b h=>⟨b,h⟩
 | rule _ k d=>exact λp s b h=>d () p s b h
 | «at» j k d=>exact λp s b h=>d () j s b h
 | load a _ k d=>exact λp s b ⟨o,u,h⟩=>⟨o,u,d o p s b h⟩
 | update a _ f k d=>exact λp s b ⟨u,h⟩=>⟨u,d () p _ b h⟩
 | loadIfAlive a k d=>exact λp s b h=>d _ p s b h
 | point _ k d=>exact λp s b h=>d () p s b h
 | alloc o k d=>exact λp s b h=>d _ p _ b h
 | fresh k d=>exact λp s b h=>d _ p _ (Nat.le_succ_of_le b) h
 | ask k d=>exact λp s b h=>d _ p s b h
 | choose v m k d=>exact λp s b ⟨h0,h⟩=>⟨h0,d _ p _ b h⟩
 | os q _ k d=>exact λp s b h=>d _ p _ b h
 | call c x _ _ k d=>exact λp s b ⟨r,i,l,h⟩=>⟨r,i,l,d r p i (k9 b (Runs.toks l)) h⟩
 | handled own k d=>exact λp s b h=>d _ p s b h
 | genState g k d=>exact λp s b ⟨w,h0,h⟩=>⟨w,h0,d _ p s b h⟩
 | newGen c k d=>exact λp s b h=>d _ p _ b h
 | resume g r _ k d=>exact λp s b ⟨res,i,l,h⟩=>⟨res,i,l,d _ p i (k9 b (Wakes.toks l)) h⟩
 | _=>first | exact λp s b h=>h.elim | exact λp s b h=>by simp only[wp]at h ⊢;simp_all
def zeK {α:Type}{t:Sem α}{Q:α->Shared->Prop}{E:xa}{s:zi}(h:wpAny M A t (λv a=>s.toks<=a.toks->Q v a) (λe a=>s.toks<=a.toks->E e a) s):wpAny M A t Q E s:=fun Γ p b =>
 Sem.wp_mono M Γ t (λ_ _ _ z=>z.2 z.1) (λ_ _ _ z=>z.2 z.1) p s (zgF t p s (t7 _) (h Γ p b))
def Y0 {α:Type}{t:Sem α}{Q:α->Shared->Prop}{E:xa}{s:zi}(c:0<s.toks)(h:wpAny M A t (λv a=>0<a.toks->Q v a) (λe a=>0<a.toks->E e a) s):wpAny M A t Q E s :=
 zeK (n8 h (λ_ _ z b=>z (j3 c b)) λ_ _ z b=>z (j3 c b))
end PySem
namespace PySem
section
variable {M:Model}{A:z5}{E:xa}{r s:zi}{m cm:wH}{env:Env}
def zhX {Q:Unit->Shared->Prop}(x:InCallC r env.locals m env.cells cm s)(i:env.scope.kind=.function)(p:env.kindOf n=some .local)(q:∀ t,InCallC r env.locals (λy=>if y=n then some v else m y) env.cells cm t->0<t.toks->Q () t):wpAny M A (storeName env n v) Q E s:=by
 have j:(env.scope.kind == .class||(env.scope.kind == .module&&env.locals != env.globals))=false:=by rw[i];rfl
 refine wpAny_storeName_local p x.toInCall.ns (λg h d=>?_) j
 refine q _ ?_ (Nat.succ_pos _)
 have l:∀ b o,r.heap.get? b=some o->b≠env.locals:=λb o e=>j5 (j3 (t8 e) x.toInCall.fresh)
 have f:∀ k c,env.cells.lookup k=some c->c≠env.locals:=λk c a=>u0h (x.above k c (mem_of_lookup a))
 obtain⟨u,w,rfl⟩:=x.toInCall.same
 exact { toInCall:={ same:=⟨g,_,rfl⟩,ns:=h,keep:=λb o e=>d.extBut b o (l b o e) (x.toInCall.keep b o e),fresh:=x.toInCall.fresh },cell:=λk c a=>(x.cell k c a).sameBut d (f k c a),apart:=x.apart,above:=x.above }
end
section
variable {M:Model}{A:z5}{E:xa}{s:zi}
def zcJ {sc:Scope}{g f:Addr}{Q:Env->Shared->Prop}(r:sc.kind=.function)(p:sc.names.lookup x=some .local)(F:∀ y∈d,sc.names.lookup y.1=some .local\/(sc.names.lookup y.1=some .cell/\((cellsFrom (s.heap.objs.size+1) sc.names []).lookup y.1).isSome=true))(q:∀ e,e=newEnv sc s.heap.objs.size g (cellsFrom (s.heap.objs.size+1) sc.names []) k j h none f->∀ t,InCallC s e.locals (bindL e.kindOf ((x,v)::d) λ_=>none) e.cells (bindC e.kindOf ((x,v)::d) λ_=>none) t->0<t.toks->Q e t) :
 wpAny M A (newFunctionEnv sc g [] ((x,v)::d) k j h none f) Q E s:=by
 simp only[newFunctionEnv,Option.isSome_none,Bool.false_eq_true,if_false]
 refine u5 (wpAny_alloc (u5 (wpAny_layCells _ (λa b c=>by cases z:b == NameKind.cell <;> simp[z]) _ _ _ _ ?_)))
 have l:=cellsFrom_ok sc.names (s.heap.push { cls:=.type "frame",data:=.dict #[] }) (s.heap.objs.size+1) [] ⟨λ_ _ z=>(nomatch z),.nil⟩ (Nat.le_of_eq (g6 ..).symm)
 rw[g6]at l
 rw[show({ s with heap:=s.heap.push { cls:=.type "frame",data:=.dict #[] } }:zi).heap.objs.size=s.heap.objs.size+1 from g6 ..]
 rw[u1u]
 have D:InCallC s s.heap.objs.size (λ_=>none) (cellsFrom (s.heap.objs.size+1) sc.names []) (λ_=>none) { s with heap:=pushCells (s.heap.push { cls:=.type "frame",data:=.dict #[] }) sc.names } :=
  { toInCall:={ same:=⟨_,_,rfl⟩,ns:=(Heap.Ns.new s.heap (.type "frame")).keeps (pushCells_keeps _ _),keep:=λb o e=>pushCells_keeps _ _ b o (u6 _ e),fresh:=t7 _ },cell:=λn c z=>(l.empty n c (mem_of_lookup z)).1,apart:=l.apart,above:=λn c z=>(l.empty n c z).2 }
 refine u5 (u5 (u5 (zhX (env:=newEnv sc s.heap.objs.size g (cellsFrom (s.heap.objs.size+1) sc.names []) k j h none f) D r p λt w C=>t9 ?_)))
 refine Y0 C ?_
 refine wpAny_bindParams (s₀:=s) (env:=newEnv sc s.heap.objs.size g (cellsFrom (s.heap.objs.size+1) sc.names []) k j h none f) _ (λ_ _ _=>rfl) r d _ _ _ _ w F λu B m=>t9 (q _ rfl u ?_ m)
 unfold bindL bindC
 have i:=(show(newEnv sc s.heap.objs.size g (cellsFrom (s.heap.objs.size+1) sc.names []) k j h none f).kindOf x=some .local from p)
 rw[j0 i,j0 i]
 exact B
end
end PySem
namespace L2
open PySem PySem.Spec PyProof.Rows
structure zbj (P:zX) (w:World) (K:zu) (mg:wH) (base:Heap) (CX:CXT) (k:Nat) (f:Addr) (fd:vy) (ps:zr) (sp:Sp):Prop where
 len:∀ vs H Q E,sp vs H Q E->vs.length=ps.length
 run:∀ (A:z5) (outer:List Env) (s:zi) (H:Hp) (args:Args) (us:zH) (vs:zz) (Q:VK) (E:XK),wF k A->zfa P w K mg base A outer s H->BindsTo s fd args (ps.zip us)->yU vs us->sp vs H Q E ->
  codeAny (model P w) A (.call (.ref f) args) (λr s'=>CR CX outer P w H s Q E r s'/\0<s'.toks) s
def zbj.ok {P:zX}{w:World}{K:zu}{a:wH}{base:Heap}{CX:CXT}{k:Nat}{f:Addr}{d:vy}{b:zr}{c:Sp}(F:zbj P w K a base CX k f d b c):vP P w K a base CX k f d b c :=
 ⟨F.len,λA outer s H args m e Q E n g l i j=>u0t (F.run A outer s H args m e Q E n g l i j) λ_ _ h=>h.1⟩
def zgZ {w:World}{K:zu}{g:Heap}{f:Addr}{a:Scope}{kV:Value}{N:zr}{Y:Sp}(lk:K.lookup f=some ⟨oc,od,.func (PySem.W.fnOf l c h i a dV kV C pm an d ct),W⟩)(Z:PySem.W.codeIn K d c=true)(S:we N (F::G) a)(h0:a.names.lookup F=some .local)(L:∀ j H Q E,Y j H Q E->j.length=(F::G).length) (p:∀ (A:z5) (outer:List Env) (s:zi) (H:Hp) (j:zz) (Q:VK) (E:XK),wF k (A.deeper (envOfC c a s.heap.objs.size f d))->Y j H Q E ->
 ∃ t,PSs (vQ CX P w K R g N c a f d A outer s H E) i t/\t { nx:=λ_ H'=>Q .non H',rt:=Q } (start N j) H) :
 zbj P w K R g CX (k+1) f (PySem.W.fnOf l c h i a dV kV C pm an d ct) (F::G) Y:=by
 refine⟨L,λA outer s H args X j Q E hr D hb r M=>?_⟩
 have hl:=L _ _ _ _ M
 have KX:K.In s.heap:=D.mod.kin.keeps λb o e=>(D.bs b o e).1
 have lim:s.heap.NoLimit:=D.mod.nolimit.keeps λb o e=>(D.bs b o e).1
 have m:∀ y∈(F::G).zip X,a.names.lookup y.1=some .local\/(a.names.lookup y.1=some .cell/\((cellsFrom (s.heap.objs.size+1) a.names []).lookup y.1).isSome=true):=λ⟨n,v⟩ hy=>by
  rcases S.par n (u0T hy).1 with q | q
  .exact .inl q
  .exact .inr ⟨q,u0B _ _ _ (.inl q)⟩
 have hu:X.length=G.length+1:=by rw[<-r.length];exact hl
 cases X with
 | nil=>cases hu
 | cons u0 ur =>
  refine u1g hr.depth (KX _ _ lk) rfl S.co S.gen rfl (u1K KX Z) (hb _ _ _ _ ?_)
  refine zcJ S.kind h0 (λy hy=>m y (.tail _ hy)) λenv he s1 x ht=>?_
  subst he
  refine⟨lim.keeps x.toInCall.keep,codeAny_func ?_⟩
  obtain⟨t,U,hq⟩:=p A outer s H j Q E (hr.deeper _) M
  have I:Inv (vQ CX P w K R g N c a f d A outer s H E) [] (start N j) H s1:=Xh S hr.hd D hl r x
  refine Y0 ht (n8 (U [] s1 (start N j) H _ I hq) (λfl s' B O=>?_) λe s' B O=>?_)
  .have fin:∀ {T:St} {H':Hp} {v:V} {u:Value},Inv (vQ CX P w K R g N c a f d A outer s H E) [] T H' s'->xW v u->Q v H'->CE outer P w H s Q u s' :=
    λ{T H' v u} J rv q=>⟨v,H',J.os,J.bare,J.base,J.hok,rv,q⟩
   cases fl with
   | ret u =>
    obtain⟨v,T,H',J,rv,q⟩:=B
    exact⟨fin J rv q,O⟩
   | next =>
    obtain⟨T,H',J,q⟩:=B
    exact⟨fin (v:=V.non) (u:=Value.none) J rfl q,O⟩
   | brk =>
    obtain⟨_,_,_,q⟩:=B
    exact False.elim q
   | cont =>
    obtain⟨_,_,_,q⟩:=B
    exact False.elim q
  .exact Y0 O (n8 B (λ_ _ z k=>⟨z,k⟩) λ_ _ z k=>⟨z,k⟩)
section
variable {X:Cx}{CX:CXT}{k:Nat}{f:Addr}{fd:vy}{ps:zr}{sp:Sp}{E:XK}{x y z:Str}{p pos p1 p2 q1 q2:Pos}{j1 j2:Nat}{e:Expr}{es:yK}{t:TA}
def ze6 {g:zz}(F:zbj X.prog X.w X.K X.mg X.base CX k f fd ps sp)(n:wF k X.A)(i:YB X.K fd ps [])(j:Ys CX X E)(I:Inv X a σ H s)(r:yU g c)(h:sp g H Q E):wpAny (model X.prog X.w) X.A (call (.ref f) c) (λu d=>EP X a σ Q u d/\0<d.toks) X.xe s:=by
 have o:c.length=ps.length:=by rw[<-r.length];exact F.len _ _ _ _ h
 have hb2:=i s c I.kIn (by rw[n0];exact o)
 rw[n0]at hb2
 refine u0N (u0t (F.run X.A X.stack s H ⟨c,[]⟩ c g Q E n I.env0 hb2 r h) λr d b=>?_)
 obtain⟨b,l⟩:=b
 cases r with
 | error e=>exact j a σ H s e d I b
 | ok m =>
  cases m with
  | ret u=>exact⟨I.after b,l⟩
  | next=>exact False.elim b
  | brk=>exact False.elim b
  | cont=>exact False.elim b
end
end L2
namespace Dl
open PySem L2
section
variable [KK]{X:Cx}{x y z:Str}{k m:Nat}{f:Addr}{fd:vy}{ps:zr}{p:vp}{e:Expr}{es:yK}{fa:yT}
def zgt {w:World}{x:Str}{f:Addr}{fd:vy}{N:zr}{k:Nat}{g:zU}(Fu:Fun K x b j f fd)(S:we N (x0::pr) (zw j))(h0:(zw j).names.lookup x0=some .local)(C:∀ (c:Value) (A:z5) (outer:List Env) (s:zi) (H:Hp) (E:XK),wF k (A.deeper (PyProof.Rows.envOfC b (zw j) s.heap.objs.size f c))->SDs (vQ CX0 P w K o i N b (zw j) f c A outer s H E).nox (xb j) g) :
 zbj P w K o i CX0 (k+1) f fd (x0::pr) (spD (x0::pr).length (fnD N.length g)):=by
 obtain⟨O,T,kV,y,M,R,c,ct,D,rfl,B,m⟩:=Fu.ex
 refine zgZ B m S h0 (λz H Q E h=>?_) λA outer s H z Q E J h=>?_
 .obtain⟨n,d,F,u,_,a,_⟩:=h
  rw[a.length];exact u
 .obtain⟨n,d,F,u,L,a,e,q⟩:=h
  obtain⟨t,p,r⟩:=(C c A outer s H E J).nox
  refine⟨t,p,r F H F H _ _ _ (Wa L a) ?_⟩
  unfold fnD at e
  cases l:g (n.map .v++List.replicate (N.length-n.length) .no) with
  | rt U=>rw[l]at e;cases e;exact λF' H' v g G=>q F' H' v g G
  | nx ρ=>rw[l]at e;cases e;exact λF' H' σ I=>q F' H' _ I.gr .non
  | bk ρ=>rw[l]at e;cases e
  | ct ρ=>rw[l]at e;cases e
  | no=>rw[l]at e;cases e
end
end Dl
namespace L2
open PySem PySem.Spec PyProof.Rows
def zbj.mono {P:zX}{w:World}{K:zu}{b:wH}{a:Heap}{CX:CXT}{j k:Nat}{f:Addr}{d:vy}{ps:zr}{c:Sp}(F:zbj P w K b a CX j f d ps c)(h:j<=k) :
 zbj P w K b a CX k f d ps c:=⟨F.len,λA outer s H args g e Q E i=>F.run A outer s H args g e Q E (i.mono h)⟩
end L2
namespace Dl
open PySem L2 PySem.Spec PyProof.Rows
open Classical in
noncomputable def off (x q:Addr)(H:Hp):Hp:=λb=>if b=x\/b=q then none else H b
structure DkAt [KK] (F H:Hp) (x dx q:Addr) (w h:D) (ps:zo):Prop where
 ex:∃ vw vh xs,H x=some (.ins KK.dk dx (V8 vw vh q))/\H q=some (.lst xs)/\At F w vw/\At F h vh/\AtL F ps xs
 fx:F x=none
 fq:F q=none
section
variable [KK]{X:Cx}{a b o e:Expr}{es:yK}{p apos pos pos' pos2:Pos}{f:ya}{fa:yT}{m:Str}
abbrev KF:=D->D->zo->zo->Option (D × D × zo)
def KE (X:Cx)(e:Expr)(f:SE->Option (D × SE)):Prop:=∃ t,PE X e t/\∀ (Fb Hb F H:Hp) (ρ:SE) (σ:L2.St) (Q:VK) (d:D) (a:SE),Rl Fb Hb F H ρ σ->f ρ=some (d,a)->(∀ F' H' v,yt F F'->Rl Fb Hb F' H' a σ->At F' d v->Q v H')->t σ H Q
end
section
variable [KK]{X:Cx}{e1 e2 e3:Expr}{a1 a2 a3:Expr}{p1 p2 p3 pos pos1 pos2 pos3 pos':Pos}
def w0:D:=.tup [.int 1,.tup []]
def h0:D:=.tup [.int 0]
def spI:Sp:=λb H Q _=>∃ x a F,b=[.ref x]/\yt F H/\F x=none/\H x=some (.ins KK.dk a [])/\∀ F' H' q,H q=none->Gr F (off x q H) F' (off x q H')->DkAt F' H' x a q w0 h0 []->Q .non H'
end
section
variable [KK]{X:Cx}{a b o e:Expr}{es:yK}{p apos pos pos' pos2:Pos}{f:ya}{fa:yT}{m:Str}
abbrev KV:=D->D->zo->zo->Option (D × D × D × zo)
end
def zhR [KK]{x1}(h:XA E cl X es fx):XE E cl X (.Tuple es x1 pos) fx:=by
 obtain⟨t,c,a⟩:=h
 exact⟨_,zfn c,fun σ ρ F H j Q s b e w=>a σ ρ F H j _ s b e w⟩
section
variable [KK]
variable {Fb Hb O F H F' H':Hp}
open Classical in
noncomputable def frz (O F:Hp):Hp:=λp=>match F p with
 | some o=>some o
 | none=>O p
variable {x dx q:Addr}{c:D × D × zo}
def DkO (O F:Hp)(x dx q:Addr)(c:D × D × zo):Prop:=∃ a b d,O x=some (.ins KK.dk dx (V8 a b q))/\O q=some (.lst d)/\At F c.1 a/\At F c.2.1 b/\AtL F c.2.2 d
structure St2 (O F:Hp) (ad dx:Nat->Addr) (c:Nat->D × D × zo) (Rs As:Nat->zo):Prop where
 inj:∀ i j,i<11->j<11->ad i=ad j->i=j
 hD:O (ad 4)=some (.lst [.ref (ad 0),.ref (ad 2)])
 hR:O (ad 7)=some (.lst [.ref (ad 5),.ref (ad 6)])
 hS:O (ad 10)=some (.lst [.ref (ad 8),.ref (ad 9)])
 dk:∀ i,i<2->DkO O F (ad (2*i)) (dx i) (ad (2*i+1)) (c i)
 rw:∀ i,i<2->∃ vs,O (ad (5+i))=some (.lst vs)/\AtL F (Rs i) vs
 an:∀ i,i<2->∃ vs,O (ad (8+i))=some (.lst vs)/\AtL F (As i) vs
variable {ad dxs:Nat->Addr}{cs:Nat->D × D × zo}{Rs As:Nat->zo}
end
end Dl
namespace Tk
open PySem Builtin Builtin.Str
def repN (x y z:Str)(n:Nat):Str:=if ((occurrences x y 0 x.length n).isEmpty||(y.length == 0&&z.length == 0))=true then x else glued z (partsBetween x (occurrences x y 0 x.length n) y.length)
def rep_len (x y z:Str)(n:Nat):(repN x y z n).length<=x.length+n*z.length:=by
 unfold repN
 split
 .omega
 .have a:=u1f x y 0 x.length n
  have b:(glued y (partsBetween x (occurrences x y 0 x.length n) y.length)).length=x.length:=by rw[StrLaws.glued_between_self]
  rw[size_glued,u1y,u0f]at b
  rw[size_glued,u1y,u0f]
  have c:(occurrences x y 0 x.length n).length*z.length<=n*z.length:=Nat.mul_le_mul_right _ a
  omega
section
variable {prog:zX}{w:World}{A:z5}{E:xa}{s:zi}{x y z:Str}{t u v k:Tok}{Q:xa}
theorem zc7 (n:Nat)(hn:n < 1000)(h0:(u == 0||v == 0)=false)(h1:(u == v)=false)(h2:(y == z)=false)(hl:tooLong (x.length+(occurrences x y 0 x.length n).length*z.length)=false) :
    Gives («str.replace» ⟨[.str x t,.str y u,.str z v,.int (n:Nat) k],[]⟩) (if ((occurrences x y 0 x.length n).isEmpty||(y.length == 0&&z.length == 0))=true then .val (.str x t) else .str (glued z (partsBetween x (occurrences x y 0 x.length n) y.length))):=by
  have hk:(decide (((n:Nat):Int) < -(2 ^ 63:Int))||decide (((n:Nat):Int) ≥ 2 ^ 63))=false:=by
    rw [u7 (by omega),u7 (by omega)]
    rfl
  have hc:=countLimit_int "str.replace" (n:Nat) k (x.length+1) hk
  rw [j6 (by omega),u04] at hc
  show Gives (countLimit "str.replace" (some (.int (n:Nat) k)) (x.length+1)>>=fun m=>if ((occurrences x y 0 x.length m).isEmpty||(y.length == 0&&z.length == 0))=true then (do rule "str.replace.nothing";ret (.str x t)) else
    (do let b←isSame (.str y u) (.str z v)
        if b=true then (do rule "str.replace.old-is-new";ret (.str x t)) else if tooLong (x.length+(occurrences x y 0 x.length m).length*z.length)=true then unsupported "str.replace:memory" else retStr (glued z (partsBetween x (occurrences x y 0 x.length m) y.length)))) _
  rw [hc]
  show Gives (if ((occurrences x y 0 x.length n).isEmpty||(y.length == 0&&z.length == 0))=true then (do rule "str.replace.nothing";ret (.str x t)) else
    (do let b←isSame (.str y u) (.str z v)
        if b=true then (do rule "str.replace.old-is-new";ret (.str x t)) else if tooLong (x.length+(occurrences x y 0 x.length n).length*z.length)=true then unsupported "str.replace:memory" else retStr (glued z (partsBetween x (occurrences x y 0 x.length n) y.length)))) _
  cases hc:((occurrences x y 0 x.length n).isEmpty||(y.length == 0&&z.length == 0))
  · rw [isSame_str_other y z u v h0 h1 h2,hl]
    exact .of_eq rfl
  · exact .rule (.of_eq rfl)
def rep_call (n:Nat)(l:n<1000)(i:u≠0)(h:v≠0)(b:u≠v)(c:(y == z)=false)(q:x.length<=100000)(f:z.length<=14)(a:∀ j m,Q (.str (repN x y z n) j) { s with toks:=m }) :
 wpAny (model prog w) A (call (.builtin "str.replace") [.str x t,.str y u,.str z v,.int (n:Nat) k]) Q E s:=by
 have g:=u1f x y 0 x.length n
 have r:(occurrences x y 0 x.length n).length*z.length<=n*14:=Nat.mul_le_mul g f
 have o:tooLong (x.length+(occurrences x y 0 x.length n).length*z.length)=false:=by
  unfold tooLong
  rw[u0E]
  exact u7 (by omega)
 refine call_gives F.slot_str_replace (u0q _ _ _) F.entry_str_replace (F.args_str_replace_4 _ _ _ _) (zc7 n l (by simp[i,h]) (by simp[b]) c o) ?_
 have e:=rep_len x y z n
 have p:n*z.length<=n*14:=Nat.mul_le_mul_left _ f
 unfold repN at a e
 split
 .rename_i d
  rw[j0 d]at a
  exact a t s.toks
 .rename_i d
  rw[j6 d]at a e
  exact⟨by rw[u0E];omega,a _ _⟩
end
end Tk
namespace L2
open PySem PySem.Spec PyProof.Rows
def tkp {α:Type}{t:Sem α}{Q:α->Shared->Prop}{s:zi}(b:0<s.toks)(h:wpAny M A t Q E s):wpAny M A t (λv a=>Q v a/\0<a.toks) E s:=Y0 b (n8 h (λ_ _ z k=>⟨z,k⟩) λ_ _ z _=>z)
def PET (X:Cx)(e:Expr)(t:TE):Prop:=∀ (a:xo) (s:zi) (σ:St) (H:Hp) (Q:VK),Inv X a σ H s->0<s.toks->t σ H Q->wpAny (model X.prog X.w) X.A (eval e X.env) (EP X a σ Q) X.xe s
def PAT (X:Cx)(c:yK)(t:TA):Prop:=∀ (b:Pos) (a:xo) (s:zi) (σ:St) (H:Hp) (Q:zz->Hp->Prop),Inv X a σ H s->0<s.toks->t σ H Q->wpAny (model X.prog X.w) X.A (spliced (backTo b (starEach c X.env))) (AP X a σ Q) X.xe s
def PST (X:Cx)(b:Stmt)(t:TS):Prop:=∀ (a:xo) (s:zi) (σ:St) (H:Hp) (D:WO),Inv X a σ H s->0<s.toks->t D σ H->wpAny (model X.prog X.w) X.A (exec b X.env) (SP X a D) X.xe s
def ziA (X:Cx)(b:v3)(t:TS):Prop:=∀ (a:xo) (s:zi) (σ:St) (H:Hp) (D:WO),Inv X a σ H s->0<s.toks->t D σ H->wpAny (model X.prog X.w) X.A (execs b X.env) (SP X a D) X.xe s
def PEP (X:Cx)(e:Expr)(t:TE):Prop:=∀ (a:xo) (s:zi) (σ:St) (H:Hp) (Q:VK),Inv X a σ H s->t σ H Q->wpAny (model X.prog X.w) X.A (eval e X.env) (λu b=>EP X a σ Q u b/\0<b.toks) X.xe s
section
variable {X:Cx}{a b e o:Expr}{es:yK}{te ta tb to:TE}{t:TA}{st:Stmt}{sts:v3}{g u:TS}{pos:Pos}
def PE.tk (h:PE X e te):PET X e te:=λa s σ H Q I _ q=>h a s σ H Q I q
def PS.tk (h:PS X st g):PST X st g:=λa s σ H D I _ q=>h a s σ H D I q
def ze8 (m:PET X e te)(n:PAT X es t)(f:starEach (e::es) X.env=(false,eval e X.env)::starEach es X.env:=by rfl):PAT X (e::es) (ZN te t):=by
 intro p a s σ H Q I c h
 rw[f]
 refine i5 (thn (tkp c (m a s σ H _ I c h)) λv i l=>?_)
 obtain⟨⟨x,H1,I1,d,j⟩,b⟩:=l
 refine thn (n p a i σ H1 _ I1 b j) λu r k=>?_
 obtain⟨o,H2,I2,q,g⟩:=k
 exact⟨x::o,H2,I2,.cons d q,g⟩
def zf0 (h:PAT X es t):PET X (.List es pos) (zjE t):=by
 intro a s σ H Q I f g
 refine wpAny_List_spliced (thn (h pos a s σ H _ I f g) λi c d=>?_)
 obtain⟨j,H1,I1,r,z,q⟩:=d
 refine⟨by rw[<-r.length];exact z,?_⟩
 refine⟨.ref c.heap.objs.size,upd H1 c.heap.objs.size (.lst j),?_,rfl,q _ (I1.hok.fresh (t7 _))⟩
 exact I1.laid (t':=c.toks) (λb u e=>u6 _ e) (t7 _) ⟨z,i,0,r,j4 _ rfl⟩
def ziD {e:Operator}(j:OpR X (binaryOp e) r)(q:PE X a ta)(g:PET X b tb):PET X (.BinOp a e b pos) (tOp r ta tb):=by
 intro c s σ H Q I n h
 refine wpAny_BinOp (thn (tkp n (q c s σ H _ I h)) λv k p=>?_)
 obtain⟨⟨x,H1,I1,f,l⟩,d⟩:=p
 refine thn (g c k σ H1 _ I1 d l) λw m o=>?_
 obtain⟨y,H2,I2,t,i⟩:=o
 exact j c m σ H2 x y v w Q I2 f t i
def zgD {i:Nat}{a:Pos}(g:X.N.Nodup)(m:X.N[i]?=some x)(k:Loc X.env.scope x)(o:PET X e te)(d:swapsWith e (some (.Name x a)) pos.line X.env=pure false:=by rfl)(n:X.fn x=true\/X.env.scope.names.lookup x=some .local:=by first | exact .inl rfl | exact .inr rfl | assumption) :
 PST X (.Assign [.Name x a] e pos) (zgr te (vN i)):=by
 intro b s σ H D I l h
 refine u1Y (thn (o b s σ H _ I l h) λv p c=>?_) d
 obtain⟨y,H1,I1,f,j⟩:=c
 exact Y2 I1 g m k f (λq I2=>⟨_,H1,I2,j⟩) n
def zgm (h:PSs X sts u):ziA X sts u:=λa s σ H D I _ q=>h a s σ H D I q
def zcy (e:PST X st g)(j:ziA X sts u):ziA X (st::sts) (zhy g u):=by
 intro a s σ H D I d h
 refine u1j (thn (tkp d (e a s σ H { D with nx:=u D } I d h)) λf i b=>?_)
 obtain⟨b,c⟩:=b
 cases f with
 | next=>obtain⟨k,H',I',q⟩:=b;exact j a i k H' D I' c q
 | brk=>exact b
 | cont=>exact b
 | ret w=>exact b
def zb6 {i:Nat}{b:Pos}(m:X.N.Nodup)(g:X.N[i]?=some x)(f:Loc X.env.scope x)(j:PEP X e te)(q:ziA X sts u)(l:swapsWith e (some (.Name x b)) pos.line X.env=pure false:=by rfl)(t:X.fn x=true\/X.env.scope.names.lookup x=some .local:=by first | exact .inl rfl | exact .inr rfl | assumption) :
 PSs X (.Assign [.Name x b] e pos::sts) (zhy (zgr te (vN i)) u):=by
 intro a s σ H D I h
 refine u1j (u1Y (thn (j a s σ H _ I h) λv w k=>?_) l)
 obtain⟨⟨y,H1,I1,d,n⟩,p⟩:=k
 refine n8 (Y0 p (Q:=λ_ r=>wpAny (model X.prog X.w) X.A (execs sts X.env) (SP X a D) X.xe r) (Y2 I1 m g f d (λo I2 c=>q a o _ H1 D I2 c n) t)) (λ_ _ z=>z) λ_ _ z=>z
def zeq {f:Addr} {g:Sp} (F:zbj X.prog X.w X.K X.mg X.base CX k f i d g) (u:wF k X.A) (w:Gl X x) (v:X.mg x=some (.ref f)) (y:W.keepIn X.K (.ref f)=true) (l:YB X.K i d []) (m:Ys CX X E) (o:PA X (e::es) t) (b:(x == ("__debug__":Str))=false:=by decide) (n:starEach (e::es) X.env=(false,eval e X.env)::starEach es X.env:=by rfl) (c:(backTo pos (starEach es X.env)).any (·.1)=false:=by rfl):PEP X (.Call (.Name x p) (e::es) [] pos) (ze4 g [] E t):=by
 intro a s σ H Q I h
 refine u0j (Zf I w v ?_ b)
 refine u1J (h₀:=X.base) I.ok.mod.kin y (thn (o pos a s σ H _ I h) λA z j=>?_) n c
 obtain⟨B,H1,I1,r,q⟩:=j
 exact⟨I1.kIn,ze6 F u l m I1 r (by rw[n0]at q;exact q)⟩
def zhO {f:Operator}(k:OpR X (binaryOp f) r)(q:PEP X a ta)(i:PE X b tb):PEP X (.BinOp a f b pos) (tOp r ta tb):=by
 intro c s σ H Q I h
 refine wpAny_BinOp (thn (q c s σ H _ I h) λv l p=>?_)
 obtain⟨⟨x,H1,I1,g,m⟩,e⟩:=p
 refine thn (tkp e (i c l σ H1 _ I1 m)) λw n o=>?_
 obtain⟨⟨y,H2,I2,t,j⟩,d⟩:=o
 exact tkp d (k c n σ H2 x y v w Q I2 g t j)
def rSlS:V->yu->yu->Hp->VK->Prop:=λx c b H Q=>∃ a,x=.str a/\a.length<=100000/\Q (.str (Txt.slice a c b)) H
def zi4:SlR X rSlS:=by
 intro c s σ H x v t p g j z Q I n d i o h
 obtain⟨a,rfl,w,q⟩:=h
 obtain⟨r,rfl⟩:=n
 have fin:∀ (y:Str) b m,y=Txt.slice a g j->EP X c σ Q (.str y b) { s with toks:=m }:=λy b m e=>⟨.str _,H,I.tok _,⟨_,rfl⟩,by rw[e];exact q⟩
 have f:∀ l u,(Txt.slice a l u).length<=sizeLine:=λl u=>by
  have:=Txt.slice_le a l u
  rw[u0E]
  omega
 cases i <;> cases o
 .exact⟨"str",_,u0o.lookup,u0q _ _ _,u0x (l:=none) (u:=none) (st:=none) d rfl (u1z ⟨f _ _,λb k=>fin _ b k rfl⟩)⟩
 .exact⟨"str",_,u0o.lookup,u0q _ _ _,u0x (l:=none) (u:=some (_,_)) (st:=none) d rfl (u1z ⟨f _ _,λb k=>fin _ b k rfl⟩)⟩
 .exact⟨"str",_,u0o.lookup,u0q _ _ _,u0x (l:=some (_,_)) (u:=none) (st:=none) d rfl (u1z ⟨f _ _,λb k=>fin _ b k rfl⟩)⟩
 .exact⟨"str",_,u0o.lookup,u0q _ _ _,u0x (l:=some (_,_)) (u:=some (_,_)) (st:=none) d rfl (u1z ⟨f _ _,λb k=>fin _ b k rfl⟩)⟩
def ziz (f:Str->Str)(to:TE):TE:=fun σ H Q=>to σ H λv H1=>∃ x,v=.str x/\x.length<=100000/\Q (.str (f x)) H1
def ZV {z:Str} {n g:Pos} {f:Nat} (r:PE X o to) (m:(y == z)=false) (w:z.length<=14) (b:attributeBase o "replace" X.env (eval o X.env)=eval o X.env:=by rfl) (d:((backTo pos (starEach [.Constant (.str y) i j,.Constant (.str z) f g] X.env)).all (λx=>!x.1)&&(backToKw pos (keywordEach [] X.env)).all (λx=>x.1.isSome)
 && decide (([.Constant (.str y) i j,.Constant (.str z) f g]:yK).length+([]:List Keyword).length+(if ([]:List Keyword).isEmpty then 0 else 1)<30))=true:=by rfl) (c:(n.endLine == pos.line)=true:=by rfl):PET X (.Call (.Attribute o "replace" n) [.Constant (.str y) i j,.Constant (.str z) f g] [] pos) (ziz (λx=>Txt.replace x y z) to):=by
 intro e s σ H Q I l h
 refine u03 b d c rfl (thn (tkp l (r e s σ H _ I h)) λv C q=>?_)
 obtain⟨⟨A,H2,I2,p,a,rfl,E,u⟩,l⟩:=q
 obtain⟨B,rfl⟩:=p
 refine⟨"str","str.replace",k8,u1V,u1W,u0q _ _ _,(λ_ z=>by cases z),?_⟩
 refine u0Z rfl (u1k (i5 (u0V (k:=i) (pos:=j) (i5 (u0V (k:=f) (pos:=g) (u1R ?_))))))
 refine SC.replaceW (u0h l) (Nat.succ_ne_zero _) (j5 (u1i _)) m (by omega) w λt D=>?_
 exact⟨.str _,H2,I2.tok _,⟨_,rfl⟩,u⟩
def zdD {z:Str} {n:Nat} {r g:Pos} {f:Nat} (A:PE X o to) (q:(y == z)=false) (B:z.length<=14) (w:n<1000) (b:attributeBase o "replace" X.env (eval o X.env)=eval o X.env:=by rfl) (d:((backTo pos (starEach [.Constant (.str y) i l,.Constant (.str z) f g,.Constant (.int (n:Nat)) m j] X.env)).all (λx=>!x.1)&&(backToKw pos (keywordEach [] X.env)).all (λx=>x.1.isSome)
 && decide (([.Constant (.str y) i l,.Constant (.str z) f g,.Constant (.int (n:Nat)) m j]:yK).length+([]:List Keyword).length+(if ([]:List Keyword).isEmpty then 0 else 1)<30))=true:=by rfl) (c:(r.endLine == pos.line)=true:=by rfl):PET X (.Call (.Attribute o "replace" r) [.Constant (.str y) i l,.Constant (.str z) f g,.Constant (.int (n:Nat)) m j] [] pos) (ziz (λx=>Tk.repN x y z n) to):=by
 intro e s σ H Q I p h
 refine u03 b d c rfl (thn (tkp p (A e s σ H _ I h)) λv J u=>?_)
 obtain⟨⟨F,H2,I2,t,a,rfl,E,D⟩,p⟩:=u
 obtain⟨G,rfl⟩:=t
 refine⟨"str","str.replace",k8,u1V,u1W,u0q _ _ _,(λ_ z=>by cases z),?_⟩
 refine u0Z rfl (u1k (i5 (u0V (k:=i) (pos:=l) (i5 (u0V (k:=f) (pos:=g) (i5 (wpAny_Constant_int (k:=m) (pos:=j) (u1R ?_))))))))
 refine Tk.rep_call n w (u0h p) (Nat.succ_ne_zero _) (j5 (u1i _)) q E B λC K=>?_
 exact⟨.str _,H2,I2.tok _,⟨_,rfl⟩,D⟩
end
end L2
namespace Dl
open PySem L2
section
variable [KK]{X:Cx}{a b e o:Expr}{es:yK}{pos:Pos}{st:Stmt}{sts:v3}{g h:zU}{f k:ya}{fa:yT}
def EDT (X:Cx)(e:Expr)(f:ya):Prop:=∃ t,PET X e t/\RE t f
def ADT (X:Cx)(es:yK)(f:yT):Prop:=∃ t,PAT X es t/\RA t f
def SDK (X:Cx)(st:Stmt)(g:zU):Prop:=∃ t,PST X st t/\RS t g
def zjy (X:Cx)(sts:v3)(g:zU):Prop:=∃ t,ziA X sts t/\RS t g
def edT (h:ED X e f):EDT X e f:=by
 obtain⟨t,p,r⟩:=h
 exact⟨t,p.tk,r⟩
def sdT (h:SD X st g):SDK X st g:=by
 obtain⟨t,p,r⟩:=h
 exact⟨t,p.tk,r⟩
def sdsT (h:SDs X sts g):zjy X sts g:=by
 obtain⟨t,p,r⟩:=h
 exact⟨t,zgm p,r⟩
def zcA:ADT X [] zh:=by
 obtain⟨t,p,r⟩:AD X [] zh:=ze
 exact⟨t,λq a s σ H Q I _ z=>p q a s σ H Q I z,r⟩
def Xt (g:Str->Str)(f:ya):ya:=fun ρ=>(f ρ).bind λd=>match d with
 | .str x=>if x.length<=100000 then some (.str (g x))else none
 | _=>none
def zfv {g:Str->Str}{b:TE}(r:RE b f):RE (ziz g b) (Xt g f):=by
 intro σ ρ F H d Q s h e q
 obtain⟨j,i,a⟩:=u4.mp e
 cases j with
 | str x =>
  dsimp only at a
  split at a <;> cases a
  rename_i l
  exact r σ ρ F H (.str x) _ s h i λF' H' v k c=>⟨x,c.str_inv,l,q F' H' _ k .str⟩
 | _=>cases a
def Z4 {b e:Pos} {g a:Nat} (h:ED X o f) (hp:∀ {d:TE},PE X o d->PET X (.Call (.Attribute o "replace" b) [.Constant (.str y) g e,.Constant (.str z) a c] [] pos) (ziz (λx=>Txt.replace x y z) d)):EDT X (.Call (.Attribute o "replace" b) [.Constant (.str y) g e,.Constant (.str z) a c] [] pos) (Xt (λx=>Txt.replace x y z) f):=by
 obtain⟨t,p,r⟩:=h
 exact⟨_,hp p,zfv r⟩
def zdp {n:Nat} {i:Int} {h b:Pos} {e a g:Nat} (l:i=(n:Nat)) (k:ED X o f) (hp:∀ {c:TE},PE X o c->PET X (.Call (.Attribute o "replace" h) [.Constant (.str y) e d,.Constant (.str z) a b,.Constant (.int (n:Nat)) g j] [] pos) (ziz (λx=>Tk.repN x y z n) c)) :
 EDT X (.Call (.Attribute o "replace" h) [.Constant (.str y) e d,.Constant (.str z) a b,.Constant (.int i) g j] [] pos) (Xt (λx=>Tk.repN x y z n) f):=by
 subst l
 obtain⟨t,p,r⟩:=k
 exact⟨_,hp p,zfv r⟩
def xq {fa:yT}(h:EDT X e f)(n:ADT X es fa)(k:starEach (e::es) X.env=(false,eval e X.env)::starEach es X.env:=by rfl):ADT X (e::es) (za f fa):=by
 obtain⟨r,j,c⟩:=h
 obtain⟨t,o,m⟩:=n
 refine⟨_,ze8 j o k,fun σ ρ F H z Q s b e q=>?_⟩
 obtain⟨x,g,e⟩:=u4.mp e
 obtain⟨d,i,rfl⟩:=t0.mp e
 refine c σ ρ F H x _ s b g λF1 H1 v a l=>?_
 exact m σ ρ F1 H1 d _ a.fh (b.mono a.ff) i λF2 H2 w g2 p=>q F2 H2 _ (a.trans g2) (.cons (l.mono g2.ff) p)
def zdJ (h:ADT X es fa):EDT X (.List es pos) (yy (zW fa)):=by
 obtain⟨n,m,d⟩:=h
 refine⟨_,zf0 m,fun σ ρ F H z Q s g e q=>?_⟩
 obtain⟨o,j,rfl⟩:=t0.mp e
 obtain⟨f,k,a⟩:=u4.mp j
 split at a <;> cases a
 rename_i l
 refine d σ ρ F H _ _ s g k λF1 H1 i c b=>⟨by rw[b.length];exact t6 l,λp hp=>?_⟩
 have g2:=Gr.alloc c.fh hp (.lst i)
 exact q _ _ _ (c.trans g2) (.lst zx (b.mono g2.ff))
def zgB (h:ED X a f)(d:EDT X b k):EDT X (.BinOp a .Add b pos) (zd WL f k):=by
 obtain⟨_,g,i⟩:=h
 obtain⟨_,c,e⟩:=d
 exact⟨_,ziD WT g c,zap za5 i e⟩
def zdz {i:Nat}{a:Pos}(o:X.N.Nodup)(j:X.N[i]?=some x)(c:Loc X.env.scope x)(l:EDT X e f)(n:swapsWith e (some (.Name x a)) pos.line X.env=pure false:=by rfl)(s:X.fn x=true\/X.env.scope.names.lookup x=some .local:=by first | exact .inl rfl | exact .inr rfl | assumption):SDK X (.Assign [.Name x a] e pos) (yf m i f):=by
 obtain⟨t,p,r⟩:=l
 refine⟨_,zgD o j c p n s,λFb Hb F H ρ σ E b k=>?_⟩
 unfold yf at k
 cases h:vEv m f ρ with
 | none=>rw[h]at k;exact k.elim
 | some d =>
  rw[h]at k
  exact r.at b h λF' H' v g q=>k F' H' _ ((b.grow g).set q)
def zfm (r:RS t g)(i:RS u h):RS (zhy t u) (zS g h):=by
 intro Fb Hb F H ρ σ E f k
 refine r Fb Hb F H ρ σ { E with nx:=u E } f ?_
 unfold zS at k
 cases e:g ρ with
 | nx b =>
  rw[e]at k
  exact λF' H' c a=>i Fb Hb F' H' b c E a k
 | rt d=>rw[e]at k;exact k
 | bk d=>rw[e]at k;exact k
 | ct d=>rw[e]at k;exact k
 | no=>rw[e]at k;exact k.elim
def v9 (a:SDK X st g)(d:zjy X sts h):zjy X (st::sts) (zS g h):=by
 obtain⟨t,p,r⟩:=a
 obtain⟨u,c,b⟩:=d
 exact⟨_,zcy p c,zfm r b⟩
def EDP (X:Cx)(e:Expr)(f:ya):Prop:=∃ t,PEP X e t/\RE t f
def zez {k:Nat} {f:Addr} {h:vy} (F:zbj X.prog X.w X.K X.mg X.base CX0 k f h j (spD m p)) (I:wF k X.A) (K:Gl X x) (J:X.mg x=some (.ref f)) (o:W.keepIn X.K (.ref f)=true) (w:YB X.K h j []) (n:AD X (e::es) fa) (c:(x == ("__debug__":Str))=false:=by decide) (z:starEach (e::es) X.env=(false,eval e X.env)::starEach es X.env:=by rfl) (b:(backTo pos (starEach es X.env)).any (·.1)=false:=by rfl):EDP X (.Call (.Name x A) (e::es) [] pos) (zq m p fa):=by
 obtain⟨t,u,r⟩:=n
 refine⟨_,zeq (E:=λ_ _ _=>False) F I K J o w zjl u c z b,fun σ ρ F0 H d Q s C e q=>?_⟩
 obtain⟨i,y,a⟩:=u4.mp e
 split at a <;> try cases a
 rename_i L
 refine r σ ρ F0 H i _ s C y λF1 H1 M l G=>?_
 exact⟨i,d,F1,L,l.fh,by rw[n0];exact G,a,λF' H' v g B=>q F' H' v (l.trans g) B⟩
def zgs (e:EDP X a f)(c:ED X b k):EDP X (.BinOp a .Mod b pos) (zd y0 f k):=by
 obtain⟨_,j,g⟩:=e
 obtain⟨_,i,d⟩:=c
 exact⟨_,zhO zfp j i,zap (YU λ_ _ h=>t6 h) g d⟩
def zco {i:Nat}{a:Pos}(q:X.N.Nodup)(j:X.N[i]?=some x)(c:Loc X.env.scope x)(l:EDP X e f)(w:zjy X sts h)(o:swapsWith e (some (.Name x a)) pos.line X.env=pure false:=by rfl)(z:X.fn x=true\/X.env.scope.names.lookup x=some .local:=by first | exact .inl rfl | exact .inr rfl | assumption):SDs X (.Assign [.Name x a] e pos::sts) (zS (yf m i f) h):=by
 obtain⟨t,p,r⟩:=l
 obtain⟨u,y,n⟩:=w
 refine⟨_,zb6 q j c p y o z,zfm (λFb Hb F H ρ σ E b k=>?_) n⟩
 unfold yf at k
 cases h:vEv m f ρ with
 | none=>rw[h]at k;exact k.elim
 | some d =>
  rw[h]at k
  exact r.at b h λF' H' v g s=>k F' H' _ ((b.grow g).set s)
def zem {w:World}{b:Heap}{f:Addr}{k:Nat}{p q:vp}(F:zbj P w K i b CX0 k f l j (spD m p))(h:∀ e d,e.length=m->q e=some d->p e=some d):zbj P w K i b CX0 k f l j (spD m q):=by
 have c:∀ a H Q E,spD m q a H Q E->spD m p a H Q E:=λa H Q E ⟨e,d,F',g,v,u,y,z⟩=>⟨e,d,F',g,v,u,h e d g y,z⟩
 exact⟨λa H Q E s=>F.len a H Q E (c a H Q E s),λA outer s H args x a Q E B n t o r=>F.run A outer s H args x a Q E B n t o (c a H Q E r)⟩
def v0:xC
 | .str i,.str j=>some (.bl (!(!(Builtin.Str.occurrences j i 0 j.length 1).isEmpty)))
 | _,_=>none
def zbA:OpD (λx y H Q=>∃ i j,x=.str i/\y=.str j/\Q (.bl (!(!(Builtin.Str.occurrences j i 0 j.length 1).isEmpty))) H) v0:=by
 intro F H x y d e z Q s c b a q
 unfold v0 at a
 split at a <;> cases a
 exact⟨_,_,c.str_inv,b.str_inv,q F H _ (.refl s) .bl⟩
def zhx:D->yu->yu->Option D
 | .str a,lo,hi=>if a.length<=100000 then some (.str (Txt.slice a lo hi))else none
 | _,_,_=>none
def ziS {h:Option Expr}(p:ED X a f)(I:OD X i l)(j:OD X h u):ED X (.Subscript a (.Slice i h none C) pos) (eSl zhx f l u):=by
 obtain⟨J,t,k⟩:=p
 obtain⟨L,m,D⟩:=I
 obtain⟨K,G,E⟩:=j
 refine⟨_,zax zi4 t m G,fun σ ρ F H z Q s g e q=>?_⟩
 obtain⟨d,o,e⟩:=u4.mp e
 obtain⟨x,r,e⟩:=u4.mp e
 obtain⟨y,A,b⟩:=u4.mp e
 cases d with
 | str w =>
  dsimp only[zhx]at b
  by_cases hw:w.length<=100000
  case neg=>rw[j6 hw]at b;cases b
  rw[j0 hw]at b
  cases b
  refine k σ ρ F H _ _ s g o λF1 H1 v c B=>?_
  refine D σ ρ F1 H1 _ _ c.fh (g.mono c.ff) r λF2 H2 g2=>?_
  refine E σ ρ F2 H2 _ _ g2.fh ((g.mono c.ff).mono g2.ff) A λF3 H3 n=>?_
  exact⟨w,B.str_inv,hw,q F3 H3 _ ((c.trans g2).trans n) .str⟩
 | _=>cases b
end
structure Row where
 x:Str
 ps:zr
 ex:zr
 st:Stmt
abbrev Row.N (r:Row):zr:=r.ps++r.ex
def Row.scB (r:Row):Bool:=decide ((zw r.st).kind=.function/\(zw r.st).isCoroutine=false/\(zw r.st).isGenerator=false/\r.N.Nodup/\(∀ x∈r.ps,(zw r.st).names.lookup x=some .local\/(zw r.st).names.lookup x=some .cell)/\∀ y∈(zw r.st).names,y.2≠.free)
def Row.sc {r:Row}(h:r.scB=true):we r.N r.ps (zw r.st):=by
 obtain⟨a,b,c,d,e,f⟩:=t6 h
 exact⟨a,b,c,d,List.take_left' rfl,e,f⟩
def za1 {α:Type}{p:α->Prop}{l:List α}{d:α}(h:∀ x∈l,p x)(a:p d)(i:Nat):p (l.getD i d):=by
 rw[List.getD_eq_getElem?_getD]
 cases e:l[i]? with
 | none=>exact a
 | some y=>exact h y (o7 e)
def Dx (K:zu)(b:wH)(d:XG)(r:Row):Prop:=∃ f a,Def K b r.x r.st r.ps f a/\∀ c,d.lookup r.x=some c->a.code=.ref c
structure KR (b:Bool):Prop where
 h:b=true
structure UR {α:Type} (a b:α):Prop where
 h:a=b
def nd_b {l:zr}(h:decide l.Nodup=true):l.Nodup:=t6 h
section
variable [KK]{X:Cx}{x:Str}{elt iter c:Expr}{tp:Pos}{scope:Scope}{cl:XG}{pos:Pos}{fi:yT}{ft:vO}{fe:ya}{rn dn:List (Str × NameKind)}{cn N:zr}
def zjU (j:KR (decide (x::X.N).Nodup))(e:X.calm=true)(c:ID X (.Name x tp) iter fi)(f:(relabel scope X.env).names=rn)(l:X.env.scope.names=dn)(h:X.N=N)(n:UR (closureFor scope X.env) (pure cl))(o:scope.kind=.function)(k:cl.map Prod.fst=cn)(b:KR (Zu scope.names rn dn N X.N cn))(m:∀ p∈cl,X.env.cells.lookup p.1=some p.2)
 (a:∀ s₀ H₀ ex pn,Loc (X3 X [x] X.N scope cl s₀ H₀ ex pn).env.scope x/\(X3 X [x] X.N scope cl s₀ H₀ ex pn).env.scope.names.lookup x=some .local) (d:∀ s₀ H₀ ex pn,ED (X3 X [x] X.N scope cl s₀ H₀ ex pn) elt fe)
 (g:∀ x,foldedSetIterable iter X.env x=pure x):FL X (.ListComp elt [⟨.Name x tp,iter,[],0⟩] scope pos) (fLC fi b1 yj fe) :=
 zdC (L:=[x]) (M:=X.N) e (XN f l h n.h o k b.h m) c gs1 rb1 (λ_ _ _ _=>yx (i:=0) (nd_b j.h) rfl (a _ _ _ _).1 (.inr (a _ _ _ _).2)) d g
end
def td_b [KK]{f:vO}(h:WD X (.BoolOp op es pos) f):TD X (.BoolOp op es pos) f:=zbg h
def zeT [KK] {X:Cx} {w:World} {f:Addr} (F:vP P w K mg base CX0 j f fd ps (spD m p)) (hr:wF k X.A) (hj:j<=k) (d:Def K mg x st ps f fd) (hX:X.prog=P/\X.w=w/\X.K=K/\X.mg=mg/\X.base=base) (hg:Gl X x) (ha:AD X (e::es) fa) (hdb:(x == ("__debug__":Str))=false) (he:starEach (e::es) X.env=(false,eval e X.env)::starEach es X.env) (hpl:(backTo pos (starEach es X.env)).any (·.1)=false) :
 ED X (.Call (.Name x pp) (e::es) [] pos) (zq m p fa):=by
 obtain⟨rfl,rfl,rfl,rfl,rfl⟩:=hX
 exact zt F hr hg d ha hj hdb he hpl
def Dx_cons (h:Dx K a b r)(t:∀ r∈c,Dx K a b r):∀ d∈r::c,Dx K a b d:=List.forall_mem_cons.mpr ⟨h,t⟩
def Z_cons (h:W.nsIn K mainGlobals x=some none)(t:∀ y∈l,W.nsIn K mainGlobals y=some none):∀ y∈x::l,W.nsIn K mainGlobals y=some none:=List.forall_mem_cons.mpr ⟨h,t⟩
def mkX {K:zu}{h:Heap}{g:XG}{q ex:zr}{f:Addr}{kV:Value}{w:Array (Option Value)}(X:K.In h)(G:h.Ns mainGlobals s)(a:W.nsIn K mainGlobals x=some (some (.ref f)))(l:K.lookup f=some ⟨v,y,.func (W.fnOf x x (vj d) (xb d) (zw d) .none kV t j i m ct),w⟩)(c:W.codeIn K m x=true)(k:W.keepIn K (.ref f)=true)(b:∀ (kV o j:Value) (i:xT) (n ct:Value) (p:zH),p.length=q.length->bindArgs (W.fnOf x x (vj d) (xb d) (zw d) .none kV o j i n ct) ⟨p,[]⟩=pure (q.zip p))(e:g.lookup x=none\/∃ c,g.lookup x=some c/\m=.ref c):Dx K s g ⟨x,q,ex,d⟩ :=
 ⟨f,W.fnOf x x (vj d) (xb d) (zw d) .none kV t j i m ct,⟨zdL l c k,(zdL l c k).binds b,o8 X G a⟩,λc h=>by
  rcases e with e | ⟨u,e,r⟩
  .rw[show g.lookup x=none from e]at h;cases h
  .rw[show g.lookup x=some u from e]at h;cases h;exact r⟩
def zdv {f:Addr}{g:vy}(F:Fun K x q c f g)(h:∀ (kV b e:Value) (d:xT) (a ct:Value),bindArgs (W.fnOf x q (vj c) (xb c) (zw c) .none kV b e d a ct) ⟨[v],[]⟩=pure [(y,v)]):BindsTo s g ⟨[v],[]⟩ [(y,v)]:=by
 obtain⟨j,k,kV,b,e,d,a,ct,i,rfl,_,_⟩:=F.ex
 exact .of_eq (h _ _ _ _ _ _)
end Dl
namespace Mz
open PySem L2 Dl
def top (i:Nat):Stmt:=PySem.Challenge.pw_twoforone_k91_read_or_refused.main.body.getD i (.Pass ⟨0,0,0,0⟩)
def rows:List Row:=[⟨"is_whole",["thing"],[],top 18⟩,
 ⟨"is_whole_within",["thing","least","most"],[],top 19⟩,
 ⟨"is_place_count",["thing"],[],top 20⟩,
 ⟨"is_place",["many","thing"],[],top 21⟩,
 ⟨"are_counts",["many","thing"],[],top 22⟩,
 ⟨"is_pair",["many","thing"],[],top 24⟩,
 ⟨"are_ties",["many","thing"],["at","tie"],top 25⟩,
 ⟨"is_web",["thing"],[],top 26⟩,
 ⟨"are_stones",["web","thing"],[],top 28⟩,
 ⟨"number_written",["word"],[],top 31⟩,
 ⟨"numbers_behind",["word","row"],["words","numbers"],top 32⟩,
 ⟨"many_read",["row"],["numbers"],top 33⟩,
 ⟨"read",["text"],["rows","web","number","row","heap"],top 34⟩,
 ⟨"_law_stir",["cell","k"],["number"],top 36⟩,
 ⟨"_law_kinds",["e"],["found"],top 37⟩,
 ⟨"_law_pairs",["many"],["found","a"],top 38⟩,
 ⟨"_law_web_by",["many","cell"],["ties","k","tie"],top 39⟩,
 ⟨"_law_heap_by",["many","cell","most"],["left","heap","digits","k","stones"],top 40⟩,
 ⟨"_law_text",["web","heap","between"],["rows","a","b"],top 41⟩,
 ⟨"_law_same",["found","due"],["one","other"],top 42⟩,
 ⟨"_law_numbers",["row"],["found","word"],top 43⟩,
 ⟨"_law_told",["rows"],["head","ties","k","row","numbers"],top 44⟩,
 ⟨"_law_otherwise",["rows","cell"],["at","back","row","more","kind","kept","behind"],top 45⟩,
 ⟨"_law_read",["text"],["e","found"],top 46⟩,
 ⟨"law",["script"],["cell","many","web","heap","rows","turn","other"],top 47⟩]
def Rw (i:Nat):Row:=rows.getD i ⟨"law",["script"],["cell","many","web","heap","rows","turn","other"],top 47⟩
def sc (i:Nat):we (Rw i).N (Rw i).ps (zw (Rw i).st):=Row.sc (za1 (p:=λr:Row=>r.scB=true) (by decide +kernel) (by decide +kernel) i)
abbrev ve:Stmt:=zjk (top 13) 0
def zbu:we ["self","row"] ["self","row"] (zw ve):=⟨rfl,rfl,rfl,by decide +kernel,rfl,by decide +kernel,by decide +kernel⟩
structure Adr where
 f:Nat->Addr
 e:Nat->FuncData
 dk:Addr
 t_MOST_PLACES:Tok
 t_MOST_STONES:Tok
 t_MOST_FIGURES:Tok
 x_NoWeb:Addr
 x_NoKind:Addr
 x_NoHeap:Addr
 x_NoPlace:Addr
 x_NoNumber:Addr
 x_NoTally:Addr
 x_NotTree:Addr
 x_NotJoined:Addr
 x_NoWeights:Addr
 x_NoRow:Addr
 x_NoSteps:Addr
 x_NoText:Addr
 x_TooGreat:Addr
 x_StoneError:Addr
 i_NoText:Addr
 j_NoText:FuncData
def zjr (a:Adr):xw:=[a.x_NoWeb,a.x_NoKind,a.x_NoHeap,a.x_NoPlace,a.x_NoNumber,a.x_NoTally,a.x_NotTree,a.x_NotJoined,a.x_NoWeights,a.x_NoRow,a.x_NoSteps,a.x_NoText,a.x_TooGreat]
def clT (a:Adr)(j:Nat):Addr:=(zjr a).getD (j%16) 0
def zdV (a:Adr)(j:Nat):clT a j=clT a (j%16):=by unfold clT;rw[Nat.mod_mod]
def zs:zr:=["ValueError","all","bool","enumerate","int","isinstance","len","list","min","range","str","sum","tuple","zip"]
structure Txt (P:zX) (w:World) (K:zu) (mg:wH) (base:Heap) (ad:Adr):Prop where
 d:∀ i,Def K mg (Rw i).x (Rw i).st (Rw i).ps (ad.f i) (ad.e i)
 z:∀ x∈zs,mg x=none
 g_MOST_PLACES:mg "MOST_PLACES"=some (Value.int 8 ad.t_MOST_PLACES)
 g_MOST_STONES:mg "MOST_STONES"=some (Value.int 300 ad.t_MOST_STONES)
 g_MOST_FIGURES:mg "MOST_FIGURES"=some (Value.int 3 ad.t_MOST_FIGURES)
 g_NoWeb:mg "NoWeb"=some (Value.ref ad.x_NoWeb)
 g_NoKind:mg "NoKind"=some (Value.ref ad.x_NoKind)
 g_NoHeap:mg "NoHeap"=some (Value.ref ad.x_NoHeap)
 g_NoPlace:mg "NoPlace"=some (Value.ref ad.x_NoPlace)
 g_NoNumber:mg "NoNumber"=some (Value.ref ad.x_NoNumber)
 g_NoTally:mg "NoTally"=some (Value.ref ad.x_NoTally)
 g_NotTree:mg "NotTree"=some (Value.ref ad.x_NotTree)
 g_NotJoined:mg "NotJoined"=some (Value.ref ad.x_NotJoined)
 g_NoWeights:mg "NoWeights"=some (Value.ref ad.x_NoWeights)
 g_NoRow:mg "NoRow"=some (Value.ref ad.x_NoRow)
 g_NoSteps:mg "NoSteps"=some (Value.ref ad.x_NoSteps)
 g_NoText:mg "NoText"=some (Value.ref ad.x_NoText)
 g_TooGreat:mg "TooGreat"=some (Value.ref ad.x_TooGreat)
 g_StoneError:mg "StoneError"=some (Value.ref ad.x_StoneError)
 y_NoText:zaA K (zjr ad) ad.x_StoneError ad.x_NoText 11=true
 fi_NoText:Fun K "__init__" "NoText.__init__" ve ad.i_NoText ad.j_NoText
 bi_NoText:YB K ad.j_NoText ["self","row"] []
 ei_NoText:zih K ad.x_NoText ad.i_NoText=true
 ea_NoText:Vl K ad.x_NoText=true
 na_NoText:zj1 K ad.x_NoText ["row"]=true
def zjW:(["sign","word"]:zr).Nodup:=by decide +kernel
def zjP:(["part","word","row","words","numbers"]:zr).Nodup:=by decide +kernel
def zkd:(["stones","web","heap","between","rows","a","b"]:zr).Nodup:=by decide +kernel
def zjI:(["sign","row","found","word"]:zr).Nodup:=by decide +kernel
def zh5:(["k","one","rows","cell","at","back","row","more","kind","kept","behind"]:zr).Nodup:=by decide +kernel
def Txt.at {w:World}{b:Adr}(T:Txt P w K c a b)(h:(Rw i).x=x):Def K c x (Rw i).st (Rw i).ps (b.f i) (b.e i):=h ▸ T.d i
abbrev Txt.Pr {P:zX}{w:World}{K:zu}{c:wH}{a:Heap}{b:Adr}(_:Txt P w K c a b)(i k n:Nat)(p:vp):Prop:=vP P w K c a CX0 k (b.f i) (b.e i) (Rw i).ps (@spD ⟨K,b.dk⟩ n p)
def Txt.go {P:zX}{w:World}{K:zu}{d:wH}{a:Heap}{b:Adr}(T:Txt P w K d a b){i k:Nat}{g:zU}(h:∀ (c:Value) (A:z5) (outer:List Env) (s:zi) (H:Hp) (E:XK),wF k (A.deeper (PyProof.Rows.envOfC (Rw i).x (zw (Rw i).st) s.heap.objs.size (b.f i) c))->@SDs ⟨K,b.dk⟩ (vQ CX0 P w K d a (Rw i).N (Rw i).x (zw (Rw i).st) (b.f i) c A outer s H E).nox (xb (Rw i).st) g):T.Pr i (k+1) (Rw i).ps.length (fnD (Rw i).N.length g) :=
 letI:KK:=⟨K,b.dk⟩
 ZP (N:=(Rw i).N) (ps:=(Rw i).ps) (T.d i).fn (sc i) (g:=g) h
abbrev Txt.Px {P:zX}{w:World}{K:zu}{c:wH}{a:Heap}{b:Adr}(_:Txt P w K c a b)(i k n:Nat)(p:zhB):Prop:=vP P w K c a (Air P w) k (b.f i) (b.e i) (Rw i).ps (@spX ⟨K,b.dk⟩ (clT b) n p)
local macro_rules|`(tactic|walk_at "c")=>`(tactic|first
 |rfl
 |assumption
 |decide
 |exact (sc _).nd
 |exact ⟨rfl,rfl,rfl,rfl,rfl⟩
 |exact Or.inl rfl
 |exact Or.inr rfl
 |exact Or.inr (Or.inl rfl)
 |exact Or.inr (Or.inr rfl)
 |exact Txt.at ‹_› rfl
 |exact Txt.z ‹_› _ (by decide)
 |exact zP _
 |exact u0a
 |exact X0
 |exact wF.mono ‹_› (by omega)
 |exact fun _=>rfl
 |exact fun _ _=>rfl
 |exact ⟨Or.inl rfl,rfl⟩
 |omega
 |exact vz
 |exact all_cons rfl vz
 |exact all_cons rfl (all_cons rfl vz)
 |exact all_cons rfl (all_cons rfl (all_cons rfl vz))
 |exact vu (v:=.ty "bool") rfl (Txt.z ‹_› _ (by decide)) zdG rfl
 |exact vu (v:=.ty "int") rfl (Txt.z ‹_› _ (by decide)) zaY rfl
 |exact vu (v:=.ty "list") rfl (Txt.z ‹_› _ (by decide)) zc1 rfl
 |exact vu (v:=.ty "str") rfl (Txt.z ‹_› _ (by decide)) YZ rfl
 |exact vu (v:=.ty "tuple") rfl (Txt.z ‹_› _ (by decide)) vl rfl
 |exact vV l0 u0n u0p YQ ‹_› ‹_›
 |exact wF.units0 ‹_›
 |with_unfolding_all rfl
 |kernel_rfl)
local macro_rules|`(tactic|walk_at "s")=>`(tactic|repeat' first
 |((with_reducible show @Eq _ _ _);first|rfl|exact Txt.z ‹_› _ (by decide)|assumption|exact zfQ|exact zdG|exact xA|exact zaY|exact xB|exact zc1|exact ziv|exact YZ|exact zfB|exact vl|decide|exact zP _|with_unfolding_all rfl|kernel_rfl)
 |((with_reducible show ED _ _ _);first|(with_reducible first|apply edv|exact zg zf|apply Y6|apply yO|exact zei za7|apply zfX|apply zfP|apply vX|apply zN|apply Xn|apply zfD|exact wj wk|apply zhE|apply xD|apply zjg|(apply zeT;· assumption)|apply x9)|apply zR zI xf|apply ZK (Y5 ?_) vB|apply yQ yZ w1|apply ZK Xz YT|apply ZK zfY zY|apply ZK Wv zY|apply ZK Yl wX|apply zR (WV ?_) zdd|apply zR (W3 ?_) zcp|apply zR (zck ?_) zd9|refine zep Wv Wv zY zY ?_ ?_ ?_ (fun a b c=>zeH Wv Wv a b c)|exact zg (xc (v:=.int 8) rfl (Txt.g_MOST_PLACES ‹_›) ⟨_,rfl⟩)|exact zg (xc (v:=.int 300) rfl (Txt.g_MOST_STONES ‹_›) ⟨_,rfl⟩))
 |((with_reducible show AD _ _ _);first|(with_reducible first|apply zb|exact ze))
 |((with_reducible show SDs _ _ _);first|(with_reducible first|apply W9|apply zk|apply zl|exact yw|apply W9))
 |((with_reducible show SD _ _ _);first|(with_reducible first|apply yB|apply xt|apply yn|apply za4|apply zaN|apply Xa|apply zaM))
 |((with_reducible show WD _ _ _);first|(with_reducible first|apply v8|apply Yo|apply zaO|apply Ws))
 |((with_reducible show BD _ _ _);first|(with_reducible first|apply xG|apply XU))
 |((with_reducible show PG _ _ _);first|(with_reducible first|apply yx))
 |((with_reducible show BDs _ _ _);first|(with_reducible first|apply xH|apply Zg))
 |((with_reducible show TD _ _ _);first|(with_reducible first|apply xK|apply td_b)|apply zL Xz YT|apply zL (Y5 ?_) vB|apply zL Vr zY|apply zL (zfF ?_) zdb|apply zL zac zY|apply zL Yl wX|with_reducible apply xV)
 |((with_reducible show ID _ _ _ _);first|(with_reducible first|apply XI|apply zdm|apply zaf|apply zji))
 |((with_reducible show FL _ _ _);first|(with_reducible first|apply xX|apply zjU))
 |((with_reducible show PE _ _ _);first|(with_reducible first|apply pv))
 |((with_reducible apply KR.mk);kernel_rfl)
 |((with_reducible apply UR.mk);with_unfolding_all rfl)
 |with_reducible intro s₀ H₀ ex pn
 |walk_at "c")
local macro_rules|`(tactic|walk_at "p")=>`(tactic|(letI:KK:=⟨‹W.Frag›,Adr.dk ‹Adr›⟩;refine Txt.go ‹_› fun _ _ _ _ _ _ hr=>?_;apply zk <;> walk_at "s"))
local macro_rules|`(tactic|walk_at "q")=>`(tactic|(letI:KK:=⟨‹W.Frag›,Adr.dk ‹Adr›⟩;refine Txt.go ‹_› fun _ _ _ _ _ _ hr=>?_;apply zl <;> walk_at "s"))
def YW:D->Bool
 | .int _=>true
 | _=>false
def yW (d:D)(b a:Int):Bool:=match d with
 | .int i=>decide (b<=i)&&decide (i<=a)
 | _=>false
section
variable {P:zX}{w:World}{K:zu}{mg:wH}{base:Heap}{ad:Adr}
def yz:vp
 | [d]=>if noS d=true then some (.bl (YW d))else none
 | _=>none
abbrev zbe :=yI (wY (eUn (yq .int) (zc 0)) (Zl (eUn (yq .bool) (zc 0))))
def zbo:=fnD 1 zbe
def zju {α:Type}{b:List α}(h:b.length=1):∃ a,b=[a]:=by match b,h with | [a],_=>exact⟨a,rfl⟩
def zfl {α:Type}{c:List α}(h:c.length=2):∃ a b,c=[a,b]:=by match c,h with | [a,b],_=>exact⟨a,b,rfl⟩
def len3 {α:Type}{d:List α}(h:d.length=3):∃ a b c,d=[a,b,c]:=by match d,h with | [a,b,c],_=>exact⟨a,b,c,rfl⟩
def ifS (h:(if c=true then some x else none)=some y):c=true/\x=y:=by
 split at h
 .cases h
  exact⟨by assumption,rfl⟩
 .cases h
def zar:∀ b d,b.length=1->yz b=some d->zbo b=some d:=by
 intro b d c h
 obtain⟨a,rfl⟩:=zju c
 obtain⟨e,rfl⟩:=ifS h
 cases a <;> first | rfl | cases e
def Z8 (T:Txt P w K mg base ad):T.Pr 0 1 1 yz:=by
 letI:KK:=⟨K,ad.dk⟩
 refine Yr ?_ zar
 walk_at "q"
abbrev xO :=yI (wY (zq 1 yz (za (zc 0) zh)) (yl leD leD (zc 1) (zc 0) (zc 2)))
def vb:=fnD 3 xO
def zT:vp
 | [d,.int lo,.int hi]=>if noS d=true then some (.bl (yW d lo hi))else none
 | _=>none
def Wk (f:noS a=true)(hw:YW a=false):vb [a,.int d,.int b]=some (.bl false):=by
 have e:yz [a]=some (.bl false):=by
  show(if noS a=true then some (D.bl (YW a))else none)=_
  rw[j0 f,hw]
 refine XO (ρ:=[.v a,.v (.int d),.v (.int b)]) rfl ?_
 unfold xO
 refine Yd (xQ ?_) rfl
 show(((yz [a]).bind asB).bind λc=>if c=true then _ else some (D.bl false))=_
 rw[e]
 rfl
def YR:∀ g d,g.length=3->zT g=some d->vb g=some d:=by
 intro g d l h
 obtain⟨a,b,c,rfl⟩:=len3 l
 cases b <;> try cases h
 cases c <;> try cases h
 rename_i f j
 obtain⟨e,rfl⟩:=ifS h
 cases a with
 | scr _=>cases e
 | obj _ _ _=>cases e
 | int i =>
  refine XO (ρ:=[.v (.int i),.v (.int f),.v (.int j)]) rfl ?_
  unfold xO
  refine Yd (xQ ?_) rfl
  show(if decide (f<=i)=true then some (D.bl (decide (i<=j)))else some (.bl false))=some (.bl (decide (f<=i)&&decide (i<=j)))
  cases decide (f<=i) <;> rfl
 | tup k=>exact Wk e rfl
 | lst k=>exact Wk e rfl
 | dct z t n m=>exact Wk e rfl
 | non=>rfl
 | bl _=>rfl
 | str _=>rfl
def wN (T:Txt P w K mg base ad):T.Pr 1 2 3 zT:=by
 letI:KK:=⟨K,ad.dk⟩
 have:=Z8 T
 refine Yr ?_ YR
 walk_at "q"
abbrev vJ :=yI (zq 3 zT (za (zc 0) (za (eC (.int 1)) (za (eC (.int 8)) zh))))
def wb:=fnD 1 vJ
def zK:vp
 | [d]=>if noS d=true then some (.bl (yW d 1 8))else none
 | _=>none
def Zn:∀ b d,b.length=1->zK b=some d->wb b=some d:=by
 intro b d c h
 obtain⟨a,rfl⟩:=zju c
 have e:wb [a]=zT [a,.int 1,.int 8]:=by
  cases f:zT [a,.int 1,.int 8] <;> simp[wb,vJ,fnD,zS,yI,wq,sIf,yf,ZW,sNo,zG,ZT,Yj,vR,ZR,ZY,vEv,visF,visG,Sl.f,Sl.g,zc,eC,zd,wY,eOr,Zl,eIf,eUn,Yx,x6,yy,zW,za,zh,zq,eFn,fFn,tOf,yD,yX,zV,asB,asI,zO,YG,wJ,yH,y0,YH,xJ,ltD,leD,gtD,geD,Y4,zQ,yk,zM,yh,wv,yi,ixD,xk,yq,isT,eSl,z4,z0,yl,yY,iOf,vi,xv,Zd,Yf,Yn,ye,x4,fLC,yj,yc,wm,yp,v6,yG,Ya,b1,b2,f]
 rw[e]
 exact h
def xM (T:Txt P w K mg base ad):T.Pr 2 3 1 zK:=by
 letI:KK:=⟨K,ad.dk⟩
 have:=wN T
 refine Yr ?_ Zn
 walk_at "q"
abbrev XL :=yI (zq 3 zT (za (zc 1) (za (eC (.int 0)) (za (zd YG (zc 0) (eC (.int 1))) zh))))
def Zs:=fnD 2 XL
def xz:vp
 | [.int m,d]=>if noS d=true then some (.bl (yW d 0 (m-1)))else none
 | _=>none
def VO:∀ c d,c.length=2->xz c=some d->Zs c=some d:=by
 intro c d f h
 obtain⟨a,b,rfl⟩:=zfl f
 cases a <;> try cases h
 rename_i m
 have e:Zs [.int m,b]=zT [b,.int 0,.int (m-1)]:=by
  cases g:zT [b,.int 0,.int (m-1)] <;> simp[Zs,XL,fnD,zS,yI,wq,sIf,yf,ZW,sNo,zG,ZT,Yj,vR,ZR,ZY,vEv,visF,visG,Sl.f,Sl.g,zc,eC,zd,wY,eOr,Zl,eIf,eUn,Yx,x6,yy,zW,za,zh,zq,eFn,fFn,tOf,yD,yX,zV,asB,asI,zO,YG,wJ,yH,y0,YH,xJ,ltD,leD,gtD,geD,Y4,zQ,yk,zM,yh,wv,yi,ixD,xk,yq,isT,eSl,z4,z0,yl,yY,iOf,vi,xv,Zd,Yf,Yn,ye,x4,fLC,yj,yc,wm,yp,v6,yG,Ya,b1,b2,g]
 rw[e]
 exact h
def VP (T:Txt P w K mg base ad):T.Pr 3 3 2 xz:=by
 letI:KK:=⟨K,ad.dk⟩
 have:=wN T
 refine Yr ?_ VO
 walk_at "q"
def zgb (h:∀ i,d≠.int i):yW d b a=false:=by
 cases d <;> first | rfl | exact absurd rfl (h _)
def WY (h:yW d b a=true):∃ i,d=.int i:=by
 cases d with
 | int i=>exact⟨i,rfl⟩
 | _=>cases h
abbrev Vp :=zS (sIf (yX (zV (tOf (eUn (yq .tuple) (zc 1)))) (tOf (zd neD (eFn xk (za (zc 1) zh)) (eC (.int 2))))) (yI (eC (.bl false))) zG)
  (yI (wY (zq 2 xz (za (zc 0) (za (zd ixD (zc 1) (eC (.int 0))) zh))) (wY (zq 2 xz (za (zc 0) (za (zd ixD (zc 1) (eC (.int 1))) zh))) (zd neD (zd ixD (zc 1) (eC (.int 0))) (zd ixD (zc 1) (eC (.int 1)))))))
def zcc:=fnD 2 Vp
def ww:vp
 | [.int m,d]=>if noS d=true then some (.bl (x8 m d))else none
 | _=>none
def ze7 {m:Int}(h:yW x 0 (m-1)=false):x8 m (.tup [x,y])=false:=by
 cases x with
 | int i =>
  cases y with
  | int j =>
   show(inR m i&&inR m j&&!decide (i=j))=false
   rw[show inR m i=false from h]
   rfl
  | _=>rfl
 | _=>rfl
def zdZ {m:Int}(h:yW y 0 (m-1)=false):x8 m (.tup [x,y])=false:=by
 cases x with
 | int i =>
  cases y with
  | int j =>
   show(inR m i&&inR m j&&!decide (i=j))=false
   rw[show inR m j=false from h,u0y]
   rfl
  | _=>rfl
 | _=>rfl
def zbc:∀ f d,f.length=2->ww f=some d->zcc f=some d:=by
 intro f d g h
 obtain⟨a,b,rfl⟩:=zfl g
 cases a <;> try cases h
 rename_i m
 obtain⟨l,rfl⟩:=ifS h
 clear h
 cases b with
 | tup k =>
  refine XO (ρ:=[.v (.int m),.v (.tup k)]) rfl ?_
  unfold Vp
  by_cases g:k.length=2
  .obtain⟨x,y,rfl⟩:=zfl g
   have r:noS x=true:=vk (ds:=[x,y]) (i:=0) l rfl
   have v:noS y=true:=vk (ds:=[x,y]) (i:=1) l rfl
   have u:xz [.int m,x]=some (.bl (yW x 0 (m-1))):=by
    show(if noS x=true then some (D.bl (yW x 0 (m-1)))else none)=_
    rw[j0 r]
   have s:xz [.int m,y]=some (.bl (yW y 0 (m-1))):=by
    show(if noS y=true then some (D.bl (yW y 0 (m-1)))else none)=_
    rw[j0 v]
   refine zJ (ρ':=[.v (.int m),.v (.tup [x,y])]) rfl (Yd (xQ ?_) rfl)
   show(((xz [.int m,x]).bind asB).bind λc=>if c=true then (((xz [.int m,y]).bind asB).bind λc=>if c=true then neD x y else some (D.bl false))else some (D.bl false))=_
   rw[u,s]
   cases n:yW x 0 (m-1) with
   | false=>rw[ze7 n];rfl
   | true =>
    cases o:yW y 0 (m-1) with
    | false=>rw[zdZ o];rfl
    | true =>
     obtain⟨i,rfl⟩:=WY n
     obtain⟨j,rfl⟩:=WY o
     show some (D.bl (!decide (i=j)))=some (.bl (inR m i&&inR m j&&!decide (i=j)))
     rw[show inR m i=true from n,show inR m j=true from o]
     rfl
  .have e:x8 m (.tup k)=false:=by
    unfold x8 Yp
    split
    .rename_i t q
     split at q
     .rename_i p
      injection p with p
      rw[p]at g
      exact absurd rfl g
     .cases q
    .rfl
   rw[e]
   refine xj (Ze (c:=true) ?_ (λ_=>Yd rfl rfl) λz=>by cases z)
   show some (!decide ((k.length:Int)=2))=_
   rw[u7 (show ¬ (k.length:Int)=2 from λh=>g (Int.ofNat.inj h))]
   rfl
 | scr _=>cases l
 | obj _ _ _=>cases l
 | _=>rfl
def zbi (T:Txt P w K mg base ad):T.Pr 5 4 2 ww:=by
 letI:KK:=⟨K,ad.dk⟩
 have:=VP T
 refine Yr ?_ zbc
 walk_at "p"
def WR (ds:zo):Nat->Option Tie
 | 0=>none
 | k+1=>(ds[k]?).bind Yp
abbrev ZF :=zS (sIf (yX (zV (tOf (zq 2 ww (za (zc 0) (za (zc 3) zh))))) (tOf (zd gtD (zd ixD (zc 3) (eC (.int 0))) (zd ixD (zc 3) (eC (.int 1)))))) (yI (eC (.bl false))) zG)
  (sIf (yD (tOf (zd gtD (zc 2) (eC (.int 0)))) (tOf (zd leT (zc 3) (zd ixD (zc 1) (zd YG (zc 2) (eC (.int 1))))))) (yI (eC (.bl false))) zG)
abbrev Zi :=zS (sIf (zV (tOf (eUn (yq .tuple) (zc 1)))) (yI (eC (.bl false))) zG)
  (zS (vi (ye (za (zc 1) zh)) (v6 2 (yG (yp 2) (yG (yp 3) Ya))) ZF)
  (yI (eC (.bl true))))
def zbl:=fnD 4 Zi
def vg:vp
 | [.int m,d]=>if noS d=true then some (.bl (Ye m d))else none
 | _=>none
def Xu (h:x8 m d=true):∃ t,d=zv t:=by
 unfold x8 at h
 split at h
 .rename_i t a
  exact⟨t,Xo a⟩
 .cases h
def V2:∀ w d,w.length=2->vg w=some d->zbl w=some d:=by
 intro w d J h
 obtain⟨a,b,rfl⟩:=zfl J
 cases a <;> try cases h
 rename_i m
 obtain⟨E,rfl⟩:=ifS h
 clear h J
 cases b with
 | scr _=>cases E
 | obj _ _ _=>cases E
 | tup f =>
  refine XO (g:=Zi) rfl ?_
  unfold Zi
  refine zJ rfl ?_
  refine xj (Vv (ds:=ws 0 f) (λi ρ=>∃ F G,ρ=[.v (.int m),.v (.tup f),F,G]/\yL m none f=yL m (WR f i) (f.drop i)/\∀ k,i=k+1->∃ p,f[k]?=some (zv p)) rfl
   ⟨.no,.no,rfl,rfl,λk e=>by cases e⟩ ?_ ?_)
  .rintro i d ρ H ⟨F,G,rfl,hp,I⟩
   rw[w4]at H
   obtain⟨u,o,rfl⟩:=t0.mp H
   rw[u0s]
   refine⟨_,rfl,?_⟩
   have r:f.drop i=u::f.drop (i+1):=by
    obtain⟨K,L⟩:=q4.mp o
    rw[l9 K,L]
   have x:noS u=true:=vk E o
   unfold ZF
   cases q:x8 m u with
   | false =>
    have C:ww [.int m,u]=some (.bl false):=by
     show(if noS u=true then some (D.bl (x8 m u))else none)=_
     rw[j0 x,q]
    refine xj (Ze (c:=true) (show(((ww [.int m,u]).bind asB).map (!·)).bind (λc=>if c=true then some true else _)=_ by rw[C];rfl) (λ_=>Yd rfl ?_) (λz=>by cases z))
    have e:yL m none f=false:=by
     rw[hp,r]
     unfold yL
     split
     .rw[q];rfl
     .rfl
    show D.bl false=.bl (yL m none f)
    rw[e]
   | true =>
    obtain⟨t,rfl⟩:=Xu q
    have C:ww [.int m,zv t]=some (.bl true):=by
     show(if noS (zv t)=true then some (D.bl (x8 m (zv t)))else none)=_
     rw[j0 x,q]
    have l:yL m none f=(!decide (t.2<t.1)&&W5 (WR f i) t&&yL m (some t) (f.drop (i+1))):=by
     rw[hp,r]
     conv=>lhs;unfold yL
     rw[vU,q]
     rfl
    have n:WR f (i+1)=some t:=by
     show(f[i]?).bind Yp=some t
     rw[o]
     rfl
    refine xj (Ze (c:=decide (t.2<t.1)) (show(((ww [.int m,zv t]).bind asB).map (!·)).bind (λc=>if c=true then some true else some (decide (t.2<t.1)))=_ by rw[C];rfl) (λc=>Yd rfl ?_) (λc=>ZO rfl ?_))
    .show D.bl false=.bl (yL m none f)
     rw[l,c]
     rfl
    .cases i with
     | zero =>
      refine Ze (c:=false) rfl (λz=>by cases z) (λ_=>ZO rfl ?_)
      refine⟨_,_,rfl,?_,λk e=>?_⟩
      .rw[n,l,c]
       rfl
      .cases e
       exact⟨t,o⟩
     | succ j =>
      obtain⟨p,v⟩:=I j rfl
      have s:WR f (j+1)=some p:=by
       show(f[j]?).bind Yp=some p
       rw[v]
       rfl
      rw[s]at l
      have M:atI f ((((j+1:Nat):Int))-1)=some (zv p):=by
       rw[show(((j+1:Nat):Int))-1=(j:Nat)from Int.add_sub_cancel (j:Int) 1]
       exact zf9 v
      have A:W5 (some p) t=!leP t p:=rfl
      refine Ze (c:=leP t p) ?_ (λB=>Yd rfl ?_) (λB=>ZO rfl ?_)
      .have z:decide ((0:Int)<((j+1:Nat):Int))=true:=u8 (Int.natCast_pos.mpr (Nat.succ_pos j))
       show((some (decide ((0:Int)<((j+1:Nat):Int)))).bind λc=>if c=true then (((atI f (((j+1:Nat):Int)-1)).bind λy=>leT (zv t) y).bind asB)else some false)=_
       rw[z,M]
       rfl
      .show D.bl false=.bl (yL m none f)
       rw[l,A,B,c]
       rfl
      .refine⟨_,_,rfl,?_,λN e=>?_⟩
       .rw[n,l,A,B,c]
        rfl
       .cases e
        exact⟨t,o⟩
  .rintro ρ ⟨F,G,rfl,hp,I⟩
   refine Yd rfl ?_
   show D.bl true=.bl (yL m none f)
   rw[hp,xy,u0J]
   cases WR f f.length <;> rfl
 | _=>rfl
def VW (T:Txt P w K mg base ad):T.Pr 6 5 2 vg:=by
 letI:KK:=⟨K,ad.dk⟩
 have:=zbi T
 refine Yr ?_ V2
 walk_at "p"
abbrev Z3 :=zS (sIf (yX (zV (tOf (eUn (yq .tuple) (zc 0)))) (tOf (zd neD (eFn xk (za (zc 0) zh)) (eC (.int 2))))) (yI (eC (.bl false))) zG)
  (yI (wY (zq 1 zK (za (zd ixD (zc 0) (eC (.int 0))) zh)) (zq 2 vg (za (zd ixD (zc 0) (eC (.int 0))) (za (zd ixD (zc 0) (eC (.int 1))) zh)))))
def ZX:=fnD 1 Z3
def wl:vp
 | [d]=>if noS d=true then some (.bl (wy d))else none
 | _=>none
def zdl:wy (.tup [x,y])=(yW x 1 8&&match x with | .int m=>Ye m y | _=>false):=by
 cases x <;> rfl
def zbX:∀ b d,b.length=1->wl b=some d->ZX b=some d:=by
 intro b d c h
 obtain⟨a,rfl⟩:=zju c
 obtain⟨g,rfl⟩:=ifS h
 clear h c
 cases a with
 | scr _=>cases g
 | obj _ _ _=>cases g
 | tup k =>
  by_cases c:k.length=2
  .obtain⟨x,y,rfl⟩:=zfl c
   have q:noS x=true:=vk (ds:=[x,y]) (i:=0) g rfl
   have s:noS y=true:=vk (ds:=[x,y]) (i:=1) g rfl
   have f:zK [x]=some (.bl (yW x 1 8)):=by simp[zK,q]
   rw[zdl]
   by_cases n:∃ i,x=.int i
   .obtain⟨i,rfl⟩:=n
    have o:vg [.int i,y]=some (.bl (Ye i y)):=by simp[vg,s]
    cases t:yW (.int i) 1 8 <;> rw[t]at f <;> simp[ZX,Z3,fnD,zS,yI,wq,sIf,yf,ZW,sNo,zG,ZT,Yj,vR,ZR,ZY,vEv,visF,visG,Sl.f,Sl.g,zc,eC,zd,wY,eOr,Zl,eIf,eUn,Yx,x6,yy,zW,za,zh,zq,eFn,fFn,tOf,yD,yX,zV,asB,asI,zO,YG,wJ,yH,y0,YH,xJ,ltD,leD,gtD,geD,Y4,zQ,yk,zM,yh,wv,yi,ixD,xk,yq,isT,eSl,z4,z0,yl,yY,iOf,vi,xv,Zd,Yf,Yn,ye,x4,fLC,yj,yc,wm,yp,v6,yG,Ya,b1,b2,f,o,atI,ixN]
   .have p:yW x 1 8=false:=zgb λj r=>n ⟨j,r⟩
    rw[p]at f ⊢
    simp[ZX,Z3,fnD,zS,yI,wq,sIf,yf,ZW,sNo,zG,ZT,Yj,vR,ZR,ZY,vEv,visF,visG,Sl.f,Sl.g,zc,eC,zd,wY,eOr,Zl,eIf,eUn,Yx,x6,yy,zW,za,zh,zq,eFn,fFn,tOf,yD,yX,zV,asB,asI,zO,YG,wJ,yH,y0,YH,xJ,ltD,leD,gtD,geD,Y4,zQ,yk,zM,yh,wv,yi,ixD,xk,yq,isT,eSl,z4,z0,yl,yY,iOf,vi,xv,Zd,Yf,Yn,ye,x4,fLC,yj,yc,wm,yp,v6,yG,Ya,b1,b2,f,atI,ixN]
  .have e:wy (.tup k)=false:=zg8 λm l h _=>by
    unfold wI at h
    injection h with h
    rw[h]at c
    exact c rfl
   rw[e]
   have:¬ (k.length:Int)=2:=by omega
   simp[ZX,Z3,fnD,zS,yI,wq,sIf,yf,ZW,sNo,zG,ZT,Yj,vR,ZR,ZY,vEv,visF,visG,Sl.f,Sl.g,zc,eC,zd,wY,eOr,Zl,eIf,eUn,Yx,x6,yy,zW,za,zh,zq,eFn,fFn,tOf,yD,yX,zV,asB,asI,zO,YG,wJ,yH,y0,YH,xJ,ltD,leD,gtD,geD,Y4,zQ,yk,zM,yh,wv,yi,ixD,xk,yq,isT,eSl,z4,z0,yl,yY,iOf,vi,xv,Zd,Yf,Yn,ye,x4,fLC,yj,yc,wm,yp,v6,yG,Ya,b1,b2,this]
 | _=>rfl
def VF (T:Txt P w K mg base ad):T.Pr 7 6 1 wl:=by
 letI:KK:=⟨K,ad.dk⟩
 have:=xM T
 have:=VW T
 refine Yr ?_ zbX
 walk_at "p"
def xu:D->Bool
 | .int i=>decide (0<=i)
 | _=>false
def zjs:D->Int
 | .int i=>i
 | _=>0
def xl (m:Int):D->Bool
 | .tup a=>decide ((a.length:Int)=m)&&a.all xu
 | _=>false
def zaQ {α:Type}(f:α->Bool)(l:List α):zfN [.lst (l.map λx=>.bl (f x))]=some (.bl (l.all f)):=by
 have:zgz (l.map λx=>D.bl (f x))=some (l.map f):=by
  have:=zdR (l.map f)
  rwa[u1c]at this
 show((zgz (l.map λx=>D.bl (f x))).bind λa=>some (D.bl (a.all id)))=_
 rw[this]
 show some (D.bl ((l.map f).all id))=_
 rw[u0D]
 rfl
def V1 {a:zo}(h:a.all xu=true):∃ ns:zB,a=ns.map .int/\∀ n∈ns,0<=n:=by
 induction a with
 | nil=>exact⟨[],rfl,by simp⟩
 | cons d a c =>
  rw[u1p,t5]at h
  obtain⟨ns,rfl,e⟩:=c h.2
  cases d with
  | int i=>exact⟨i::ns,rfl,λn b=>by
   rcases q3.mp b with rfl | b
   .exact t6 h.1
   .exact e n b⟩
  | _=>exact absurd h.1 u9
def zcn {ns:zB}(h:∀ n∈ns,0<=n):(ns.map D.int).all xu=true:=by
 rw[u0D,k7]
 exact λn a=>u8 (h n a)
def zb1 (ns:zB):zhw [.tup (ns.map .int)]=some (.int ns.sum):=by
 show((zhn (ns.map .int)).bind λns=>some (D.int ns.sum))=_
 rw[zaD]
 rfl
abbrev wQ :=zS (sIf (yX (zV (tOf (eUn (yq .tuple) (zc 1)))) (tOf (zd neD (eFn xk (za (zc 1) zh)) (zc 0)))) (yI (eC (.bl false))) zG)
  (yI (eFn zfN (za (yy (fLC (iOf (zc 1)) b1 yj (wY (zq 1 yz (za (zc 0) zh)) (zd geD (zc 0) (eC (.int 0)))))) zh)))
def ZB:=fnD 2 wQ
def xZ:vp
 | [.int m,d]=>if (noS d&&decide (m<=1000))=true then some (.bl (xl m d))else none
 | _=>none
def ziI (a:noS d=true):((yz [d]).bind asB).bind (λc=>if c=true then geD d (.int 0)else some (.bl false))=some (.bl (xu d)):=by
 cases d with
 | scr _=>cases a
 | obj _ _ _=>cases a
 | tup _=>simp[yz,a,YW,asB,xu]
 | lst _=>simp[yz,a,YW,asB,xu]
 | _=>rfl
def Wr:∀ n d,n.length=2->xZ n=some d->ZB n=some d:=by
 intro n d k h
 obtain⟨a,b,rfl⟩:=zfl k
 cases a <;> try cases h
 rename_i m
 obtain⟨l,rfl⟩:=ifS h
 clear h k
 rw[t5,r8]at l
 obtain⟨l,q⟩:=l
 cases b with
 | scr _=>cases l
 | obj _ _ _=>cases l
 | tup g =>
  by_cases k:(g.length:Int)=m
  .have e:fLC (iOf (zc 1)) b1 yj (wY (zq 1 yz (za (zc 0) zh)) (zd geD (zc 0) (eC (.int 0)))) [some (.int m),some (.tup g)]=some (g.map λd=>.bl (xu d)):=by
    unfold fLC
    show(if lim g.length=true then _ else none)=_
    rw[j0 (wK (by omega))]
    have:=Zt (b:=b1) (t:=yj) (f:=wY (zq 1 yz (za (zc 0) zh)) (zd geD (zc 0) (eC (.int 0)))) (ρ:=[some (.int m),some (.tup g)]) id (λd=>.bl (xu d)) g
     (λd p=>⟨[some d],rfl,rfl,ziI (by obtain⟨j,o,rfl⟩:=u1v p;exact vk (i:=j) l (by simp[o]))⟩)
    rwa[List.map_id]at this
   show fnD 2 wQ _=_
   refine XO rfl ?_
   unfold wQ
   refine xj (Ze (c:=false) (by simp[fnD,zS,yI,wq,sIf,yf,ZW,sNo,zG,ZT,Yj,vR,ZR,ZY,vEv,visF,visG,Sl.f,Sl.g,zc,eC,zd,wY,eOr,Zl,eIf,eUn,Yx,x6,yy,zW,za,zh,zq,eFn,fFn,tOf,yD,yX,zV,asB,asI,zO,YG,wJ,yH,y0,YH,xJ,ltD,leD,gtD,geD,Y4,zQ,yk,zM,yh,wv,yi,ixD,xk,yq,isT,eSl,z4,z0,yl,yY,iOf,vi,xv,Zd,Yf,Yn,ye,x4,fLC,yj,yc,wm,yp,v6,yG,Ya,b1,b2,k]) (λz=>by cases z) λ_=>ZO rfl (Yd (d:=.bl (g.all xu)) ?_ ?_))
   .show(match (((fLC (iOf (zc 1)) b1 yj (wY (zq 1 yz (za (zc 0) zh)) (zd geD (zc 0) (eC (.int 0)))) [some (.int m),some (.tup g)]).map D.lst).bind λd=>(some []:Option zo).map (d::·)).bind zfN with | some d=>Ctl.rt d | none=>Ctl.no)=_
    rw[e]
    show(match zfN [.lst (g.map λd=>.bl (xu d))]with | some d=>Ctl.rt d | none=>Ctl.no)=_
    rw[zaQ]
   .show D.bl (g.all xu)=.bl (decide ((g.length:Int)=m)&&g.all xu)
    rw[u8 k,Bool.true_and]
  .have e:xl m (.tup g)=false:=by
    show(decide ((g.length:Int)=m)&&g.all xu)=false
    rw[u7 k,u1N]
   rw[e]
   simp[ZB,wQ,fnD,zS,yI,wq,sIf,yf,ZW,sNo,zG,ZT,Yj,vR,ZR,ZY,vEv,visF,visG,Sl.f,Sl.g,zc,eC,zd,wY,eOr,Zl,eIf,eUn,Yx,x6,yy,zW,za,zh,zq,eFn,fFn,tOf,yD,yX,zV,asB,asI,zO,YG,wJ,yH,y0,YH,xJ,ltD,leD,gtD,geD,Y4,zQ,yk,zM,yh,wv,yi,ixD,xk,yq,isT,eSl,z4,z0,yl,yY,iOf,vi,xv,Zd,Yf,Yn,ye,x4,fLC,yj,yc,wm,yp,v6,yG,Ya,b1,b2,k]
 | _=>rfl
def Wg (T:Txt P w K mg base ad):T.Pr 4 2 2 xZ:=by
 letI:KK:=⟨K,ad.dk⟩
 have:=Z8 T
 refine Yr ?_ Wr
 walk_at "p"
def vZ (m:Int):D->Bool
 | .tup a=>xl m (.tup a)&&decide ((a.map zjs).sum<=300)
 | _=>false
def Zy (ns:zB):(ns.map D.int).map zjs=ns:=by rw[u1c];exact(List.map_congr_left λ_ _=>rfl).trans (List.map_id _)
abbrev vT :=yI (wY (zq 2 xZ (za (zd ixD (zc 0) (eC (.int 0))) (za (zc 1) zh))) (zd leD (eFn zhw (za (zc 1) zh)) (eC (.int 300))))
def v5:=fnD 2 vT
def yC:vp
 | [.tup [.int m,_],d]=>if (noS d&&decide (m<=1000))=true then some (.bl (vZ m d))else none
 | _=>none
def X6:∀ g d,g.length=2->yC g=some d->v5 g=some d:=by
 intro g d o h
 obtain⟨a,b,rfl⟩:=zfl o
 unfold yC at h
 split at h
 .rename_i m t p e
  injection e with e1 e2
  injection e2 with e2 _
  subst e1 e2
  obtain⟨n,rfl⟩:=ifS h
  have f:xZ [.int m,b]=some (.bl (xl m b)):=by simp only[xZ];rw[j0 n]
  cases c:xl m b with
  | false =>
   rw[c]at f
   have i:vZ m b=false:=by
    cases b <;> try rfl
    show(xl m _&&_)=false
    rw[c]
    rfl
   rw[i]
   simp[v5,vT,fnD,zS,yI,wq,sIf,yf,ZW,sNo,zG,ZT,Yj,vR,ZR,ZY,vEv,visF,visG,Sl.f,Sl.g,zc,eC,zd,wY,eOr,Zl,eIf,eUn,Yx,x6,yy,zW,za,zh,zq,eFn,fFn,tOf,yD,yX,zV,asB,asI,zO,YG,wJ,yH,y0,YH,xJ,ltD,leD,gtD,geD,Y4,zQ,yk,zM,yh,wv,yi,ixD,xk,yq,isT,eSl,z4,z0,yl,yY,iOf,vi,xv,Zd,Yf,Yn,ye,x4,fLC,yj,yc,wm,yp,v6,yG,Ya,b1,b2,f,atI,ixN]
  | true =>
   rw[c]at f
   cases b with
   | tup l =>
    have k:l.all xu=true:=by
     unfold xl at c
     rw[t5]at c
     exact c.2
    obtain⟨ns,rfl,j⟩:=V1 k
    have i:vZ m (.tup (ns.map .int))=decide (ns.sum<=300):=by
     show(xl m _&&decide (((ns.map D.int).map zjs).sum<=300))=_
     rw[c,Zy,Bool.true_and]
    rw[i]
    simp[v5,vT,fnD,zS,yI,wq,sIf,yf,ZW,sNo,zG,ZT,Yj,vR,ZR,ZY,vEv,visF,visG,Sl.f,Sl.g,zc,eC,zd,wY,eOr,Zl,eIf,eUn,Yx,x6,yy,zW,za,zh,zq,eFn,fFn,tOf,yD,yX,zV,asB,asI,zO,YG,wJ,yH,y0,YH,xJ,ltD,leD,gtD,geD,Y4,zQ,yk,zM,yh,wv,yi,ixD,xk,yq,isT,eSl,z4,z0,yl,yY,iOf,vi,xv,Zd,Yf,Yn,ye,x4,fLC,yj,yc,wm,yp,v6,yG,Ya,b1,b2,f,zb1,atI,ixN]
   | _=>cases c
 .cases h
def Y9 (T:Txt P w K mg base ad):T.Pr 8 3 2 yC:=by
 letI:KK:=⟨K,ad.dk⟩
 have:=Wg T
 refine Yr ?_ X6
 walk_at "q"
end
def zir {m:Nat}{g:zU}{ds:zo}{R:D->Prop}(e:ds.map .v++List.replicate (m-ds.length) .no=ρ)(q:(g ρ).w (λ_=>R .non) noP noP R):∃ d,fnD m g ds=some d/\R d:=by
 unfold fnD
 rw[e]
 cases a:g ρ with
 | nx b=>rw[a]at q;exact⟨_,rfl,q.nxi⟩
 | rt c=>rw[a]at q;exact⟨_,rfl,q.rti⟩
 | bk _=>rw[a]at q;exact q.bki.elim
 | ct _=>rw[a]at q;exact q.cti.elim
 | no=>rw[a]at q;exact q.noi.elim
section
variable {P:zX}{w:World}{K:zu}{mg:wH}{base:Heap}{ad:Adr}
abbrev vn :=zS (yf false 2 (zd y0 (zd wJ (zd yb (zd yb (zd y0 (zc 0) (eC (.int 2147483647))) (zd wJ (eC (.int 977)) (zc 1))) (eC (.int 1))) (eC (.int 48271))) (eC (.int 2147483647))))
  (zS (yf false 2 (zd y0 (zd wJ (zc 2) (zc 2)) (eC (.int 2147483629))))
  (zS (yf false 2 (zd y0 (zd wJ (zd yb (zc 2) (zd wJ (eC (.int 40692)) (zd yb (zc 1) (eC (.int 3))))) (eC (.int 69621))) (eC (.int 2147483647))))
  (yI (zd yH (zc 2) (eC (.int 8))))))
def zan:=fnD 3 vn
def zC:vp
 | [.int c,.int k]=>some (.int (za0 c k))
 | _=>none
def Wu {i:Int}(a:-(2^64)<i)(b:i<2^64):Zp i j=true:=u8 (.inl ⟨a,b⟩)
def zcv {j:Int}(a:-(2^64)<j)(b:j<2^64):Zp i j=true:=u8 (.inr ⟨a,b⟩)
def Zj (h:Zp i j=true):wJ (.int i) (.int j)=some (.int (i*j)):=by
 show(if Zp i j=true then _ else none)=_
 rw[j0 h]
def wc {j:Int}(h:0<j):y0 (.int i) (.int j)=some (.int (i%j)):=by
 show(if decide (0<j)=true then _ else none)=_
 rw[j0 (u8 h)]
def YN {j:Int}(h:0<j)(a:j<1606938044258990275541962092341162602522202993782792835301376):yH (.int i) (.int j)=some (.int (i/j)):=by
 show(if decide (0<j/\j<1606938044258990275541962092341162602522202993782792835301376)=true then _ else none)=_
 rw[j0 (u8 ⟨h,a⟩)]
def VB:∀ e d,e.length=2->zC e=some d->zan e=some d:=by
 intro e d s h
 obtain⟨a,b,rfl⟩:=zfl s
 cases a <;> try cases h
 cases b <;> try cases h
 rename_i c k
 have i:=u0Q ((c%2147483647+977*k+1)*48271) (show(2147483647:Int)≠0 by decide)
 have j:=u0P ((c%2147483647+977*k+1)*48271) (show(0:Int)<2147483647 by decide)
 have r:Zp 977 k=true:=Wu (by decide) (by decide)
 have n:Zp (c%2147483647+977*k+1) 48271=true:=zcv (by decide) (by decide)
 obtain⟨x,g⟩:∃ x,(c%2147483647+977*k+1)*48271%2147483647=x:=⟨_,rfl⟩
 rw[g]at i j
 have q:Zp x x=true:=Wu (Int.lt_of_lt_of_le (by decide) i) (Int.lt_trans j (by decide))
 have o:Zp 40692 (k+3)=true:=Wu (by decide) (by decide)
 have p:∀ x,Zp x 69621=true:=λx=>zcv (by decide) (by decide)
 obtain⟨y,l⟩:∃ y,x*x%2147483629=y:=⟨_,rfl⟩
 obtain⟨z,m⟩:∃ z,(y+40692*(k+3))*69621%2147483647=z:=⟨_,rfl⟩
 have f:za0 c k=z/8:=by
  show((((c%2147483647+977*k+1)*48271%2147483647)*((c%2147483647+977*k+1)*48271%2147483647)%2147483629+40692*(k+3))*69621%2147483647/8)=_
  rw[g,l,m]
 rw[f]
 refine XO (ρ:=[.v (.int c),.v (.int k),.no]) rfl ?_
 unfold vn
 refine zJ (ρ':=[.v (.int c),.v (.int k),.v (.int x)]) (Zz ?_) ?_
 .show(((((y0 (.int c) (.int 2147483647)).bind λa=>(wJ (.int 977) (.int k)).bind λb=>yb a b).bind λa=>yb a (.int 1)).bind λa=>wJ a (.int 48271)).bind λa=>y0 a (.int 2147483647))=_
  rw[wc (by decide),Zj r]
  show((wJ (.int (c%2147483647+977*k+1)) (.int 48271)).bind λa=>y0 a (.int 2147483647))=_
  rw[Zj n,<- g]
  exact wc (by decide)
 refine zJ (ρ':=[.v (.int c),.v (.int k),.v (.int y)]) (Zz ?_) ?_
 .show((wJ (.int x) (.int x)).bind λa=>y0 a (.int 2147483629))=_
  rw[Zj q,<- l]
  exact wc (by decide)
 refine zJ (ρ':=[.v (.int c),.v (.int k),.v (.int z)]) (Zz ?_) ?_
 .show((((wJ (.int 40692) (.int (k+3))).bind λb=>yb (.int y) b).bind λa=>wJ a (.int 69621)).bind λa=>y0 a (.int 2147483647))=_
  rw[Zj o]
  show((wJ (.int (y+40692*(k+3))) (.int 69621)).bind λa=>y0 a (.int 2147483647))=_
  rw[Zj (p _),<- m]
  exact wc (by decide)
 exact Yd (xQ (show yH (.int z) (.int 8)=_ from YN (by decide) (by decide))) rfl
def Za (T:Txt P w K mg base ad):zbj P w K mg base CX0 1 (ad.f 13) (ad.e 13) (Rw 13).ps (@spD ⟨K,ad.dk⟩ 2 zC):=by
 letI:KK:=⟨K,ad.dk⟩
 refine zem (zgt (N:=["cell","k","number"]) (x0:="cell") (pr:=["k"]) (T.d 13).fn (sc 13) (by decide +kernel) (g:=vn) λa A outer s H E b=>?_) VB
 unfold vn
 exact(zk (yn (m:=false) (i:=2) (sc 13).nd rfl (Or.inl rfl) (vX (Xq (zN (zN (vX (edv 0) (zg zf)) (Xq (zg zf) (edv 1))) (zg zf)) (zg zf)) (zg zf)))
  (zk (yn (m:=false) (i:=2) (sc 13).nd rfl (Or.inl rfl) (vX (Xq (edv 2) (edv 2)) (zg zf)))
  (zk (yn (m:=false) (i:=2) (sc 13).nd rfl (Or.inl rfl) (vX (Xq (zN (edv 2) (Xq (zg zf) (zN (edv 1) (zg zf)))) (zg zf)) (zg zf)))
  (zl (yB (Xn (edv 2) (zg zf)))))))
def wR (T:Txt P w K mg base ad):vP P w K mg base CX0 1 (ad.f 13) (ad.e 13) (Rw 13).ps (@spD ⟨K,ad.dk⟩ 2 zC):=(Za T).ok
def zbt {i j:Int}(d:0<=i)(c:i<=1000)(a:0<=j)(b:j<=1000):Yn [.int i,.int j]=some (Xx i (j-i).toNat):=by
 show(if zfe i=true/\zfe j=true then some (Xx i (j-i).toNat)else none)=_
 rw[j0 ⟨wo.mpr ⟨by(clear b a c;omega),by(clear b a;omega)⟩,wo.mpr ⟨by omega,by omega⟩⟩]
def Zk {j:Int}(a:0<=j)(b:j<=1000000):Yf [.int j]=some (Xx 0 j.toNat):=by
 show(if zfe j=true then some (Xx 0 j.toNat)else none)=_
 rw[j0 (wo.mpr ⟨by omega,by omega⟩)]
def zbs {m:Int}{ns:zB}(a:(ns.length:Int)=m)(c:∀ n∈ns,0<=n)(b:ns.sum<=300):vZ m (.tup (ns.map .int))=true:=by
 unfold vZ xl
 rw[t5,t5,r8,r8,Zy,t1]
 exact⟨⟨a,zcn c⟩,b⟩
def zaw (ns:zB):noS (.tup (ns.map .int))=true:=by
 show zdO (ns.map .int)=true
 induction ns with
 | nil=>rfl
 | cons n ns a=>show(noS (.int n)&&zdO (ns.map .int))=true;rw[a];rfl
abbrev Ym :=yf false 1 (zd yb (zc 1) (yy (fLC (Zd Yn (za (zd yb (zc 2) (eC (.int 1))) (za (zc 0) zh))) b1 yj (x6 (za (zc 3) (za (zc 0) zh))))))
abbrev ZI :=zS (yf false 1 (yy (zW zh)))
  (zS (xv Yf (za (zc 0) zh) (yp 2) Ym)
  (yI (zc 1)))
def VD:=fnD 3 ZI
def xY:vp
 | [.int n]=>if decide (0<=n/\n<=8)=true then some (.lst ((wg n.toNat).map zv))else none
 | _=>none
def X5:∀ b d,b.length=1->xY b=some d->VD b=some d:=by
 intro b d p h
 obtain⟨a,rfl⟩:=zju p
 cases a <;> try cases h
 rename_i n
 obtain⟨g,rfl⟩:=ifS h
 have g:0<=n/\n<=8:=t6 g
 clear h p
 obtain⟨k,l⟩:∃ k:Nat,n.toNat=k:=⟨_,rfl⟩
 have f:k<=8:=by omega
 have u:n=(k:Int):=by omega
 rw[l]
 have t:Yf [.int n]=some (Xx 0 k):=by rw[Zk g.1 (by omega),l]
 clear l
 refine XO (ρ:=[.v (.int n),.no,.no]) rfl ?_
 unfold ZI
 have s:yf false 1 (yy (zW zh)) [.v (.int n),.no,.no]=.nx [.v (.int n),.v (.lst []),.no]:=rfl
 refine zJ s (xj (zdo (lo:=0) (c:=k) (λi ρ=>∃ m,ρ=[.v (.int n),.v (.lst ((xP k i).map zv)),m]) t ⟨.no,rfl⟩ ?_ ?_))
 .rintro i ρ v ⟨m,rfl⟩
  refine⟨_,rfl,?_⟩
  obtain⟨x,o⟩:∃ x:Int,(0:Int)+(i:Int)=x:=⟨_,rfl⟩
  rw[o]
  unfold Ym
  refine ZO (ρ':=[.v (.int n),.v (.lst ((xP k (i+1)).map zv)),.v (.int x)]) (Zz (d:=.lst ((xP k (i+1)).map zv)) ?_) ⟨_,rfl⟩
  have e:fLC (Zd Yn (za (zd yb (zc 2) (eC (.int 1))) (za (zc 0) zh))) b1 yj (x6 (za (zc 3) (za (zc 0) zh))) [some (.int n),some (.lst ((xP k i).map zv)),some (.int x)]=some ((VN i (k-(i+1))).map zv):=by
   have r:Yn [.int (x+1),.int n]=some (Xx (x+1) (k-(i+1))):=by
    rw[zbt (by omega) (by omega) (by omega) (by omega)]
    have q:(n-(x+1)).toNat=k-(i+1):=by omega
    rw[q]
   unfold fLC
   show(Yn [.int (x+1),.int n]).bind _=_
   rw[r]
   show(if lim (Xx (x+1) (k-(i+1))).length=true then _ else none)=_
   rw[j0 (wK (by rw[VQ];omega))]
   unfold VN
   rw[u1c]
   refine Zt (λj:Nat=>D.int (x+1+(j:Int))) _ (List.range (k-(i+1))) λj _=>⟨[some (.int (x+1+(j:Int)))],rfl,rfl,?_⟩
   show some (D.tup [.int x,.int (x+1+(j:Int))])=some (D.tup [.int (i:Int),.int ((i:Int)+1+(j:Int))])
   rw[<-o,Int.zero_add]
  show(((fLC (Zd Yn (za (zd yb (zc 2) (eC (.int 1))) (za (zc 0) zh))) b1 yj (x6 (za (zc 3) (za (zc 0) zh))) [some (.int n),some (.lst ((xP k i).map zv)),some (.int x)]).map D.lst).bind λy=>yb (.lst ((xP k i).map zv)) y)=_
  rw[e]
  show yb (.lst ((xP k i).map zv)) (.lst ((VN i (k-(i+1))).map zv))=_
  rw[Y1 (by rw[t1,t1,ZJ];have:=zbG k f i;omega),ZC,o4]
 .rintro ρ ⟨m,rfl⟩
  refine Yd rfl ?_
  rw[zcl]
def Wn (T:Txt P w K mg base ad):T.Pr 15 1 1 xY:=by
 letI:KK:=⟨K,ad.dk⟩
 refine Yr ?_ X5
 walk_at "p"
abbrev wz :=zS (sIf (yD (tOf (zd vL (zd y0 (zc 1) (eC (.int 2))) (eC (.int 0)))) (tOf (zd vL (zd y0 (zd zhD (zd yH (zc 1) (eC (.int 2))) (zc 3)) (eC (.int 2))) (eC (.int 1))))) (vR false 2 (zc 4)) zG)
  (sIf (yD (tOf (zd vL (zd y0 (zc 1) (eC (.int 2))) (eC (.int 1)))) (tOf (zd ltD (zd y0 (zq 2 zC (za (zc 1) (za (zc 3) zh))) (eC (.int 5))) (zd yb (eC (.int 2)) (zd y0 (zd yH (zc 1) (eC (.int 2))) (eC (.int 2))))))) (vR false 2 (zc 4)) zG)
abbrev vt :=zS (Yj 2 (zW zh))
  (zS (vi (ye (za (zq 1 xY (za (zc 0) zh)) zh)) (v6 2 (yG (yp 3) (yG (yp 4) Ya))) wz)
  (sFz 2 (yI (x6 (za (zc 0) (za (eFn yc (za (zc 2) zh)) zh))))))
def vA:=fnD 5 vt
def zhs {k:Int}(h:0<=k):zhD (.int a) (.int k)=some (.int (a/2^k.toNat)):=by
 show(if decide (0<=k)=true then some (D.int (a/2^k.toNat))else none)=_
 rw[j0 (u8 h)]
def zi0 (i:ρ[1]?=some (some (.int c)))(j:ρ[3]?=some (some (.int x)))(l:0<=x) :
 (∃ b,yD (tOf (zd vL (zd y0 (zc 1) (eC (.int 2))) (eC (.int 0)))) (tOf (zd vL (zd y0 (zd zhD (zd yH (zc 1) (eC (.int 2))) (zc 3)) (eC (.int 2))) (eC (.int 1)))) ρ=some (decide (c%2=0)&&b)) /\
 ∃ b,yD (tOf (zd vL (zd y0 (zc 1) (eC (.int 2))) (eC (.int 1)))) (tOf (zd ltD (zd y0 (zq 2 zC (za (zc 1) (za (zc 3) zh))) (eC (.int 5))) (zd yb (eC (.int 2)) (zd y0 (zd yH (zc 1) (eC (.int 2))) (eC (.int 2)))))) ρ=some (decide (c%2=1)&&b):=by
 have d:zc 1 ρ=some (.int c):=by unfold zc;rw[i];rfl
 have f:zc 3 ρ=some (.int x):=by unfold zc;rw[j];rfl
 have g:yH (.int c) (.int 2)=some (.int (c/2)):=YN (by decide) (by decide)
 have h:∀ k:Int,tOf (zd vL (zd y0 (zc 1) (eC (.int 2))) (eC (.int k))) ρ=some (decide (c%2=k)):=λk=>by
  show(((zc 1 ρ).bind λa=>y0 a (.int 2)).bind λy=>vL y (.int k)).bind asB=_
  rw[d,t4,wc (by decide)]
  rfl
 constructor
 .refine⟨decide (c/2/2^x.toNat%2=1),?_⟩
  have e:tOf (zd vL (zd y0 (zd zhD (zd yH (zc 1) (eC (.int 2))) (zc 3)) (eC (.int 2))) (eC (.int 1))) ρ=some (decide (c/2/2^x.toNat%2=1)):=by
   show(((((zc 1 ρ).bind λa=>yH a (.int 2)).bind λa=>(zc 3 ρ).bind λb=>zhD a b).bind λa=>y0 a (.int 2)).bind λy=>vL y (.int 1)).bind asB=_
   rw[d,f,t4,g,t4,t4,zhs l,t4,wc (by decide)]
   rfl
  unfold yD
  rw[h,t4,e]
  cases decide (c%2=0) <;> rfl
 .refine⟨decide (za0 c x%5<2+c/2%2),?_⟩
  have m:zq 2 zC (za (zc 1) (za (zc 3) zh)) ρ=some (.int (za0 c x)):=by
   unfold zq za
   rw[d,f]
   rfl
  have e:tOf (zd ltD (zd y0 (zq 2 zC (za (zc 1) (za (zc 3) zh))) (eC (.int 5))) (zd yb (eC (.int 2)) (zd y0 (zd yH (zc 1) (eC (.int 2))) (eC (.int 2))))) ρ=some (decide (za0 c x%5<2+c/2%2)):=by
   show((((zq 2 zC (za (zc 1) (za (zc 3) zh)) ρ).bind λa=>y0 a (.int 5)).bind λa=>((((zc 1 ρ).bind λa=>yH a (.int 2)).bind λa=>y0 a (.int 2)).bind λy=>yb (.int 2) y).bind λb=>ltD a b)).bind asB=_
   rw[m,d,t4,t4,wc (by decide),g,t4,t4,wc (by decide)]
   rfl
  unfold yD
  rw[h,t4,e]
  cases decide (c%2=1) <;> rfl
def zj4 {x:Int}{a:y6}{N:YF}(g:0<=x)(r:(a.map zv).length<=1000)(l:N [.v (.int n),.v (.int c),.o (a.map zv),.v (.int x),.v (zv t)])(b:N [.v (.int n),.v (.int c),.o ((a++[t]).map zv),.v (.int x),.v (zv t)]) :
 (wz [.v (.int n),.v (.int c),.o (a.map zv),.v (.int x),.v (zv t)]).w N B C R:=by
 rw[o4]at b
 unfold wz
 obtain⟨⟨b1,p⟩,b2,q⟩:=zi0 (ρ:=visG [.v (.int n),.v (.int c),.o (a.map zv),.v (.int x),.v (zv t)]) (c:=c) (x:=x) rfl rfl g
 obtain⟨_,b3,j⟩:=zi0 (ρ:=visG [.v (.int n),.v (.int c),.o (a.map zv++[zv t]),.v (.int x),.v (zv t)]) (c:=c) (x:=x) rfl rfl g
 have e:=zaK (m:=false) (i:=2) (f:=zc 4) (ρ:=[.v (.int n),.v (.int c),.o (a.map zv),.v (.int x),.v (zv t)]) (ds:=a.map zv) (d:=zv t) rfl rfl r
 refine xj (Ze p (λk=>ZO e ?_) (λ_=>ZO rfl (Ze q (λ_=>ZO e b) (λ_=>ZO rfl l))))
 refine Ze j (λo=>?_) (λ_=>ZO rfl b)
 have h0:c%2=0:=t6 (Bool.and_eq_true_iff.mp k).1
 have h:c%2=1:=t6 (Bool.and_eq_true_iff.mp o).1
 exact absurd (h0.symm.trans h) (by decide)
def zc4 {n:Int}(u:1<=n)(v:n<=8):∃ a,vA [.int n,.int c]=some (wI n a)/\a.Sublist (wg n.toNat):=by
 have j:=zir (m:=5) (g:=vt) (ds:=[.int n,.int c]) (R:=λd=>∃ a:y6,d=wI n a/\a.Sublist (wg n.toNat)) rfl ?_
 .obtain⟨d,e,a,rfl,f⟩:=j
  exact⟨a,e,f⟩
 unfold vt
 refine zJ rfl ?_
 have s:xY [.int n]=some (.lst ((wg n.toNat).map zv)):=by
  show(if decide (0<=n/\n<=8)=true then some (D.lst ((wg n.toNat).map zv))else none)=_
  rw[j0 (u8 ⟨by omega,by omega⟩)]
 have r:=(Vq n.toNat (by omega)).2.2
 refine xj (Vv (ds:=ws 0 ((wg n.toNat).map zv)) (λi ρ=>∃ a k l,ρ=[.v (.int n),.v (.int c),.o (a.map zv),k,l]/\a.Sublist ((wg n.toNat).take i)) ?_ ⟨[],.no,.no,rfl,List.nil_sublist _⟩ ?_ ?_)
 .show((xY [.int n]).bind λd=>(some []:Option zo).map (d::·)).bind _=_
  rw[s]
  rfl
 .rintro i d ρ q ⟨a,k,l,rfl,f⟩
  rw[w4]at q
  obtain⟨w,h,rfl⟩:=t0.mp q
  rw[j7]at h
  obtain⟨t,p,rfl⟩:=t0.mp h
  rw[u0s]
  have b:(wg n.toNat).take (i+1)=(wg n.toNat).take i++[t]:=by rw[List.take_succ,p];rfl
  have o:a.length<=28:=k9 f.length_le (k9 (List.length_take_le _ _) (by have:=(q4.mp p).1;omega))
  refine⟨_,rfl,zj4 (Int.natCast_nonneg i) (by rw[t1];omega) ⟨a,_,_,rfl,?_⟩ ⟨a++[t],_,_,rfl,?_⟩⟩
  .rw[b];exact f.trans (List.sublist_append_left _ _)
  .rw[b];exact f.append (List.Sublist.refl _)
 .rintro ρ ⟨a,k,l,rfl,f⟩
  exact zh9 rfl (Yd rfl ⟨a,rfl,f.trans (List.take_sublist _ _)⟩)
def XD (T:Txt P w K mg base ad):T.Pr 16 2 2 vA:=by
 have:=wR T
 have:=Wn T
 walk_at "p"
abbrev wn (r:vp) :=sIf (zV (tOf (zq 2 r (za (zc 2) (za (zc 3) zh))))) (yI (eC (.bl false))) zG
abbrev yE (r:vp) :=zS (sIf (tOf (zd wv (zc 1) (eC .non))) (yI (zd wv (zc 0) (eC .non))) zG)
  (zS (sIf (tOf (eUn (yq .bool) (zc 1))) (yI (wY (eUn (yq .bool) (zc 0)) (zd vL (zc 0) (zc 1)))) zG)
  (zS (sIf (tOf (eUn (yq .int) (zc 1))) (yI (wY (eUn (yq .int) (zc 0)) (wY (Zl (eUn (yq .bool) (zc 0))) (zd vL (zc 0) (zc 1))))) zG)
  (zS (sIf (tOf (eUn (yq .str) (zc 1))) (yI (wY (eUn (yq .str) (zc 0)) (zd vL (zc 0) (zc 1)))) zG)
  (zS (sIf (yX (tOf (zd neD (eUn (yq .list) (zc 1)) (eUn (yq .list) (zc 0)))) (tOf (zd neD (eUn (yq .tuple) (zc 1)) (eUn (yq .tuple) (zc 0))))) (yI (eC (.bl false))) zG)
  (zS (sIf (tOf (zd neD (eFn xk (za (zc 0) zh)) (eFn xk (za (zc 1) zh)))) (yI (eC (.bl false))) zG)
  (zS (vi (x4 (za (zc 0) (za (zc 1) zh))) (v6 2 (yG (yp 2) (yG (yp 3) Ya))) (wn r))
  (yI (eC (.bl true)))))))))
def vm:vp:=ziW 4 yE 6
def VH (a:zo):zaV a a=a.map λd=>.tup [d,d]:=by
 induction a with
 | nil=>rfl
 | cons d a b=>show D.tup [d,d]::zaV a a=_;rw[b];rfl
def WS {r:vp}(p:∀ a,(d=.tup a\/d=.lst a)->∀ e∈a,r [e,e]=some (.bl true))(s:∀ ns,d≠.scr ns)(j:∀ z t m l,d≠.dct z t m l)(q:∀ w h n,d≠.obj w h n):fnD 4 (yE r) [d,d]=some (.bl true):=by
 cases d with
 | scr ns=>exact absurd rfl (s ns)
 | dct z t m l=>exact absurd rfl (j z t m l)
 | obj w h n=>exact absurd rfl (q w h n)
 | non=>rfl
 | bl b=>cases b <;> rfl
 | int i=>simp[yE,fnD,zS,yI,wq,sIf,yf,ZW,sNo,zG,ZT,Yj,vR,ZR,ZY,vEv,visF,visG,Sl.f,Sl.g,zc,eC,zd,wY,eOr,Zl,eIf,eUn,Yx,x6,yy,zW,za,zh,zq,eFn,fFn,tOf,yD,yX,zV,asB,asI,zO,YG,wJ,yH,y0,YH,xJ,ltD,leD,gtD,geD,Y4,zQ,yk,zM,yh,wv,yi,ixD,xk,yq,isT,eSl,z4,z0,yl,yY,iOf,vi,xv,Zd,Yf,Yn,ye,x4,fLC,yj,yc,wm,yp,v6,yG,Ya,b1,b2]
 | str x=>simp[yE,fnD,zS,yI,wq,sIf,yf,ZW,sNo,zG,ZT,Yj,vR,ZR,ZY,vEv,visF,visG,Sl.f,Sl.g,zc,eC,zd,wY,eOr,Zl,eIf,eUn,Yx,x6,yy,zW,za,zh,zq,eFn,fFn,tOf,yD,yX,zV,asB,asI,zO,YG,wJ,yH,y0,YH,xJ,ltD,leD,gtD,geD,Y4,zQ,yk,zM,yh,wv,yi,ixD,xk,yq,isT,eSl,z4,z0,yl,yY,iOf,vi,xv,Zd,Yf,Yn,ye,x4,fLC,yj,yc,wm,yp,v6,yG,Ya,b1,b2]
 | tup a =>
  refine XO (ρ:=[.v (.tup a),.v (.tup a),.no,.no]) rfl ?_
  unfold yE
  refine zJ rfl (zJ rfl (zJ rfl (zJ rfl (zJ rfl (xj (Ze (c:=false) (by simp[fnD,zS,yI,wq,sIf,yf,ZW,sNo,zG,ZT,Yj,vR,ZR,ZY,vEv,visF,visG,Sl.f,Sl.g,zc,eC,zd,wY,eOr,Zl,eIf,eUn,Yx,x6,yy,zW,za,zh,zq,eFn,fFn,tOf,yD,yX,zV,asB,asI,zO,YG,wJ,yH,y0,YH,xJ,ltD,leD,gtD,geD,Y4,zQ,yk,zM,yh,wv,yi,ixD,xk,yq,isT,eSl,z4,z0,yl,yY,iOf,vi,xv,Zd,Yf,Yn,ye,x4,fLC,yj,yc,wm,yp,v6,yG,Ya,b1,b2]) (λz=>by cases z) λ_=>ZO rfl ?_))))))
  refine xj (Vv (ds:=zaV a a) (λi ρ=>∃ k g,ρ=[.v (.tup a),.v (.tup a),k,g]) (by simp[fnD,zS,yI,wq,sIf,yf,ZW,sNo,zG,ZT,Yj,vR,ZR,ZY,vEv,visF,visG,Sl.f,Sl.g,zc,eC,zd,wY,eOr,Zl,eIf,eUn,Yx,x6,yy,zW,za,zh,zq,eFn,fFn,tOf,yD,yX,zV,asB,asI,zO,YG,wJ,yH,y0,YH,xJ,ltD,leD,gtD,geD,Y4,zQ,yk,zM,yh,wv,yi,ixD,xk,yq,isT,eSl,z4,z0,yl,yY,iOf,vi,xv,Zd,Yf,Yn,ye,x4,fLC,yj,yc,wm,yp,v6,yG,Ya,b1,b2]) ⟨_,_,rfl⟩ ?_ ?_)
  .rintro i d ρ j ⟨k,g,rfl⟩
   rw[VH,j7]at j
   obtain⟨e,o,rfl⟩:=t0.mp j
   have f:=p a (.inl rfl) e (o7 o)
   refine⟨_,rfl,?_⟩
   unfold wn
   refine Ze (c:=false) (by simp[fnD,zS,yI,wq,sIf,yf,ZW,sNo,zG,ZT,Yj,vR,ZR,ZY,vEv,visF,visG,Sl.f,Sl.g,zc,eC,zd,wY,eOr,Zl,eIf,eUn,Yx,x6,yy,zW,za,zh,zq,eFn,fFn,tOf,yD,yX,zV,asB,asI,zO,YG,wJ,yH,y0,YH,xJ,ltD,leD,gtD,geD,Y4,zQ,yk,zM,yh,wv,yi,ixD,xk,yq,isT,eSl,z4,z0,yl,yY,iOf,vi,xv,Zd,Yf,Yn,ye,x4,fLC,yj,yc,wm,yp,v6,yG,Ya,b1,b2,f]) (λz=>by cases z) λ_=>ZO rfl ⟨_,_,rfl⟩
  .rintro ρ ⟨k,g,rfl⟩
   exact Yd rfl rfl
 | lst a =>
  refine XO (ρ:=[.v (.lst a),.v (.lst a),.no,.no]) rfl ?_
  unfold yE
  refine zJ rfl (zJ rfl (zJ rfl (zJ rfl (zJ rfl (xj (Ze (c:=false) (by simp[fnD,zS,yI,wq,sIf,yf,ZW,sNo,zG,ZT,Yj,vR,ZR,ZY,vEv,visF,visG,Sl.f,Sl.g,zc,eC,zd,wY,eOr,Zl,eIf,eUn,Yx,x6,yy,zW,za,zh,zq,eFn,fFn,tOf,yD,yX,zV,asB,asI,zO,YG,wJ,yH,y0,YH,xJ,ltD,leD,gtD,geD,Y4,zQ,yk,zM,yh,wv,yi,ixD,xk,yq,isT,eSl,z4,z0,yl,yY,iOf,vi,xv,Zd,Yf,Yn,ye,x4,fLC,yj,yc,wm,yp,v6,yG,Ya,b1,b2]) (λz=>by cases z) λ_=>ZO rfl ?_))))))
  refine xj (Vv (ds:=zaV a a) (λi ρ=>∃ k g,ρ=[.v (.lst a),.v (.lst a),k,g]) (by simp[fnD,zS,yI,wq,sIf,yf,ZW,sNo,zG,ZT,Yj,vR,ZR,ZY,vEv,visF,visG,Sl.f,Sl.g,zc,eC,zd,wY,eOr,Zl,eIf,eUn,Yx,x6,yy,zW,za,zh,zq,eFn,fFn,tOf,yD,yX,zV,asB,asI,zO,YG,wJ,yH,y0,YH,xJ,ltD,leD,gtD,geD,Y4,zQ,yk,zM,yh,wv,yi,ixD,xk,yq,isT,eSl,z4,z0,yl,yY,iOf,vi,xv,Zd,Yf,Yn,ye,x4,fLC,yj,yc,wm,yp,v6,yG,Ya,b1,b2]) ⟨_,_,rfl⟩ ?_ ?_)
  .rintro i d ρ j ⟨k,g,rfl⟩
   rw[VH,j7]at j
   obtain⟨e,o,rfl⟩:=t0.mp j
   have f:=p a (.inr rfl) e (o7 o)
   refine⟨_,rfl,?_⟩
   unfold wn
   refine Ze (c:=false) (by simp[fnD,zS,yI,wq,sIf,yf,ZW,sNo,zG,ZT,Yj,vR,ZR,ZY,vEv,visF,visG,Sl.f,Sl.g,zc,eC,zd,wY,eOr,Zl,eIf,eUn,Yx,x6,yy,zW,za,zh,zq,eFn,fFn,tOf,yD,yX,zV,asB,asI,zO,YG,wJ,yH,y0,YH,xJ,ltD,leD,gtD,geD,Y4,zQ,yk,zM,yh,wv,yi,ixD,xk,yq,isT,eSl,z4,z0,yl,yY,iOf,vi,xv,Zd,Yf,Yn,ye,x4,fLC,yj,yc,wm,yp,v6,yG,Ya,b1,b2,f]) (λz=>by cases z) λ_=>ZO rfl ⟨_,_,rfl⟩
  .rintro ρ ⟨k,g,rfl⟩
   exact Yd rfl rfl
def zcr:∀ (n:Nat) {d:D},okE n d=true->ziW 4 yE (n+1) [d,d]=some (.bl true):=by
 intro n
 induction n with
 | zero =>
  intro d h
  refine WS (λf a=>?_) (λns e=>by subst e;cases h) (λ_ _ _ _ e=>by subst e;cases h) (λ_ _ _ e=>by subst e;cases h)
  rcases a with rfl | rfl <;> cases h
 | succ n b =>
  intro d h
  refine WS (λf a e c=>?_) (λns e=>by subst e;cases h) (λ_ _ _ _ e=>by subst e;cases h) (λ_ _ _ e=>by subst e;cases h)
  rcases a with rfl | rfl
  .exact b (k7.mp h e c)
  .exact b (k7.mp h e c)
def zfh (h:okE 5 d=true):vm [d,d]=some (.bl true):=zcr 5 h
def Vf (T:Txt P w K mg base ad):T.Pr 19 7 2 vm:=by
 letI:KK:=⟨K,ad.dk⟩
 have R:∀ n,vP P w K mg base CX0 (1+n) (ad.f 19) (ad.e 19) (Rw 19).ps (spD 2 (ziW 4 yE n)):=by
  refine zix (P:=P) (w:=w) (mg:=mg) (base:=base) (k0:=1) (g:=yE) (T.d 19).fn (sc 19) λk r a b A outer s H E c=>?_
  unfold yE wn
  have a:T.Pr 19 (1+k) 2 r:=a
  apply zk <;> walk_at "s"
 exact R 6
def wu (T:Txt P w K mg base ad):vP P w K mg base CX0 1 ad.i_NoText ad.j_NoText ["self","row"] (spI K 1 ["row"] (gI1 "row")):=by
 refine T.fi_NoText.ok zbu (λb H Q E h=>zhq b H Q E h) λc A outer s H b Q E d a=>?_
 exact⟨_,(Yz (zjL (pv 0) (pv 1) rfl)),(zgq a)⟩
abbrev vK :=zS (yf false 7 (zd y0 (zq 2 zC (za (zc 1) (za (zd yb (eC (.int 60)) (zc 6)) zh))) (zd yb (zc 3) (eC (.int 1)))))
  (zS (sIf (tOf (zd vL (zd y0 (zc 1) (eC (.int 2))) (eC (.int 0)))) (zS (yf false 7 (eFn zhf (za (zc 3) (za (zd y0 (zc 5) (zd yb (zc 2) (eC (.int 1)))) zh))))
  (yf false 5 (zd yH (zc 5) (zd yb (zc 2) (eC (.int 1)))))) zG)
  (zS (vR false 4 (zc 7))
  (yf false 3 (zd YG (zc 3) (zc 7)))))
abbrev wU :=zS (yf false 3 (zc 2))
  (zS (Yj 4 (zW zh))
  (zS (yf false 5 (zd yH (zc 1) (eC (.int 2))))
  (zS (xv Yf (za (zc 0) zh) (yp 6) vK)
  (sFz 4 (yI (eFn yc (za (zc 4) zh)))))))
def wV:=fnD 8 wU
def za9 {n mo:Int}(h0:0<=n)(O:n<=8)(A:0<=mo)(P:mo<=1000):∃ ns:zB,wV [.int n,.int c,.int mo]=some (.tup (ns.map .int))/\(ns.length:Int)=n/\(∀ x∈ns,0<=x)/\ns.sum<=mo:=by
 have u:=zir (m:=8) (g:=wU) (ds:=[.int n,.int c,.int mo]) (R:=λd=>∃ ns:zB,d=.tup (ns.map .int)/\(ns.length:Int)=n/\(∀ x∈ns,0<=x)/\ns.sum<=mo) (ρ:=[.v (.int n),.v (.int c),.v (.int mo),.no,.no,.no,.no,.no]) rfl ?_
 .obtain⟨d,e,ns,rfl,h⟩:=u
  exact⟨ns,e,h⟩
 unfold wU
 refine zJ rfl (zJ (ρ':=[.v (.int n),.v (.int c),.v (.int mo),.v (.int mo),.o [],.no,.no,.no]) (by simp[fnD,zS,yI,wq,sIf,yf,ZW,sNo,zG,ZT,Yj,vR,ZR,ZY,vEv,visF,visG,Sl.f,Sl.g,zc,eC,zd,wY,eOr,Zl,eIf,eUn,Yx,x6,yy,zW,za,zh,zq,eFn,fFn,tOf,yD,yX,zV,asB,asI,zO,YG,wJ,yH,y0,YH,xJ,ltD,leD,gtD,geD,Y4,zQ,yk,zM,yh,wv,yi,ixD,xk,yq,isT,eSl,z4,z0,yl,yY,iOf,vi,xv,Zd,Yf,Yn,ye,x4,fLC,yj,yc,wm,yp,v6,yG,Ya,b1,b2,wK]) (zJ (ρ':=[.v (.int n),.v (.int c),.v (.int mo),.v (.int mo),.o [],.v (.int (c/2)),.no,.no]) (by simp[fnD,zS,yI,wq,sIf,yf,ZW,sNo,zG,ZT,Yj,vR,ZR,ZY,vEv,visF,visG,Sl.f,Sl.g,zc,eC,zd,wY,eOr,Zl,eIf,eUn,Yx,x6,yy,zW,za,zh,zq,eFn,fFn,tOf,yD,yX,zV,asB,asI,zO,YG,wJ,yH,y0,YH,xJ,ltD,leD,gtD,geD,Y4,zQ,yk,zM,yh,wv,yi,ixD,xk,yq,isT,eSl,z4,z0,yl,yY,iOf,vi,xv,Zd,Yf,Yn,ye,x4,fLC,yj,yc,wm,yp,v6,yG,Ya,b1,b2]) ?_))
 refine xj (zdo (lo:=0) (c:=n.toNat) (λi ρ=>∃ (a b:Int) (ns:zB) (o p:Sl),ρ=[.v (.int n),.v (.int c),.v (.int mo),.v (.int a),.o (ns.map .int),.v (.int b),o,p]/\ns.length=i/\(∀ x∈ns,0<=x)/\0<=a/\ns.sum+a=mo) (Zk h0 (by omega)) ⟨mo,c/2,[],.no,.no,rfl,rfl,by simp,A,by simp⟩ ?_ ?_)
 .rintro i ρ N ⟨a,b,ns,o,p,rfl,F,l,t,I⟩
  obtain⟨x,G⟩:∃ x:Int,(0:Int)+(i:Int)=x:=⟨_,rfl⟩
  rw[G]
  refine⟨_,rfl,?_⟩
  unfold vK
  obtain⟨q,w⟩:∃ q:Int,za0 c (60+x)=q:=⟨_,rfl⟩
  have C:0<=q%(a+1):=u0Q _ (by omega)
  have K:q%(a+1)<a+1:=u0P _ (by omega)
  have H:zC [.int c,.int (60+x)]=some (.int q):=by rw[<-w];rfl
  have J:decide ((ns.map D.int).length<sizeLine)=true:=u8 (YK (by rw[t1];omega))
  have fin:∀ (j f:Int),0<=j->j<=a->(zS (vR false 4 (zc 7)) (yf false 3 (zd YG (zc 3) (zc 7))) [.v (.int n),.v (.int c),.v (.int mo),.v (.int a),.o (ns.map .int),.v (.int f),.v (.int x),.v (.int j)]).w
   (fun ρ=>∃ (a b:Int) (ns:zB) (o p:Sl),ρ=[.v (.int n),.v (.int c),.v (.int mo),.v (.int a),.o (ns.map .int),.v (.int b),o,p]/\ns.length=i+1/\(∀ x∈ns,0<=x)/\0<=a/\ns.sum+a=mo)
   (λk=>(sFz 4 (yI (eFn yc (za (zc 4) zh))) k).w (λ_=>∃ ns:zB,D.non=.tup (ns.map .int)/\(ns.length:Int)=n/\(∀ x∈ns,0<=x)/\ns.sum<=mo) noP noP λd=>∃ ns:zB,d=.tup (ns.map .int)/\(ns.length:Int)=n/\(∀ x∈ns,0<=x)/\ns.sum<=mo)
   (fun ρ=>∃ (a b:Int) (ns:zB) (o p:Sl),ρ=[.v (.int n),.v (.int c),.v (.int mo),.v (.int a),.o (ns.map .int),.v (.int b),o,p]/\ns.length=i+1/\(∀ x∈ns,0<=x)/\0<=a/\ns.sum+a=mo)
   (λd=>∃ ns:zB,d=.tup (ns.map .int)/\(ns.length:Int)=n/\(∀ x∈ns,0<=x)/\ns.sum<=mo):=λj f L g2=>by
   refine zJ (ρ':=[.v (.int n),.v (.int c),.v (.int mo),.v (.int a),.o ((ns++[j]).map .int),.v (.int f),.v (.int x),.v (.int j)]) ?_ (ZO rfl ⟨a-j,f,ns++[j],_,_,rfl,?_,?_,by omega,?_⟩)
   .show(match (if decide ((ns.map D.int).length<sizeLine)=true then some ([.v (.int n),.v (.int c),.v (.int mo),.v (.int a),.o (ns.map .int++[.int j]),.v (.int f),.v (.int x),.v (.int j)]:SE)else none)with | some k=>Ctl.nx k | none=>Ctl.no)=_
    rw[j0 J,o4]
    rfl
   .rw[q5,F];rfl
   .intro y s
    rcases k6.mp s with s | s
    .exact l y s
    .rw[t2.mp s];exact L
   .rw[List.sum_append]
    simp
    omega
  have B:(0:Int)<a+1:=by omega
  refine zJ (ρ':=[.v (.int n),.v (.int c),.v (.int mo),.v (.int a),.o (ns.map .int),.v (.int b),.v (.int x),.v (.int (q%(a+1)))]) (by simp[fnD,zS,yI,wq,sIf,yf,ZW,sNo,zG,ZT,Yj,vR,ZR,ZY,vEv,visF,visG,Sl.f,Sl.g,zc,eC,zd,wY,eOr,Zl,eIf,eUn,Yx,x6,yy,zW,za,zh,zq,eFn,fFn,tOf,yD,yX,zV,asB,asI,zO,YG,wJ,yH,y0,YH,xJ,ltD,leD,gtD,geD,Y4,zQ,yk,zM,yh,wv,yi,ixD,xk,yq,isT,eSl,z4,z0,yl,yY,iOf,vi,xv,Zd,Yf,Yn,ye,x4,fLC,yj,yc,wm,yp,v6,yG,Ya,b1,b2,H,B]) ?_
  by_cases E:c%2=0
  .have r:(0:Int)<mo+1:=by omega
   have v:mo+1<1606938044258990275541962092341162602522202993782792835301376:=by omega
   refine xj (Ze (c:=true) (by simp[fnD,zS,yI,wq,sIf,yf,ZW,sNo,zG,ZT,Yj,vR,ZR,ZY,vEv,visF,visG,Sl.f,Sl.g,zc,eC,zd,wY,eOr,Zl,eIf,eUn,Yx,x6,yy,zW,za,zh,zq,eFn,fFn,tOf,yD,yX,zV,asB,asI,zO,YG,wJ,yH,y0,YH,xJ,ltD,leD,gtD,geD,Y4,zQ,yk,zM,yh,wv,yi,ixD,xk,yq,isT,eSl,z4,z0,yl,yY,iOf,vi,xv,Zd,Yf,Yn,ye,x4,fLC,yj,yc,wm,yp,v6,yG,Ya,b1,b2,E]) (λ_=>?_) (λz=>by cases z))
   refine zJ (ρ':=[.v (.int n),.v (.int c),.v (.int mo),.v (.int a),.o (ns.map .int),.v (.int b),.v (.int x),.v (.int (if b%(mo+1)<a then b%(mo+1)else a))]) (by simp[fnD,zS,yI,wq,sIf,yf,ZW,sNo,zG,ZT,Yj,vR,ZR,ZY,vEv,visF,visG,Sl.f,Sl.g,zc,eC,zd,wY,eOr,Zl,eIf,eUn,Yx,x6,yy,zW,za,zh,zq,eFn,fFn,tOf,yD,yX,zV,asB,asI,zO,YG,wJ,yH,y0,YH,xJ,ltD,leD,gtD,geD,Y4,zQ,yk,zM,yh,wv,yi,ixD,xk,yq,isT,eSl,z4,z0,yl,yY,iOf,vi,xv,Zd,Yf,Yn,ye,x4,fLC,yj,yc,wm,yp,v6,yG,Ya,b1,b2,r,zhf]) (ZO (ρ':=[.v (.int n),.v (.int c),.v (.int mo),.v (.int a),.o (ns.map .int),.v (.int (b/(mo+1))),.v (.int x),.v (.int (if b%(mo+1)<a then b%(mo+1)else a))]) (by simp[fnD,zS,yI,wq,sIf,yf,ZW,sNo,zG,ZT,Yj,vR,ZR,ZY,vEv,visF,visG,Sl.f,Sl.g,zc,eC,zd,wY,eOr,Zl,eIf,eUn,Yx,x6,yy,zW,za,zh,zq,eFn,fFn,tOf,yD,yX,zV,asB,asI,zO,YG,wJ,yH,y0,YH,xJ,ltD,leD,gtD,geD,Y4,zQ,yk,zM,yh,wv,yi,ixD,xk,yq,isT,eSl,z4,z0,yl,yY,iOf,vi,xv,Zd,Yf,Yn,ye,x4,fLC,yj,yc,wm,yp,v6,yG,Ya,b1,b2,r,v]) ?_)
   have M:0<=b%(mo+1):=u0Q _ (by omega)
   exact fin _ _ (by split <;> omega) (by split <;> omega)
  .refine xj (Ze (c:=false) (by simp[fnD,zS,yI,wq,sIf,yf,ZW,sNo,zG,ZT,Yj,vR,ZR,ZY,vEv,visF,visG,Sl.f,Sl.g,zc,eC,zd,wY,eOr,Zl,eIf,eUn,Yx,x6,yy,zW,za,zh,zq,eFn,fFn,tOf,yD,yX,zV,asB,asI,zO,YG,wJ,yH,y0,YH,xJ,ltD,leD,gtD,geD,Y4,zQ,yk,zM,yh,wv,yi,ixD,xk,yq,isT,eSl,z4,z0,yl,yY,iOf,vi,xv,Zd,Yf,Yn,ye,x4,fLC,yj,yc,wm,yp,v6,yG,Ya,b1,b2,E]) (λz=>by cases z) (λ_=>ZO rfl ?_))
   exact fin _ _ C (by omega)
 .rintro ρ ⟨a,b,ns,o,p,rfl,F,l,t,I⟩
  refine zh9 rfl (Yd rfl ⟨ns,rfl,by omega,l,by omega⟩)
def Xb (T:Txt P w K mg base ad):T.Pr 17 2 3 wV:=by
 have:=wR T
 walk_at "p"
def VU {a b:Str}(h:a.cps.toList=b.cps.toList):a=b:=by
 cases a;cases b
 congr 1
 exact Array.ext' h
def gl (c:Nat):zad->Xj
 | []=>[]
 | [x]=>x
 | x::y::r=>x++c::gl c (y::r)
def Xk (c:Nat):∀ A:zr,(Str.join ⟨#[c]⟩ A).cps.toList=gl c (A.map λa=>a.cps.toList):=by
 intro A
 induction A with
 | nil=>rfl
 | cons x r b =>
  cases r with
  | nil=>rfl
  | cons y r =>
   show((x++⟨#[c]⟩++Str.join ⟨#[c]⟩ (y::r)).cps).toList=x.cps.toList++c::gl c ((y::r).map λa=>a.cps.toList)
   rw[<-b,u1b,u1b,u0u,u0u,u05]
   rfl
def zeL {c:Nat}:∀ {a b X Y:Xj},c∉a->c∉b->a++c::X=b++c::Y->a=b/\X=Y:=by
 intro a
 induction a with
 | nil =>
  intro b X Y _ d e
  cases b with
  | nil=>exact⟨rfl,(u0R e).2⟩
  | cons y b=>exact absurd ((u0R e).1 ▸ p9 ..) d
 | cons x a l =>
  intro b X Y f d e
  cases b with
  | nil=>exact absurd ((u0R e).1 ▸ p9 ..) f
  | cons y b =>
   obtain⟨j,k⟩:=u0R e
   obtain⟨g,i⟩:=l (λh=>f (.tail _ h)) (λh=>d (.tail _ h)) k
   exact⟨by rw[j,g],i⟩
def zjd {c:Nat}:∀ {A B:zad},A≠[]->B≠[]->(∀ a∈A,c∉a)->(∀ b∈B,c∉b)->gl c A=gl c B->A=B:=by
 have d:∀ {a:Xj} {y:Xj} {r:zad} {X:Xj},c∉a->a=y++c::X->False:=λg e=>g (by rw[e];exact j9 _ (.head _))
 intro A
 induction A with
 | nil=>intro B h;exact absurd rfl h
 | cons x r n =>
  intro B _ m f i e
  cases B with
  | nil=>exact absurd rfl m
  | cons y q =>
   cases r with
   | nil =>
    cases q with
    | nil=>exact i3 (λz=>[z]) e
    | cons o q=>exact(d (r:=[]) (f x (.head _)) e).elim
   | cons p r =>
    cases q with
    | nil=>exact(d (r:=[]) (i y (.head _)) e.symm).elim
    | cons o q =>
     obtain⟨j,l⟩:=zeL (f x (.head _)) (i y (.head _)) e
     rw[j,n (List.cons_ne_nil _ _) (List.cons_ne_nil _ _) (λa g=>f a (.tail _ g)) (λb k=>i b (.tail _ k)) l]
def XX {c:Nat}(l:A≠[])(o:∀ a∈A,c∉a.cps.toList):Txt.split (Txt.join ⟨#[c]⟩ A) ⟨#[c]⟩=A:=by
 have p:Txt.join ⟨#[c]⟩ A=Str.join ⟨#[c]⟩ A:=f6 _ _
 rw[p]
 have j:=StrLaws.join_split (Str.join ⟨#[c]⟩ A) ⟨#[c]⟩
 have k:=StrLaws.split_free (Str.join ⟨#[c]⟩ A) c
 have d:=PyProof.Rows.split_pos (Str.join ⟨#[c]⟩ A) ⟨#[c]⟩
 generalize Txt.split (Str.join ⟨#[c]⟩ A) ⟨#[c]⟩=S at j k d
 have i:=i3 (λa:Str=>a.cps.toList) j
 rw[Xk,Xk]at i
 have g:∀ {A B:zr},(A.map λa=>a.cps.toList)=B.map (λa=>a.cps.toList)->A=B:=λ{A}=>by
  induction A with
  | nil=>intro B h;cases B with | nil=>rfl | cons b B=>cases h
  | cons a A q =>
   intro B h
   cases B with
   | nil=>cases h
   | cons b B =>
    obtain⟨m,n⟩:=u0R h
    rw[VU m,q n]
 refine g (zjd (λz=>?_) (λz=>l (List.map_eq_nil_iff.mp z)) (λa f=>?_) (λa f=>?_) i)
 .rw[List.map_eq_nil_iff.mp z]at d
  exact absurd d (by decide)
 .obtain⟨x,e,rfl⟩:=i4.mp f
  exact k x e
 .obtain⟨x,e,rfl⟩:=i4.mp f
  exact o x e
def Wz:Str.ofString " "=⟨#[32]⟩:=by decide
def zgo:Str.ofString "\n"=⟨#[10]⟩:=by decide
def nS (n:Int):Str:=Str.ofString (toString n)
def okS (n:Nat):Bool:=(nS (n:Int)).cps.toList.all (λc=>decide (48<=c)&&decide (c<=57))&&decide ((nS (n:Int)).length<=3)
def zho:(List.range 301).all okS=true:=by decide +kernel
def zby {n:Int}(h0:0<=n)(b:n<=300):(∀ c∈(nS n).cps.toList,48<=c/\c<=57)/\(nS n).length<=3:=by
 have h:=k7.mp zho n.toNat (i8.mpr (by omega))
 unfold okS at h
 rw[show((n.toNat:Nat):Int)=n by omega,t5]at h
 refine⟨λc a=>?_,t6 h.2⟩
 have:=k7.mp h.1 c a
 rw[t5]at this
 exact⟨t6 this.1,t6 this.2⟩
def YC (w:Str) (ns:zB):Str:=Txt.join (Str.ofString " ") (w::ns.map nS)
structure YO (w:Str):Prop where
 len:w.length<=4
 asc:∀ c∈w.cps.toList,97<=c/\c<=122
structure vS (ns:zB):Prop where
 few:ns.length<=8
 rng:∀ n∈ns,0<=n/\n<=300
def Vg {w:Str}{ns:zB}(hw:YO w)(c:vS ns):∀ y∈w::ns.map nS,y.length<=4:=λy b=>by
 rcases q3.mp b with rfl | b
 .exact hw.len
 .obtain⟨n,a,rfl⟩:=i4.mp b
  have:=(zby (c.rng n a).1 (c.rng n a).2).2
  omega
def Wc {w:Str}(hw:YO w)(a:vS ns):(YC w ns).length<=45:=by
 have b:YC w ns=Str.join (Str.ofString " ") (w::ns.map nS):=f6 _ _
 have d:=u02 (Str.ofString " ") (w::ns.map nS)
 have e:=u1X (w::ns.map nS) (Vg hw a)
 have f:(w::ns.map nS).length<=9:=by rw[j8,t1];have:=a.few;omega
 have c:(Str.ofString " ").length=1:=by decide
 rw[b]
 rw[c]at d
 omega
def Zv {w:Str}(hw:YO w)(i:vS ns):∀ c∈(YC w ns).cps.toList,32<=c/\c<=122:=by
 have j:YC w ns=Str.join (Str.ofString " ") (w::ns.map nS):=f6 _ _
 rw[j,Wz,Xk]
 have f:∀ A:zad,(∀ a∈A,∀ c∈a,32<=c/\c<=122)->∀ c∈gl 32 A,32<=c/\c<=122:=λA=>by
  induction A with
  | nil=>intro _ c b;cases b
  | cons x r k =>
   intro h c b
   cases r with
   | nil=>exact h x (.head _) c b
   | cons y r =>
    rcases k6.mp (show c∈x++32::gl 32 (y::r)from b)with b | b
    .exact h x (.head _) c b
    .rcases q3.mp b with rfl | b
     .decide
     .exact k (λa g=>h a (.tail _ g)) c b
 refine f _ λa g c b=>?_
 obtain⟨s,e,rfl⟩:=i4.mp g
 rcases q3.mp e with rfl | e
 .have:=hw.asc c b
  omega
 .obtain⟨n,d,rfl⟩:=i4.mp e
  have:=(zby (i.rng n d).1 (i.rng n d).2).1 c b
  omega
def V3 {s:Str}{a:zr}{B:Nat}(b:∀ y∈a,y.length<=B)(h:a.length*B+a.length*s.length<=16777216):JoinOk s a=true:=by
 unfold JoinOk
 rw[StrLaws.joinFits b h]
 rfl
def zec {w:Str} {ns:zB} (hw:YO w) (a:vS ns):WI (.str (Str.ofString " ")) (.lst ((w::ns.map nS).map .str))=some (.str (YC w ns)):=by
 show(ZL ((w::ns.map nS).map .str)).bind _=_
 rw[Zx,t4,j0 (V3 (Vg hw a) ?_)]
 .rfl
 .have c:(w::ns.map nS).length<=9:=by rw[j8,t1];have:=a.few;omega
  have b:(Str.ofString " ").length=1:=by decide
  rw[b]
  omega
def zgh:YO (Str.ofString "web"):=⟨by decide,by decide⟩
def zgQ:YO (Str.ofString "tie"):=⟨by decide,by decide⟩
def za3:YO (Str.ofString "heap"):=⟨by decide,by decide⟩
def WB {n:Int}(h0:0<=n)(a:n<=300):zae [.int n]=some (.str (nS n)):=by
 show(if 0<=n/\n<1000000 then _ else _)=_
 rw[j0 ⟨h0,by omega⟩]
 rfl
def zg3 {ns:zB}{i:yT}(b:i ρ=some (ns.map .int))(a:vS ns):fLC i b1 yj (eFn zae (za (zc 0) zh)) ρ=some ((ns.map nS).map .str):=by
 unfold fLC
 rw[b,t4,j0 (wK (by rw[t1];have:=a.few;omega)),u1c]
 refine Zt D.int (D.str∘nS) ns λn h=>⟨[some (.int n)],rfl,rfl,?_⟩
 exact vd (ds:=[.int n]) rfl (WB (a.rng n h).1 (a.rng n h).2)
def zbT {a:xC}{f:ya}{g:yT}(b:f ρ=some c)(h:g ρ=some [d])(e:a c d=z):Vn a f g ρ=z:=by
 unfold Vn
 rw[b,t4,h]
 exact e
def vc (c:Nat):Bool:=decide (48<=c)&&decide (c<=57)
structure Asc (x:Str):Prop where
 c:∀ c∈x.cps.toList,32<=c/\c<=122
 l:x.length<=400
def chkD (c:Nat):Bool:=match zfI (.str ⟨#[c]⟩) (.str "0123456789"),v0 (.str ⟨#[c]⟩) (.str "0123456789") with
 | some (.bl a),some (.bl b)=>(a == vc c)&&(b == !vc c)
 | _,_=>false
def zd0:(List.range 123).all chkD=true:=by kernel_rfl
def zfM {c:Nat} (h:c<=122):zfI (.str ⟨#[c]⟩) (.str "0123456789")=some (.bl (vc c))/\v0 (.str ⟨#[c]⟩) (.str "0123456789")=some (.bl (!vc c)):=by
 have h:=k7.mp zd0 c (i8.mpr (by omega))
 unfold chkD at h
 split at h
 .rename_i a b d e
  rw[t5,u0z,u0z]at h
  rw[d,e,h.1,h.2]
  exact⟨rfl,rfl⟩
 .cases h
def Asc.signs {x:Str}(A:Asc x):signs (.str x)=some (x.cps.toList.map λc=>.str ⟨#[c]⟩):=by
 have h:x.cps.all (· < 128)=true:=by
  rw[Array.all_eq_true]
  intro i a
  have:=A.c x.cps[i] (by rw[u0k];exact Array.getElem_mem a)
  exact u8 (by omega)
 show(if x.cps.all (· < 128)=true then some (x.cps.toList.map λc=>D.str ⟨#[c]⟩)else none)=_
 rw[j0 h]
def Asc.len {x:Str}(A:Asc x):Zr [.str x]=some (.int (x.length:Int)):=by
 show(if x.length<=100000 then some (D.int (x.length:Int))else none)=_
 rw[j0 (by have:=A.l;omega)]
def wS (x:Str):x.cps.toList.length=x.length:=h8
def zbM (w:Str):Bool:=decide (1<=w.length)&&decide (w.length<=3)&&w.cps.toList.all vc
def zb8 (w:Str):Bool:=decide (w.cps.toList.head?=some 48)&&decide (1<w.length)
def nwF (w:Str):yu:=if zbM w=true/\zb8 w=false then intText? w else none
def chk1 (a:Nat):Bool:=match intText? ⟨#[48+a]⟩ with
 | some n=>decide (0<=n)&&decide (n<=999)
 | none=>false
def chk2 (a b:Nat):Bool:=match intText? ⟨#[48+a,48+b]⟩ with
 | some n=>decide (0<=n)&&decide (n<=999)
 | none=>false
def chk3 (a b c:Nat):Bool:=match intText? ⟨#[48+a,48+b,48+c]⟩ with
 | some n=>decide (0<=n)&&decide (n<=999)
 | none=>false
def zg2:((List.range 10).all λa=>chk1 a&&(List.range 10).all λb=>chk2 a b&&(List.range 10).all λc=>chk3 a b c)=true:=by kernel_rfl
def zdE {w:Str}(h:zbM w=true):∃ n,intText? w=some n/\0<=n/\n<=999:=by
 unfold zbM at h
 rw[t5,t5]at h
 obtain⟨⟨f,g⟩,s⟩:=h
 have f:=t6 f
 have g:=t6 g
 rw[<-wS]at f g
 have d:∀ c∈w.cps.toList,∃ k,k<10/\c=48+k:=λc u=>by
  have:=k7.mp s c u
  unfold vc at this
  rw[t5]at this
  have a:=t6 this.1
  have b:=t6 this.2
  exact⟨c-48,by omega,by omega⟩
 have mk:∀ {l:Xj},w.cps.toList=l->w=⟨l.toArray⟩:=λ{l} e=>VU (by rw[e])
 have m:=k7.mp zg2
 have fin:∀ {y:Str},(match intText? y with | some n=>decide (0<=n)&&decide (n<=999) | none=>false)=true->∃ n,intText? y=some n/\0<=n/\n<=999:=λ{y} h=>by
  split at h
  .rename_i n e
   rw[t5]at h
   exact⟨n,e,t6 h.1,t6 h.2⟩
  .cases h
 obtain⟨l,r⟩:∃ l,w.cps.toList=l:=⟨_,rfl⟩
 rw[r]at f g d
 rw[mk r]
 match l,f,g,d with
 | [a],_,_,d =>
  obtain⟨i,o,rfl⟩:=d a (.head _)
  have q:=m i (i8.mpr o)
  rw[t5]at q
  exact fin q.1
 | [a,b],_,_,d =>
  obtain⟨i,o,rfl⟩:=d a (.head _)
  obtain⟨j,p,rfl⟩:=d b (.tail _ (.head _))
  have q:=m i (i8.mpr o)
  rw[t5]at q
  have q:=k7.mp q.2 j (i8.mpr p)
  rw[t5]at q
  exact fin q.1
 | [a,b,c],_,_,d =>
  obtain⟨i,o,rfl⟩:=d a (.head _)
  obtain⟨j,p,rfl⟩:=d b (.tail _ (.head _))
  obtain⟨k,t,rfl⟩:=d c (.tail _ (.tail _ (.head _)))
  have q:=m i (i8.mpr o)
  rw[t5]at q
  have q:=k7.mp q.2 j (i8.mpr p)
  rw[t5]at q
  exact fin (k7.mp q.2 k (i8.mpr t))
 | [],f,_,_=>exact absurd f (by decide)
 | _::_::_::_::_,_,g,_=>exact absurd g (by simp only[j8];omega)
def Asc.int {w:Str}(A:Asc w)(h:zbM w=true):∃ n,intText? w=some n/\zbw [.str w]=some (.int n)/\0<=n/\n<=999:=by
 obtain⟨n,e,h0,a⟩:=zdE h
 refine⟨n,e,?_,h0,a⟩
 show(if w.length<=640 then (intText? w).map D.int else none)=_
 rw[j0 (by have:=A.l;omega),e]
 rfl
def Asc.first {w:Str}(A:Asc w)(h:1<=w.length):∃ c,w.cps.toList.head?=some c/\zd5 (.str w) (.int 0)=some (.str ⟨#[c]⟩):=by
 rw[<-wS]at h
 cases e:w.cps.toList with
 | nil=>rw[e]at h;exact absurd h (by decide)
 | cons c r =>
  refine⟨c,rfl,?_⟩
  show(if w.length<=100000 then (L2.atI w.cps.toList 0).map (λc=>D.str ⟨#[c]⟩)else none)=_
  rw[j0 (by have:=A.l;omega),e,Z7 (xs:=c::r) (i:=0) (x:=c) (by decide) rfl]
  rfl
def zgc (c:Nat):decide ((⟨#[c]⟩:Str)=Str.ofString "0")=decide (some c=some 48):=by
 have e:Str.ofString "0"=⟨#[48]⟩:=by decide
 rw[e]
 by_cases h:c=48
 .subst h
  rfl
 .rw[u7 (λz=>h (by injection z with z;injection z with z;injection z)),u7 (λz=>h (o6 z))]
def zdN:yu->D
 | some n=>.int n
 | none=>.non
abbrev xm :=zS (sIf (yX (zV (tOf (yl leD leD (eC (.int 1)) (eFn Zr (za (zc 0) zh)) (eC (.int 3))))) (zV (tOf (eFn zfN (za (yy (fLC (iTx (zc 0)) b1 yj (zd zfI (zc 0) (eC (.str "0123456789"))))) zh))))) (yI (eC .non)) zG)
  (zS (sIf (yD (tOf (zd gtD (eFn Zr (za (zc 0) zh)) (eC (.int 1)))) (tOf (zd vL (zd zd5 (zc 0) (eC (.int 0))) (eC (.str "0"))))) (yI (eC .non)) zG)
  (yI (eFn zbw (za (zc 0) zh))))
def wd:=fnD 1 xm
def zh8 {w:Str} (A:Asc w) (h:zc 0 ρ=some (.str w)):eFn zfN (za (yy (fLC (iTx (zc 0)) b1 yj (zd zfI (zc 0) (eC (.str "0123456789"))))) zh) ρ=some (.bl (w.cps.toList.all vc)):=by
 have a:fLC (iTx (zc 0)) b1 yj (zd zfI (zc 0) (eC (.str "0123456789"))) ρ=some (w.cps.toList.map λc=>.bl (vc c)):=by
  unfold fLC iTx
  rw[h,t4,A.signs,t4,j0 (wK (by rw[t1,wS];have:=A.l;omega))]
  exact Zt (λc=>D.str ⟨#[c]⟩) (λc=>D.bl (vc c)) _ λc b=>⟨[some (.str ⟨#[c]⟩)],rfl,rfl,zm (x:=.str ⟨#[c]⟩) rfl rfl (zfM (A.c c b).2).1⟩
 exact vd (ds:=[.lst (w.cps.toList.map λc=>.bl (vc c))]) (zA (vH a) ym) (zaQ _ _)
def zdk {w:Str}(A:Asc w)(h:zc 0 ρ=some (.str w)):yl leD leD (eC (.int 1)) (eFn Zr (za (zc 0) zh)) (eC (.int 3)) ρ=some (.bl (decide (1<=w.length)&&decide (w.length<=3))):=by
 unfold yl
 rw[show eC (.int 1) ρ=some (.int 1)from rfl,t4,vd (ds:=[.str w]) (zA h ym) A.len,t4]
 show((some (D.bl (decide ((1:Int)<=(w.length:Int))))).bind asB).bind _=_
 by_cases c:1<=w.length
 .rw[u8 (show(1:Int)<=(w.length:Int) by omega),u8 c]
  show some (D.bl (decide ((w.length:Int)<=3)))=_
  by_cases d:w.length<=3
  .rw[u8 (show(w.length:Int)<=3 by omega),u8 d]
   rfl
  .rw[u7 (show ¬ (w.length:Int)<=3 by omega),u7 d]
   rfl
 .rw[u7 (show ¬ (1:Int)<=(w.length:Int) by omega),u7 c]
  rfl
def zcM {w:Str}(A:Asc w){k:Nat}(h:zc i ρ=some (.str w)):zd gtD (eFn Zr (za (zc i) zh)) (eC (.int (k:Nat))) ρ=some (.bl (decide (k<w.length))):=by
 refine zm (x:=.int (w.length:Int)) (y:=.int (k:Nat)) (vd (ds:=[.str w]) (zA h ym) A.len) rfl ?_
 show some (D.bl (decide (((k:Nat):Int)<(w.length:Int))))=_
 by_cases c:k<w.length
 .rw[u8 (show((k:Nat):Int)<(w.length:Int) by omega),u8 c]
 .rw[u7 (show ¬ ((k:Nat):Int)<(w.length:Int) by omega),u7 c]
def zaE {w:Str} (A:Asc w) (d:1<=w.length) (h:zc i ρ=some (.str w)):zd vL (zd zd5 (zc i) (eC (.int 0))) (eC (.str "0")) ρ=some (.bl (decide (w.cps.toList.head?=some 48))):=by
 obtain⟨c,a,b⟩:=A.first d
 refine zm (x:=.str ⟨#[c]⟩) (y:=.str "0") (zm (x:=.str w) (y:=.int 0) h rfl b) rfl ?_
 rw[zM,a,zgc]
def zcN {w:Str}(A:Asc w):wd [.str w]=some (zdN (nwF w)):=by
 refine XO (ρ:=[.v (.str w)]) rfl ?_
 unfold xm
 have d:yX (zV (tOf (yl leD leD (eC (.int 1)) (eFn Zr (za (zc 0) zh)) (eC (.int 3))))) (zV (tOf (eFn zfN (za (yy (fLC (iTx (zc 0)) b1 yj (zd zfI (zc 0) (eC (.str "0123456789"))))) zh)))) (visG [.v (.str w)])=some (!zbM w):=by
  rw[W1 (Z9 (yP (zdk A rfl))) (Z9 (yP (zh8 A rfl)))]
  unfold zbM
  cases decide (1<=w.length) <;> cases decide (w.length<=3) <;> cases w.cps.toList.all vc <;> rfl
 cases a:zbM w with
 | false =>
  rw[a]at d
  refine xj (Ze (c:=true) d (λ_=>Yd rfl ?_) (λz=>by cases z))
  unfold nwF
  rw[j6 (by rw[a];exact λz=>u9 z.1)]
  rfl
 | true =>
  rw[a]at d
  refine xj (Ze (c:=false) d (λz=>by cases z) (λ_=>ZO rfl ?_))
  have h:1<=w.length:=by
   unfold zbM at a
   rw[t5,t5]at a
   exact t6 a.1.1
  have b:yD (tOf (zd gtD (eFn Zr (za (zc 0) zh)) (eC (.int 1)))) (tOf (zd vL (zd zd5 (zc 0) (eC (.int 0))) (eC (.str "0")))) (visG [.v (.str w)])=some (zb8 w):=by
   refine(zfC (yP (zcM (k:=1) (i:=0) (ρ:=visG [.v (.str w)]) A rfl)) (yP (zaE (i:=0) (ρ:=visG [.v (.str w)]) A h rfl))).trans ?_
   rw[Bool.and_comm]
   rfl
  obtain⟨n,g,f,_,_⟩:=A.int a
  cases e:zb8 w with
  | true =>
   rw[e]at b
   refine xj (Ze (c:=true) b (λ_=>Yd rfl ?_) (λz=>by cases z))
   unfold nwF
   rw[j6 (by rw[e];exact λz=>Bool.noConfusion z.2)]
   rfl
  | false =>
   rw[e]at b
   refine xj (Ze (c:=false) b (λz=>by cases z) (λ_=>ZO rfl ?_))
   refine Yd (xQ (vd (ds:=[.str w]) rfl f)) ?_
   unfold nwF
   rw[j0 ⟨a,e⟩,g]
   rfl
def xx {g h:zU}(e:g ρ=.nx a):zS g h ρ=h a:=by unfold zS;rw[e]
def xL {t:vO}{g h:zU}(e:t (visG ρ)=some false):sIf t g h ρ=h ρ:=by unfold sIf;rw[e]
def xF {t:vO}{g:zU}(e:t (visG ρ)=some true):sIf t g h ρ=g ρ:=by unfold sIf;rw[e]
def wt (r:Str):zr:=Txt.split r (Str.ofString " ")
def hdW (r:Str):Str:=((wt r).head?).getD Str.empty
def tlW (r:Str):zr:=(wt r).drop 1
def zjM:∀ {A:zad} {a:Xj},a∈A->(∀ c∈a,c∈gl k A)/\a.length<=(gl k A).length:=by
 intro A
 induction A with
 | nil=>intro a h;cases h
 | cons x r f =>
  intro a h
  cases r with
  | nil =>
   rw[t2.mp h]
   exact⟨λc b=>b,t7 _⟩
  | cons y r =>
   rcases q3.mp h with e | h
   .rw[e]
    show(∀ c∈x,c∈x++k::gl k (y::r))/\x.length<=(x++k::gl k (y::r)).length
    exact⟨λc b=>u0I _ b,by rw[q5];omega⟩
   .obtain⟨d,g⟩:=f h
    show(∀ c∈a,c∈x++k::gl k (y::r))/\a.length<=(x++k::gl k (y::r)).length
    exact⟨λc b=>j9 _ (.tail _ (d c b)),by rw[q5,j8];omega⟩
def ziL:∀ {A:zad},A.length<=(gl k A).length+1:=by
 intro A
 induction A with
 | nil=>exact u07 _
 | cons x r a =>
  cases r with
  | nil=>exact Nat.le_add_left _ _
  | cons y r =>
   show(y::r).length+1<=(x++k::gl k (y::r)).length+1
   have e:(k::gl k (y::r)).length=(gl k (y::r)).length+1:=rfl
   rw[q5,e]
   omega
def zdS {x:Str}{c:Nat}{B:zr}(e:Str.join ⟨#[c]⟩ B=x):B.length<=x.length+1/\∀ y∈B,(∀ k∈y.cps.toList,k∈x.cps.toList)/\y.length<=x.length:=by
 have b:=i3 (λa:Str=>a.cps.toList) e
 rw[Xk]at b
 refine⟨?_,λy d=>?_⟩
 .have:=ziL (k:=c) (A:=B.map λa=>a.cps.toList)
  rw[b,t1,wS]at this
  exact this
 .have:=zjM (k:=c) (List.mem_map_of_mem (f:=λa:Str=>a.cps.toList) d)
  rw[b,wS,wS]at this
  exact this
def zeE {x:Str}{c:Nat}:(Txt.split x ⟨#[c]⟩).length<=x.length+1/\∀ y∈Txt.split x ⟨#[c]⟩,(∀ k∈y.cps.toList,k∈x.cps.toList)/\y.length<=x.length:=zdS (StrLaws.join_split x ⟨#[c]⟩)
def Vs (A:Asc r):(∃ h,wt r=h::tlW r/\hdW r=h)/\(wt r).length<=401/\∀ y∈wt r,Asc y:=by
 have g:=A.l
 refine⟨?_,?_⟩
 .have f:=PyProof.Rows.split_pos r (Str.ofString " ")
  unfold hdW tlW
  have b:0<(wt r).length:=f
  cases e:wt r with
  | nil=>rw[e]at b;exact absurd b (by decide)
  | cons h t=>exact⟨h,rfl,rfl⟩
 .unfold wt
  rw[Wz]
  obtain⟨j,d⟩:=zeE (x:=r) (c:=32)
  exact⟨by omega,λy a=>⟨λk i=>A.c k ((d y a).1 k i),k9 (d y a).2 g⟩⟩
def ziZ (A:Asc r):yV (.str r) (.str (Str.ofString " "))=some ((wt r).map .str):=by
 show(if ((Str.ofString " ").length == 0)=false/\r.length<=100000/\(Txt.split r (Str.ofString " ")).length<=100000 then some ((Txt.split r (Str.ofString " ")).map D.str)else none)=_
 exact j0 ⟨by decide,by have:=A.l;omega,k9 (Vs A).2.1 (by decide)⟩
def X7 {f:ya} (A:Asc r) (h:f ρ=some (.str r)):yy (wT yV f (za (eC (.str " ")) zh)) ρ=some (.lst ((wt r).map .str)):=by
 refine vH ?_
 unfold wT
 rw[h,t4]
 exact ziZ A
def zaR {f:ya}{ds:zo}(h:f ρ=some (.lst ds)):eSl slD f (z0 (eC (.int 1))) z4 ρ=some (.lst (ds.drop 1)):=by
 unfold eSl
 rw[h]
 show some (D.lst (XM ds (some ((1:Nat):Int)) none))=_
 rw[Ve]
def Yb (r:Str):Option zB:=(tlW r).mapM nwF
def ZQ {f:Str->yu}:∀ a:zr,a.mapM f=if a.any (λw=>(f w).isNone)=true then none else some (a.map λw=>(f w).getD 0):=by
 intro a
 induction a with
 | nil=>rfl
 | cons w r b =>
  rw[List.mapM_cons,b,List.any_cons]
  cases e:f w with
  | none=>rfl
  | some n =>
   show(if r.any (λw=>(f w).isNone)=true then none else some (r.map λw=>(f w).getD 0)).bind _=_
   cases c:r.any (λw=>(f w).isNone) with
   | true=>rfl
   | false =>
    show some (n::_)=some _
    rw[u0w,e]
    rfl
def zgR (a:zr):inD .non (.lst (a.map λw=>zdN (nwF w)))=some (.bl (a.any λw=>(nwF w).isNone)):=by
 show(zgX .non (a.map λw=>zdN (nwF w))).map D.bl=_
 unfold zgX
 rw[j0 ⟨rfl,by
  rw[u0D,k7]
  intro w _
  show okE 20 (zdN (nwF w))=true
  cases nwF w <;> rfl⟩,List.any_map]
 show some (D.bl (a.any _))=_
 congr 2
 refine i3 (λg=>a.any g) (funext λw=>?_)
 show eqN 20 (zdN (nwF w)) .non=_
 cases nwF w <;> rfl
def Zo (T:Txt P w K mg base ad):T.Pr 9 1 1 wd:=by
 letI:KK:=⟨K,ad.dk⟩
 refine ZP (N:=(Rw 9).N) (ps:=(Rw 9).ps) (T.d 9).fn (sc 9) (g:=xm) λe A outer s H E d=>?_
 unfold xm
 exact(zk (xt (zbg (v8 (xK (zea Wv Wv zY zY (zg zf) (zR wL Z2 rfl (T.z "len" (by decide)) xB (zb (edv 0) ze)) (zg (xc (v:=.int 3) rfl T.g_MOST_FIGURES ⟨_,rfl⟩)) (λa b c=>zeb Wv Wv a b c))) (Yo (xK (xV (zR (WV rfl) zdd rfl (T.z "all" (by decide)) zfQ (zb (x9 (zdC (L:=["sign"]) (M:=["word"]) rfl (XN (by rfl) (by rfl) (by rfl) (by with_unfolding_all rfl) (by rfl) (by rfl) (by kernel_rfl) vz) (zfA (edv 0)) gs1 rb1 (λ_ _ _ _=>(yx (i:=0) zjW rfl (Or.inl rfl) (.inr rfl))) (λ_ _ _ _=>(ZK zbW zgl (by with_unfolding_all rfl) (edv 0) (zD zE))))) ze))))))) (zl (yB (wj wk))) yw)
  (zk (xt (zbg (zaO (zL Vr zY (zP _) (zR wL Z2 rfl (T.z "len" (by decide)) xB (zb (edv 0) ze)) (zg zf)) (Ws (zL (Y5 d) vB (zP _) (zfw (edv 0) (zg zf) (λ_ _=>rfl)) (zD zE))))) (zl (yB (wj wk))) yw)
  (zl (yB (yQ ZM zaG rfl (T.z "int" (by decide)) zaY (zb (edv 0) ze))))))
abbrev xr :=zS (yf false 2 (yy (wT yV (zc 1) (za (eC (.str " ")) zh))))
  (zS (yf false 3 (yy (fLC (iOf (eSl slD (zc 2) (z0 (eC (.int 1))) z4)) b1 yj (zq 1 wd (za (zc 0) zh)))))
  (zS (sIf (yX (tOf (zd neD (zd ixD (zc 2) (eC (.int 0))) (zc 0))) (tOf (zd inD (eC .non) (zc 3)))) (yI (eC .non)) zG)
  (yI (eFn yc (za (zc 3) zh)))))
def zp:=fnD 4 xr
def zfx:neD (.str a) (.str b)=some (.bl (!decide (a=b))):=rfl
def zc0 (A:Asc r):zp [.str v,.str r]=some (if hdW r=v then (match Yb r with | some ns=>.tup (ns.map .int) | none=>.non)else .non):=by
 obtain⟨⟨h,e,g⟩,o,i⟩:=Vs A
 refine XO (ρ:=[.v (.str v),.v (.str r),.no,.no]) rfl ?_
 unfold xr
 refine zJ (ρ':=[.v (.str v),.v (.str r),.v (.lst ((wt r).map .str)),.no]) (Yi (X7 A rfl)) ?_
 refine zJ (ρ':=[.v (.str v),.v (.str r),.v (.lst ((wt r).map .str)),.v (.lst ((tlW r).map λw=>zdN (nwF w)))]) (Yi (vH ?_)) ?_
 .unfold fLC
  have j:iOf (eSl slD (zc 2) (z0 (eC (.int 1))) z4) (visF [.v (.str v),.v (.str r),.v (.lst ((wt r).map .str)),.no])=some ((tlW r).map .str):=by
   refine zaH (zaR (ds:=(wt r).map .str) rfl) ?_
   show some (((wt r).map D.str).drop 1)=_
   rw[<-u1Z]
   rfl
  have k:(tlW r).length<=1000:=by unfold tlW;rw[r9];omega
  rw[j,t4,j0 (wK (by rw[t1];exact k))]
  exact Zt D.str (λw=>zdN (nwF w)) _ λw hw=>⟨[some (.str w)],rfl,rfl,xi (ds:=[.str w]) rfl (zcN (i w (by rw[e];exact .tail _ hw)))⟩
 have m:zd neD (zd ixD (zc 2) (eC (.int 0))) (zc 0) (visG [.v (.str v),.v (.str r),.v (.lst ((wt r).map .str)),.v (.lst ((tlW r).map λw=>zdN (nwF w)))])=some (.bl (!decide (hdW r=v))):=by
  refine zm (x:=.str (hdW r)) (y:=.str v) (zm (x:=.lst ((wt r).map .str)) (y:=.int 0) rfl rfl ?_) rfl zfx
  rw[e,g]
  exact Z7 (by decide) rfl
 have l:zd inD (eC .non) (zc 3) (visG [.v (.str v),.v (.str r),.v (.lst ((wt r).map .str)),.v (.lst ((tlW r).map λw=>zdN (nwF w)))])=some (.bl ((tlW r).any λw=>(nwF w).isNone)):=zm (x:=.non) rfl rfl (zgR (tlW r))
 have a:=W1 (yP m) (yP l)
 unfold Yb
 rw[ZQ]
 by_cases c:hdW r=v
 .rw[j0 c]
  rw[u8 c]at a
  cases b:(tlW r).any (λw=>(nwF w).isNone) with
  | true =>
   rw[b]at a
   exact xj (Ze (c:=true) a (λ_=>Yd rfl rfl) (λz=>by cases z))
  | false =>
   rw[b]at a
   refine xj (Ze (c:=false) a (λz=>by cases z) (λ_=>ZO rfl ?_))
   refine Yd (d:=.tup ((tlW r).map λw=>zdN (nwF w))) rfl ?_
   show D.tup _=D.tup (((tlW r).map λw=>(nwF w).getD 0).map D.int)
   rw[u1c]
   congr 1
   refine List.map_congr_left λw hw=>?_
   have:=u1T.mp b w hw
   cases f:nwF w with
   | none=>rw[f]at this;exact absurd rfl this
   | some n=>show D.int n=D.int ((nwF w).getD 0);rw[f];rfl
 .rw[j6 c]
  rw[u7 c]at a
  exact xj (Ze (c:=true) a (λ_=>Yd rfl rfl) (λz=>by cases z))
inductive Rw1 where
 | bad | tie (t:Tie) | heap (h:zB)
def hp (r:Str):Option zB:=if hdW r=Str.ofString "heap" then Yb r else none
def tp (r:Str):Option zB:=if hdW r=Str.ofString "tie" then Yb r else none
def vF (a:y6)(t:Tie):Bool:=match a.getLast? with
 | some s=>decide (ltP s t)
 | none=>true
def tieR (m:Int)(c:y6):zB->Rw1
 | [a,b]=>if a<b/\b<m/\vF c (a,b)=true then .tie (a,b)else .bad
 | _=>.bad
def Wf {a b:Int}:tieR m c [a,b]=if a<b/\b<m/\vF c (a,b)=true then .tie (a,b)else .bad:=rfl
def WJ (m:Int)(a:y6)(r:Str):Rw1:=match hp r with
 | some ns=>if (ns.length:Int)=m/\ns.sum<=300 then .heap ns else .bad
 | none=>match tp r with
  | some ns=>tieR m a ns
  | none=>.bad
inductive zh6 where
 | no (k:Nat) | yes (m:Int) (ts:y6) (h:zB)
def zdM (m:Int)(N:Nat):Nat->y6->zr->Option zh6
 | _,_,[]=>none
 | k,ts,r::rs=>match WJ m ts r with
  | .bad=>some (.no k)
  | .tie t=>zdM m N (k+1) (ts++[t]) rs
  | .heap h=>some (if k<N then .no (k+1)else .yes m ts h)
def Zb (r:Str):yu:=match (if hdW r=Str.ofString "web" then Yb r else none) with
 | some [m]=>if 1<=m/\m<=8 then some m else none
 | _=>none
def zbV:zr->zh6
 | []=>.no 1
 | r::rs=>match Zb r with
  | none=>.no 1
  | some m=>(zdM m (rs.length+1) 2 [] rs).getD (.no (rs.length+2))
def zd1:zh6->D
 | .no k=>.int (k:Nat)
 | .yes m a h=>.tup [wI m a,.tup (h.map .int)]
def wG:Option zB->D
 | some ns=>.tup (ns.map .int)
 | none=>.non
def VY (A:Asc r):zp [.str v,.str r]=some (wG (if hdW r=v then Yb r else none)):=by
 rw[zc0 A]
 by_cases c:hdW r=v
 .rw[j0 c,j0 c]
  cases Yb r <;> rfl
 .rw[j6 c,j6 c]
  rfl
def zcz {ns:zB}(A:Asc r)(h:Yb r=some ns):(∀ n∈ns,0<=n)/\ns.length<=401:=by
 obtain⟨⟨_,b,_⟩,f,d⟩:=Vs A
 unfold Yb at h
 rw[ZQ]at h
 split at h
 .cases h
 .cases h
  refine⟨λn a=>?_,by rw[t1];unfold tlW;rw[r9];omega⟩
  obtain⟨w,hw,rfl⟩:=i4.mp a
  unfold nwF
  split
  .rename_i c
   obtain⟨n,e,h0,_⟩:=zdE c.1
   rw[e]
   exact h0
  .exact Int.le_refl 0
def zj5 {ns:zB}(A:Asc r)(h:hp r=some ns):(∀ n∈ns,0<=n)/\ns.length<=401:=by
 unfold hp at h
 split at h
 .exact zcz A h
 .cases h
def zio {ns:zB}(A:Asc r)(h:tp r=some ns):(∀ n∈ns,0<=n)/\ns.length<=401:=by
 unfold tp at h
 split at h
 .exact zcz A h
 .cases h
def zgM {a:y6}(d:a.Pairwise ltP)(h:vF a t=true):∀ s∈a,ltP s t:=by
 rcases List.eq_nil_or_concat a with e | ⟨f,u,e⟩
 .subst e
  exact λ_ z=>(nomatch z)
 .rw[List.concat_eq_append]at e
  subst e
  unfold vF at h
  rw[List.getLast?_concat]at h
  have c:=t6 h
  intro s b
  rcases k6.mp b with z | z
  .exact VJ ((u1l.mp d).2.2 s z u (t2.mpr rfl)) c
  .rw[t2.mp z]
   exact c
def zaF (ok:vY m c)(h0:0<=t.1)(d:t.1<t.2)(i:t.2<m)(h:vF c t=true):vY m (c++[t]):=by
 refine⟨ok.lo,ok.hi,λs e=>?_,u1l.mpr ⟨ok.srt,List.pairwise_singleton _ _,λa g b f=>?_⟩⟩
 .rcases k6.mp e with z | z
  .exact ok.rng s z
  .rw[t2.mp z]
   exact⟨h0,d,i⟩
 .rw[t2.mp f]
  exact zgM ok.srt h a g
def zeY (ok:vY m (a++[t])):t.1<t.2/\t.2<m/\vF a t=true:=by
 obtain⟨h0,b,c⟩:=ok.rng t (j9 _ (t2.mpr rfl))
 refine⟨b,c,?_⟩
 unfold vF
 cases e:a.getLast? with
 | none=>rfl
 | some s =>
  refine u8 ?_
  exact(u1l.mp ok.srt).2.2 s (List.mem_of_getLast? e) t (t2.mpr rfl)
def zbk {b:y6}(h:wy (.tup [.int m,.tup (b.map zv++[d])])=true):∃ t,d=zv t/\vY m (b++[t]):=by
 obtain⟨g,f,e,ok⟩:=(Zh _).mp h
 unfold wI at e
 injection e with e
 injection e with e1 e2
 injection e1 with e1
 subst e1
 injection e2 with e2 _
 injection e2 with e2
 rcases List.eq_nil_or_concat f with z | ⟨i,u,z⟩
 .subst z
  have:=i3 List.length e2
  simp at this
 .rw[List.concat_eq_append]at z
  subst z
  rw[o4]at e2
  have a:=List.append_inj' e2 rfl
  have c:=Y7 a.1
  subst c
  exact⟨u,by have:=a.2;injection this,ok⟩
def ziy (A:Asc r)(ok:vY m ts):match WJ m ts r with
 | .tie t=>vY m (ts++[t])
 | _=>True:=by
 unfold WJ
 cases f:hp r with
 | some ns =>
  dsimp only
  by_cases c:(ns.length:Int)=m/\ns.sum<=300
  .rw[j0 c]
   trivial
  .rw[j6 c]
   trivial
 | none =>
  cases e:tp r with
  | none=>trivial
  | some ns =>
   have d:=(zio A e).1
   match ns,d with
   | [a,b],d =>
    dsimp only
    rw[Wf]
    by_cases c:a<b/\b<m/\vF ts (a,b)=true
    .rw[j0 c]
     exact zaF (t:=(a,b)) ok (d a (.head _)) c.1 c.2.1 c.2.2
    .rw[j6 c]
     trivial
   | [],_=>trivial
   | [_],_=>trivial
   | _::_::_::_,_=>trivial
def y8 (T:Txt P w K mg base ad):T.Pr 10 2 2 zp:=by
 letI:KK:=⟨K,ad.dk⟩
 have G_number_written:=Zo T
 refine ZP (N:=(Rw 10).N) (ps:=(Rw 10).ps) (T.d 10).fn (sc 10) (g:=xr) λd A outer s H E c=>?_
 unfold xr
 exact(zk (yn (m:=false) (i:=2) (sc 10).nd rfl (Or.inl rfl) (x9 (wM (edv 1) (zb (zD zE) ze) (λa b=>vV k8 f9 g0 wO a b))))
  (zk (zcV (m:=false) (i:=3) (zcK (L:=["part"]) (M:=["word","row","words","numbers"]) (sc 10).nd rfl (Or.inl rfl) rfl (XN (by rfl) (by rfl) (by rfl) (by with_unfolding_all rfl) (by rfl) (by rfl) (by kernel_rfl) vz) (XI (yM (edv 2) (xh (zg zf)) xg)) gs1 rb1 (λ_ _ _ _=>(yx (i:=0) zjP rfl (Or.inl rfl) (.inr rfl))) (λ_ _ _ _=>(zt G_number_written c rfl (T.d 9) (zb (edv 0) ze)))))
  (zk (xt (zbg (v8 (zL Xz YT (zP _) (yO (edv 2) (zg zf) (λ_ _=>rfl)) (edv 0)) (Yo (zL (zh2 c) zhF (by with_unfolding_all rfl) (wj wk) (edv 3))))) (zl (yB (wj wk))) yw)
  (zl (yB (yQ yZ w1 rfl (T.z "tuple" (by decide)) vl (zb (edv 3) ze)))))))
abbrev vE :=zS (yf false 1 (zq 2 zp (za (eC (.str "web")) (za (zc 0) zh))))
  (zS (sIf (yX (tOf (zd wv (zc 1) (eC .non))) (yX (tOf (zd neD (eFn xk (za (zc 1) zh)) (eC (.int 1)))) (zV (tOf (zq 1 zK (za (zd ixD (zc 1) (eC (.int 0))) zh)))))) sNo zG)
  (yI (zd ixD (zc 1) (eC (.int 0)))))
def wC:=fnD 2 vE
def ZD (T:Txt P w K mg base ad):T.Pr 11 4 1 wC:=by
 letI:KK:=⟨K,ad.dk⟩
 have G_is_place_count:=xM T
 have G_numbers_behind:=y8 T
 refine ZP (N:=(Rw 11).N) (ps:=(Rw 11).ps) (T.d 11).fn (sc 11) (g:=vE) λb A outer s H E a=>?_
 unfold vE
 exact(zk (yn (m:=false) (i:=1) (sc 11).nd rfl (Or.inl rfl) (zt G_numbers_behind a rfl (T.d 10) (zb (zD zE) (zb (edv 0) ze))))
  (zk (xt (zbg (v8 (zL Yl wX (zP _) (edv 1) (wj wk)) (v8 (zL Xz YT (zP _) (zR zI xf rfl (T.z "len" (by decide)) xB (zb (edv 1) ze)) (zg zf)) (Yo (xK (xV (zt G_is_place_count a rfl (T.d 2) (zb (yO (edv 1) (zg zf) (λ_ _=>rfl)) ze)))))))) (zl y9) yw)
  (zl (yB (yO (edv 1) (zg zf) (λ_ _=>rfl))))))
abbrev x2 :=XT xNo (yf false 1 (zq 2 zp (za (eC (.str "web")) (za (zc 0) zh))))
  (xIf (yX (tOf (zd wv (zc 1) (eC .non))) (yX (tOf (zd neD (eFn xk (za (zc 1) zh)) (eC (.int 1)))) (zV (tOf (zq 1 zK (za (zd ixD (zc 1) (eC (.int 0))) zh)))))) (xRI (VM 11 2) (za (eC (.int 1)) zh)) xNo)
def yo:=fnX 2 x2
def wW {t:vO}(h:t ρ=some true):yX t u ρ=some true:=by unfold yX;rw[h];rfl
def zaC (o:Option zB):wv (wG o) .non=some (.bl o.isNone):=by cases o <;> rfl
def Zc (k:Nat):Nat:=43+64*(k+1)
def VE (k:Nat):VM 11 2 [.int (k:Nat)]=some (Zc k):=by
 show(if -1<=((k:Nat):Int)then some (11+16*2+64*(((k:Nat):Int)+1).toNat)else none)=_
 rw[j0 (by omega)]
 unfold Zc
 congr 1
def zbR {t:vO}{g:xR}(e:t (visG ρ)=some true):xIf t g h ρ=g ρ:=by unfold xIf;rw[e]
def zbC {t:vO}{g h:xR}(e:t (visG ρ)=some false):xIf t g h ρ=h ρ:=by unfold xIf;rw[e]
def V7 {c b:xR}{g:zU}(e:c ρ=none)(d:g ρ=.nx a):XT c g b ρ=b a:=by
 unfold XT
 rw[e,d]
def wbO (r:Str):Option zB:=if hdW r=Str.ofString "web" then Yb r else none
def wZ (r:Str):Bool:=match wbO r with
 | some [m]=>decide (1<=m)&&decide (m<=8)
 | _=>false
def zcd:yX (tOf (zd wv (zc 1) (eC .non))) (yX (tOf (zd neD (eFn xk (za (zc 1) zh)) (eC (.int 1)))) (zV (tOf (zq 1 zK (za (zd ixD (zc 1) (eC (.int 0))) zh))))) (visG [.v (.str r),.v (wG (wbO r))])=some (!wZ r):=by
 have b:tOf (zd wv (zc 1) (eC .non)) (visG [.v (.str r),.v (wG (wbO r))])=some (wbO r).isNone:=yP (zm (x:=wG (wbO r)) (y:=.non) rfl rfl (zaC _))
 unfold wZ
 cases e:wbO r with
 | none =>
  rw[e]at b
  exact wW b
 | some ns =>
  rw[e]at b
  refine(XW b ?_)
  have a:tOf (zd neD (eFn xk (za (zc 1) zh)) (eC (.int 1))) (visG [.v (.str r),.v (wG (some ns))])=some (!decide (ns.length=1)):=by
   refine yP (zm (x:=.int (ns.length:Nat)) (y:=.int 1) (vd (ds:=[.tup (ns.map .int)]) rfl ?_) rfl ?_)
   .show some (D.int ((ns.map D.int).length:Nat))=_
    rw[t1]
   .show some (D.bl (!decide (((ns.length:Nat):Int)=1)))=_
    by_cases z:ns.length=1
    .rw[u8 z,u8 (by omega)]
    .rw[u7 z,u7 (by omega)]
  match ns,a with
  | [m],a =>
   refine XW a ?_
   exact Z9 (yP (xi (ds:=[.int m]) rfl rfl))
  | [],a=>exact wW a
  | _::_::_,a=>exact wW (by rw[a,u7 (λz=>by simp at z)];rfl)
def WZ (A:Asc r):match Zb r with
 | none=>yo [.str r]=some (Zc 1)
 | some m=>yo [.str r]=none/\wC [.str r]=some (.int m)/\1<=m/\m<=8:=by
 have f:yf false 1 (zq 2 zp (za (eC (.str "web")) (za (zc 0) zh))) [.v (.str r),.no]=.nx [.v (.str r),.v (wG (wbO r))]:=x5 (ds:=[_,_]) rfl (VY A)
 have d:=zcd (r:=r)
 have ex:yo [.str r]=xIf (yX (tOf (zd wv (zc 1) (eC .non))) (yX (tOf (zd neD (eFn xk (za (zc 1) zh)) (eC (.int 1)))) (zV (tOf (zq 1 zK (za (zd ixD (zc 1) (eC (.int 0))) zh)))))) (xRI (VM 11 2) (za (eC (.int 1)) zh)) xNo [.v (.str r),.v (wG (wbO r))]:=by
  show x2 [.v (.str r),.no]=_
  unfold x2
  exact V7 rfl f
 have g:Zb r=(match wbO r with | some [m]=>if 1<=m/\m<=8 then some m else none | _=>none):=rfl
 cases a:wZ r with
 | false =>
  have:Zb r=none:=by
   rw[g]
   unfold wZ at a
   split at a
   .rename_i m e
    rw[j6 (λz=>by rw[u8 z.1,u8 z.2]at a;cases a)]
   .rfl
  rw[this]
  rw[a]at d
  show yo [.str r]=some (Zc 1)
  rw[ex,zbR d]
  exact VE 1
 | true =>
  unfold wZ at a
  split at a
  .rename_i m e
   rw[t5]at a
   have c:1<=m/\m<=8:=⟨t6 a.1,t6 a.2⟩
   have:Zb r=some m:=by
    rw[g,e]
    exact j0 c
   rw[this]
   have b:yX (tOf (zd wv (zc 1) (eC .non))) (yX (tOf (zd neD (eFn xk (za (zc 1) zh)) (eC (.int 1)))) (zV (tOf (zq 1 zK (za (zd ixD (zc 1) (eC (.int 0))) zh))))) (visG [.v (.str r),.v (wG (wbO r))])=some false:=by
    rw[d]
    unfold wZ
    rw[e]
    show some (!(decide (1<=m)&&decide (m<=8)))=_
    rw[u8 c.1,u8 c.2]
    rfl
   refine⟨by rw[ex,zbC b];rfl,?_,c⟩
   refine XO (ρ:=[.v (.str r),.no]) rfl ?_
   unfold vE
   refine zJ f (zJ ((xL (h:=zG) b).trans rfl) ?_)
   rw[e]
   exact Yd rfl rfl
  .cases a
def We (T:Txt P w K mg base ad):T.Px 11 4 1 yo:=by
 letI:KK:=⟨K,ad.dk⟩
 have G_is_place_count:=xM T
 have G_numbers_behind:=y8 T
 refine zfK (cl:=clT ad) (N:=(Rw 11).N) (ps:=(Rw 11).ps) (T.d 11).fn (sc 11) (gx:=x2) λb A outer s H E a=>?_
 unfold x2
 exact(vx ZU (SD.nox (yn (m:=false) (i:=1) (sc 11).nd rfl (Or.inl rfl) (zt G_numbers_behind a rfl (T.d 10) (zb (zD zE) (zb (edv 0) ze)))))
  (zcT (za8 (zbg (v8 (zL Yl wX (zP _) (edv 1) (wj wk)) (v8 (zL Xz YT (zP _) (zR zI xf rfl (T.z "len" (by decide)) xB (zb (edv 1) ze)) (zg zf)) (Yo (xK (xV (zt G_is_place_count a rfl (T.d 2) (zb (yO (edv 1) (zg zf) (λ_ _=>rfl)) ze)))))))) (wB (vf (cl:=clT ad) ⟨T.g_NoText,T.ei_NoText,T.ea_NoText,Yu T.na_NoText⟩ (wu T) T.bi_NoText (Yc (zdV ad) (show 11<16 by decide)) (a.mono (by decide)) rfl (zb (zg zf) ze))) YJ)))
abbrev z3 :=zS (yf false 5 (zq 2 zp (za (eC (.str "heap")) (za (zc 4) zh))))
  (sIf (tOf (zd wv (zc 5) (eC .non))) (zS (yf false 2 (x6 (za (zd ixD (zc 2) (eC (.int 0))) (za (zd yb (zd ixD (zc 2) (eC (.int 1))) (x6 (za (zq 2 zp (za (eC (.str "tie")) (za (zc 4) zh))) zh))) zh))))
  (sIf (zV (tOf (zq 1 wl (za (zc 2) zh)))) sNo zG)) (sIf (zV (tOf (zq 2 yC (za (zc 2) (za (zc 5) zh))))) sNo (sIf (tOf (zd ltD (zc 3) (eFn xk (za (zc 1) zh)))) sNo (yI (x6 (za (zc 2) (za (zc 5) zh)))))))
abbrev za2 :=zS (sIf (zV (tOf (eUn (yq .str) (zc 0)))) sNo zG)
  (zS (yf false 1 (yy (wT yV (zc 0) (za (eC (.str "\n")) zh))))
  (zS (yf false 2 (x6 (za (zq 1 wC (za (zd ixD (zc 1) (eC (.int 0))) zh)) (za (x6 zh) zh))))
  (zS (vi (zdP (za (eSl slD (zc 1) (z0 (eC (.int 1))) z4) zh)) (v6 2 (yG (yp 3) (yG (yp 4) Ya))) z3)
  sNo)))
def zaB:=fnD 6 za2
def zbH (h:vY m a):decide (m<=1000)=true:=u8 (by have:=h.hi;omega)
def zhi {m:Int}{ns:zB}(h:∀ n∈ns,0<=n)(c:¬ ((ns.length:Int)=m/\ns.sum<=300)):vZ m (.tup (ns.map .int))=false:=by
 show(xl m (.tup (ns.map .int))&&decide (((ns.map D.int).map zjs).sum<=300))=false
 rw[Zy]
 show(decide (((ns.map D.int).length:Int)=m)&&(ns.map D.int).all xu&&decide (ns.sum<=300))=false
 rw[t1]
 by_cases a:(ns.length:Int)=m
 .rw[u7 (λz=>c ⟨a,z⟩),u0y]
 .rw[u7 a,u1N,u1N]
def zf2 (o:Option zB):noS (wG o)=true:=by
 cases o with
 | none=>rfl
 | some ns=>exact zaw ns
def zer (m:Int)(a:y6)(o:Option zB):noS (.tup [.int m,.tup (a.map zv++[wG o])])=true:=by
 have h:∀ l:y6,zdO (l.map zv++[wG o])=true:=λl=>by
  induction l with
  | nil=>show(noS (wG o)&&true)=true;rw[zf2];rfl
  | cons t l b=>show(noS (zv t)&&zdO (l.map zv++[wG o]))=true;rw[b];rfl
 show(noS (.int m)&&(noS (.tup (a.map zv++[wG o]))&&true))=true
 show(true&&(zdO (a.map zv++[wG o])&&true))=true
 rw[h]
 rfl
section
variable {m k:Int}{ts:y6}{r:Str}{T:D}{ls:zo}{o5:Sl}
abbrev stR (T:D)(ls:zo)(m:Int)(ts:y6)(k:Nat)(r:Str)(o:Sl):SE:=[.v T,.v (.lst ls),.v (wI m ts),.v (.int (k:Nat)),.v (.str r),o]
abbrev gR:xR:=(XT xNo (yf false 5 (zq 2 zp (za (eC (.str "heap")) (za (zc 4) zh))))
 (xIf (tOf (zd wv (zc 5) (eC .non))) (XT xNo (yf false 2 (x6 (za (zd ixD (zc 2) (eC (.int 0))) (za (zd yb (zd ixD (zc 2) (eC (.int 1))) (x6 (za (zq 2 zp (za (eC (.str "tie")) (za (zc 4) zh))) zh))) zh))))
 (xIf (zV (tOf (zq 1 wl (za (zc 2) zh)))) (xRI (VM 11 2) (za (zc 3) zh)) xNo)) (xIf (zV (tOf (zq 2 yC (za (zc 2) (za (zc 5) zh))))) (xRI (VM 11 2) (za (zc 3) zh)) (xIf (tOf (zd ltD (zc 3) (eFn xk (za (zc 1) zh)))) (xRI (VM 11 2) (za (zd yb (zc 3) (eC (.int 1))) zh)) xNo))))
def ze3 {k:Nat}(ok:vY m ts)(I:ts.length<=60)(A:Asc r)(H:ls.length<=1000):match WJ m ts r with
 | .bad=>gR (stR T ls m ts k r o5)=some (Zc k)
 | .tie t=>vY m (ts++[t])/\gR (stR T ls m ts k r o5)=none/\z3 (stR T ls m ts k r o5)=.nx (stR T ls m (ts++[t]) k r (.v .non))
 | .heap h=>if k<ls.length then gR (stR T ls m ts k r o5)=some (Zc (k+1))else gR (stR T ls m ts k r o5)=none/\z3 (stR T ls m ts k r o5)=.rt (.tup [wI m ts,.tup (h.map .int)]):=by
 have v:∀ o5,yf false 5 (zq 2 zp (za (eC (.str "heap")) (za (zc 4) zh))) (stR T ls m ts k r o5)=.nx (stR T ls m ts k r (.v (wG (hp r)))):=λo5=>x5 (ds:=[_,_]) rfl (VY A)
 have l:tOf (zd wv (zc 5) (eC .non)) (visG (stR T ls m ts k r (.v (wG (hp r)))))=some (hp r).isNone:=yP (zm (x:=wG (hp r)) (y:=.non) rfl rfl (zaC _))
 unfold WJ gR z3
 rw[V7 rfl (v o5),xx (v o5)]
 cases o:hp r with
 | none =>
  rw[o]at l
  dsimp only
  rw[zbR l,xF l]
  have w:zq 2 zp (za (eC (.str "tie")) (za (zc 4) zh)) (visF (stR T ls m ts k r (.v (wG none))))=some (wG (tp r)):=xi (ds:=[.str (Str.ofString "tie"),.str r]) rfl (VY A)
  have B:yb (.tup (ts.map zv)) (.tup [wG (tp r)])=some (.tup (ts.map zv++[wG (tp r)])):=zeu (by rw[t1];show _+1<=1000;omega)
  have u:yf false 2 (x6 (za (zd ixD (zc 2) (eC (.int 0))) (za (zd yb (zd ixD (zc 2) (eC (.int 1))) (x6 (za (zq 2 zp (za (eC (.str "tie")) (za (zc 4) zh))) zh))) zh))) (stR T ls m ts k r (.v (wG none)))=.nx [.v T,.v (.lst ls),.v (.tup [.int m,.tup (ts.map zv++[wG (tp r)])]),.v (.int (k:Nat)),.v (.str r),.v .non] :=
   Yi (zdj (ds:=[.int m,.tup (ts.map zv++[wG (tp r)])]) (zA rfl (zA (zm (x:=.tup (ts.map zv)) (y:=.tup [wG (tp r)]) rfl (zdj (ds:=[wG (tp r)]) (zA w ym) (by show 1<=1000;decide)) B) ym)) (by show 2<=1000;decide))
  rw[V7 rfl u,xx u]
  have C:wl [.tup [.int m,.tup (ts.map zv++[wG (tp r)])]]=some (.bl (wy (.tup [.int m,.tup (ts.map zv++[wG (tp r)])]))):=by
   show(if noS (.tup [.int m,.tup (ts.map zv++[wG (tp r)])])=true then some (D.bl (wy (.tup [.int m,.tup (ts.map zv++[wG (tp r)])])))else none)=_
   rw[j0 (zer _ _ _)]
  have i:zV (tOf (zq 1 wl (za (zc 2) zh))) (visG [.v T,.v (.lst ls),.v (.tup [.int m,.tup (ts.map zv++[wG (tp r)])]),.v (.int (k:Nat)),.v (.str r),.v .non])=some (!wy (.tup [.int m,.tup (ts.map zv++[wG (tp r)])])):=Z9 (yP (xi (ds:=[_]) rfl C))
  have bad:(∀ t,wG (tp r)=zv t->¬ vY m (ts++[t]))->xIf (zV (tOf (zq 1 wl (za (zc 2) zh)))) (xRI (VM 11 2) (za (zc 3) zh)) xNo [.v T,.v (.lst ls),.v (.tup [.int m,.tup (ts.map zv++[wG (tp r)])]),.v (.int (k:Nat)),.v (.str r),.v .non]=some (Zc k):=λq=>by
   have G:wy (.tup [.int m,.tup (ts.map zv++[wG (tp r)])])=false:=by
    cases z:wy (.tup [.int m,.tup (ts.map zv++[wG (tp r)])]) with
    | false=>rfl
    | true =>
     obtain⟨t,e,f⟩:=zbk z
     exact absurd f (q t e)
   rw[G]at i
   rw[zbR i]
   exact VE k
  cases j:tp r with
  | none =>
   rw[j]at bad
   exact bad λt e=>by cases e
  | some ns =>
   have d:=(zio A j).1
   rw[j]at bad i
   match ns,bad,i,d with
   | [a,b],bad,i,d =>
    dsimp only
    rw[Wf]
    by_cases c:a<b/\b<m/\vF ts (a,b)=true
    .rw[j0 c]
     have f:=zaF (t:=(a,b)) ok (d a (.head _)) c.1 c.2.1 c.2.2
     have hw:wy (.tup [.int m,.tup (ts.map zv++[wG (some [a,b])])])=true:=by
      refine(Zh _).mpr ⟨m,ts++[(a,b)],?_,f⟩
      unfold wI
      rw[o4]
      rfl
     rw[hw]at i
     refine⟨f,(zbC i).trans rfl,(xL i).trans ?_⟩
     show Ctl.nx _=Ctl.nx _
     unfold stR wI
     rw[o4]
     rfl
    .rw[j6 c]
     refine bad λt e f=>c ?_
     have F:zv (a,b)=zv t:=e
     have:=Xs F
     subst this
     exact zeY f
   | [],bad,_,_=>exact bad λt e=>by unfold wG zv at e;injection e with e;cases e
   | [_],bad,_,_=>exact bad λt e=>by unfold wG zv at e;injection e with e;injection e with _ e;cases e
   | _::_::_::_,bad,_,_=>exact bad λt e=>by unfold wG zv at e;injection e with e;injection e with _ e;injection e with _ e;cases e
 | some ns =>
  rw[o]at l
  dsimp only
  rw[zbC l,xL l]
  obtain⟨d,s⟩:=zj5 A o
  have p:yC [wI m ts,.tup (ns.map .int)]=some (.bl (decide ((ns.length:Int)=m/\ns.sum<=300))):=by
   show(if (noS (.tup (ns.map .int))&&decide (m<=1000))=true then some (D.bl (vZ m (.tup (ns.map .int))))else none)=_
   rw[zaw,zbH ok]
   show some (D.bl (vZ m (.tup (ns.map .int))))=_
   congr 2
   by_cases c:(ns.length:Int)=m/\ns.sum<=300
   .rw[u8 c]
    exact zbs c.1 d c.2
   .rw[u7 c]
    exact zhi d c
  have n:zV (tOf (zq 2 yC (za (zc 2) (za (zc 5) zh)))) (visG (stR T ls m ts k r (.v (wG (some ns)))))=some (!decide ((ns.length:Int)=m/\ns.sum<=300)):=Z9 (yP (xi (ds:=[wI m ts,.tup (ns.map .int)]) rfl p))
  by_cases c:(ns.length:Int)=m/\ns.sum<=300
  .rw[j0 c]
   rw[u8 c]at n
   dsimp only
   rw[zbC n,xL n]
   have g:tOf (zd ltD (zc 3) (eFn xk (za (zc 1) zh))) (visG (stR T ls m ts k r (.v (wG (some ns)))))=some (decide (k<ls.length)):=by
    refine yP (zm (x:=.int (k:Nat)) (y:=.int (ls.length:Nat)) rfl (vd (ds:=[.lst ls]) rfl rfl) ?_)
    show some (D.bl (decide (((k:Nat):Int)<(ls.length:Nat))))=_
    by_cases z:k<ls.length
    .rw[u8 z,u8 (by omega)]
    .rw[u7 z,u7 (by omega)]
   by_cases z:k<ls.length
   .rw[j0 z]
    rw[u8 z]at g
    rw[zbR g]
    have E:za (zd yb (zc 3) (eC (.int 1))) zh (visG (stR T ls m ts k r (.v (wG (some ns)))))=some [.int ((k+1:Nat):Int)]:=rfl
    unfold xRI
    rw[E,t4]
    exact VE (k+1)
   .rw[j6 z]
    rw[u7 z]at g
    rw[zbC g,xL g]
    exact⟨rfl,rfl⟩
  .rw[j6 c]
   rw[u7 c]at n
   dsimp only
   rw[zbR n]
   exact VE k
end
def zf7 (T:Txt P w K mg base ad):T.Pr 12 7 1 zaB:=by
 letI:KK:=⟨K,ad.dk⟩
 have G_is_web:=VF T
 have G_are_stones:=Y9 T
 have G_numbers_behind:=y8 T
 have G_many_read:=ZD T
 refine ZP (N:=(Rw 12).N) (ps:=(Rw 12).ps) (T.d 12).fn (sc 12) (g:=za2) λd A outer s H E c=>?_
 unfold za2 z3
 exact(zk (xt (xK (xV (Y6 .str rfl (T.z "isinstance" (by decide)) (edv 0) (vu (v:=.ty "str") rfl (T.z "str" (by decide)) YZ rfl)))) (zl y9) yw)
  (zk (yn (m:=false) (i:=1) (sc 12).nd rfl (Or.inl rfl) (x9 (wM (edv 0) (zb (zD zE) ze) (λa b=>vV k8 f9 g0 wO a b))))
  (zk (yn (m:=false) (i:=2) (sc 12).nd rfl (Or.inl rfl) (xD (zb (zt G_many_read c rfl (T.d 11) (zb (yO (edv 1) (zg zf) (λ_ _=>rfl)) ze)) (zb (xD ze) ze))))
  (zk (Xa u0a rfl (zc2 rfl (T.z "enumerate" (by decide)) xA (zb (yM (edv 1) (xh (zg zf)) xg) ze)) (XU rfl (xH (xG (yx (i:=3) (sc 12).nd rfl (Or.inl rfl))) (xH (xG (yx (i:=4) (sc 12).nd rfl (Or.inl rfl))) Zg))) (zk (yn (m:=false) (i:=5) (sc 12).nd rfl (Or.inl rfl) (zt G_numbers_behind c rfl (T.d 10) (zb (zD zE) (zb (edv 4) ze))))
  (zl (xt (zL Yl wX (zP _) (edv 5) (wj wk)) (zk (yn (m:=false) (i:=2) (sc 12).nd rfl (Or.inl rfl) (xD (zb (yO (edv 2) (zg zf) (λ_ _=>rfl)) (zb (zN (yO (edv 2) (zg zf) (λ_ _=>rfl)) (xD (zb (zt G_numbers_behind c rfl (T.d 10) (zb (zD zE) (zb (edv 4) ze))) ze))) ze))))
  (zl (xt (xK (xV (zt G_is_web c rfl (T.d 7) (zb (edv 2) ze)))) (zl y9) yw))) (zl (xt (xK (xV (zt G_are_stones c rfl (T.d 8) (zb (edv 2) (zb (edv 5) ze))))) (zl y9) (zl (xt (zL zac zY (zP _) (edv 3) (zR zI xf rfl (T.z "len" (by decide)) xB (zb (edv 1) ze))) (zl y9) (zl (yB (xD (zb (edv 2) (zb (edv 5) ze)))))))))))))
  (zl y9)))))
abbrev Yw :=XT (xIf (zV (tOf (eUn (yq .str) (zc 0)))) (xRI (VM 11 2) (za (eC (.int 0)) zh)) xNo) (sIf (zV (tOf (eUn (yq .str) (zc 0)))) sNo zG)
  (XT xNo (yf false 1 (yy (wT yV (zc 0) (za (eC (.str "\n")) zh))))
  (XT (xEx (V5 1 yo (za (zd ixD (zc 1) (eC (.int 0))) zh))) (yf false 2 (x6 (za (zq 1 wC (za (zd ixD (zc 1) (eC (.int 0))) zh)) (za (x6 zh) zh))))
  (XT (zhC (zdP (za (eSl slD (zc 1) (z0 (eC (.int 1))) z4) zh)) (v6 2 (yG (yp 3) (yG (yp 4) Ya))) (XT xNo (yf false 5 (zq 2 zp (za (eC (.str "heap")) (za (zc 4) zh))))
  (xIf (tOf (zd wv (zc 5) (eC .non))) (XT xNo (yf false 2 (x6 (za (zd ixD (zc 2) (eC (.int 0))) (za (zd yb (zd ixD (zc 2) (eC (.int 1))) (x6 (za (zq 2 zp (za (eC (.str "tie")) (za (zc 4) zh))) zh))) zh))))
  (xIf (zV (tOf (zq 1 wl (za (zc 2) zh)))) (xRI (VM 11 2) (za (zc 3) zh)) xNo)) (xIf (zV (tOf (zq 2 yC (za (zc 2) (za (zc 5) zh))))) (xRI (VM 11 2) (za (zc 3) zh)) (xIf (tOf (zd ltD (zc 3) (eFn xk (za (zc 1) zh)))) (xRI (VM 11 2) (za (zd yb (zc 3) (eC (.int 1))) zh)) xNo))))
  (zS (yf false 5 (zq 2 zp (za (eC (.str "heap")) (za (zc 4) zh))))
  (sIf (tOf (zd wv (zc 5) (eC .non))) (zS (yf false 2 (x6 (za (zd ixD (zc 2) (eC (.int 0))) (za (zd yb (zd ixD (zc 2) (eC (.int 1))) (x6 (za (zq 2 zp (za (eC (.str "tie")) (za (zc 4) zh))) zh))) zh))))
  (sIf (zV (tOf (zq 1 wl (za (zc 2) zh)))) sNo zG)) (sIf (zV (tOf (zq 2 yC (za (zc 2) (za (zc 5) zh))))) sNo (sIf (tOf (zd ltD (zc 3) (eFn xk (za (zc 1) zh)))) sNo (yI (x6 (za (zc 2) (za (zc 5) zh))))))))) (vi (zdP (za (eSl slD (zc 1) (z0 (eC (.int 1))) z4) zh)) (v6 2 (yG (yp 3) (yG (yp 4) Ya))) z3)
  (xRI (VM 11 2) (za (zd yb (eFn xk (za (zc 1) zh)) (eC (.int 1))) zh)))))
def xN:=fnX 6 Yw
def zeC {a:xR}{g:zU}(e:a ρ=some j):XT a g b ρ=some j:=by
 unfold XT
 rw[e]
def zd3 {a:xR}{g:zU}{h:Nat->Option D}(e:a ρ=some j)(b:h j=some d):zhv a g h ρ=.rt d:=by
 unfold zhv
 rw[e]
 show(match h j with | some d=>Ctl.rt d | none=>.no)=_
 rw[b]
abbrev bT:vM:=v6 2 (yG (yp 3) (yG (yp 4) Ya))
def ze2 {g:zU}(h:bT d ρ=some a):YD bT gx g (d::ds) ρ=(match gx a with | some j=>some j | none=>match g a with | .nx b=>YD bT gx g ds b | .ct b=>YD bT gx g ds b | _=>none):=by
 show(match bT d ρ with | none=>none | some a=>_)=_
 rw[h] <;> rfl
def zgp {g:zU}(h:bT d ρ=some b):WP bT g (d::ds) ρ=(match g b with | .nx a=>WP bT g ds a | .ct a=>WP bT g ds a | .bk a=>.nx a | .rt d=>.rt d | .no=>.no):=by
 show(match bT d ρ with | none=>Ctl.no | some b=>_)=_
 rw[h] <;> rfl
def zgT (m:Int)(T:D)(ls:zo)(o:Option zh6)(a:zo)(ρ:SE):Prop:=match o with
 | none=>YD bT gR z3 a ρ=none/\∃ e c d b,WP bT z3 a ρ=.nx [.v T,.v (.lst ls),e,c,d,b]
 | some (.no j)=>YD bT gR z3 a ρ=some (Zc j)
 | some (.yes m' us h)=>YD bT gR z3 a ρ=none/\WP bT z3 a ρ=.rt (.tup [wI m' us,.tup (h.map .int)])
def zdB {ls:zo}(o:ls.length<=1000):∀ (d:zr) (k:Nat) (b:y6) (j n f:Sl),vY m b->b.length+d.length<=60->(∀ r∈d,Asc r)->zgT m T ls (zdM m ls.length k b d) (ws k (d.map .str)) [.v T,.v (.lst ls),.v (wI m b),j,n,f]:=by
 intro d
 induction d with
 | nil=>exact λk b j n f _ _ _=>⟨rfl,_,_,_,_,rfl⟩
 | cons r d x =>
  intro k b j n f ok A s
  have u:bT (.tup [.int (k:Nat),.str r]) [.v T,.v (.lst ls),.v (wI m b),j,n,f]=some (stR T ls m b k r f):=rfl
  have i:=ze2 (g:=z3) (gx:=gR) (ds:=ws (k+1) (d.map .str)) u
  have l:=zgp (g:=z3) (ds:=ws (k+1) (d.map .str)) u
  rw[j8]at A
  have a:=ze3 (k:=k) (T:=T) (ls:=ls) (o5:=f) ok (by omega) (s r (.head _)) o
  show zgT m T ls (zdM m ls.length k b (r::d)) (.tup [.int (k:Nat),.str r]::ws (k+1) (d.map .str)) _
  unfold zdM
  cases e:WJ m b r with
  | bad =>
   rw[e]at a
   show YD bT gR z3 _ _=some (Zc k)
   rw[i,show gR (stR T ls m b k r f)=some (Zc k)from a]
  | tie t =>
   rw[e]at a
   obtain⟨p,w,v⟩:=a
   have q:=x (k+1) (b++[t]) (.v (.int (k:Nat))) (.v (.str r)) (.v .non) p (by rw[q5];show _+1+_<=60;omega) λy z=>s y (.tail _ z)
   rw[w,v]at i
   rw[v]at l
   dsimp only at i l ⊢
   unfold zgT at q ⊢
   rw[i,l]
   exact q
  | heap h =>
   rw[e]at a
   dsimp only at a ⊢
   by_cases c:k<ls.length
   .rw[j0 c]at a ⊢
    show YD bT gR z3 _ _=some (Zc (k+1))
    rw[i,a]
   .rw[j6 c]at a ⊢
    refine⟨?_,?_⟩
    .rw[i,a.1,a.2]
    .rw[l,a.2]
def Y8 {a:zr}:zbV (r::a)=(match Zb r with | none=>.no 1 | some m=>(zdM m (a.length+1) 2 [] a).getD (.no (a.length+2))):=rfl
def zbJ {x:Str} {a:zr} (J:Txt.split x (Str.ofString "\n")=r::a) (V:x.length<=90000) (R:a.length<=50) (B:∀ y∈r::a,Asc y):match zbV (r::a) with
 | .no j=>xN [.str x]=some (Zc j)
 | .yes m Q h=>xN [.str x]=none/\zaB [.str x]=some (.tup [wI m Q,.tup (h.map .int)]):=by
 have i:yV (.str x) (.str (Str.ofString "\n"))=some ((r::a).map .str):=by
  show(if ((Str.ofString "\n").length == 0)=false/\x.length<=100000/\(Txt.split x (Str.ofString "\n")).length<=100000 then some ((Txt.split x (Str.ofString "\n")).map D.str)else none)=_
  rw[J]
  exact j0 ⟨by decide,by omega,by rw[j8];omega⟩
 obtain⟨ls,c⟩:∃ ls,(r::a).map D.str=ls:=⟨_,rfl⟩
 have f:ls.length=a.length+1:=by rw[<-c,t1,j8]
 rw[c]at i
 have L:L2.atI ls 0=some (.str r):=by rw[<-c];exact Z7 (by decide) rfl
 have u:zV (tOf (eUn (yq .str) (zc 0))) (visG [.v (.str x),.no,.no,.no,.no,.no])=some false:=rfl
 have C:yf false 1 (yy (wT yV (zc 0) (za (eC (.str "\n")) zh))) [.v (.str x),.no,.no,.no,.no,.no]=.nx [.v (.str x),.v (.lst ls),.no,.no,.no,.no]:=Yi (vH i)
 have I:za (zd ixD (zc 1) (eC (.int 0))) zh (visG [.v (.str x),.v (.lst ls),.no,.no,.no,.no])=some [.str r]:=zA (zm (x:=.lst ls) (y:=.int 0) rfl rfl L) ym
 have g:∀ n p l k:Sl,zdP (za (eSl slD (zc 1) (z0 (eC (.int 1))) z4) zh) (visF [.v (.str x),.v (.lst ls),n,p,l,k])=some (ws 2 (a.map .str)):=λn p l k=>by
  unfold zdP
  rw[zA (zaR (ds:=ls) rfl) ym,t4,<- c]
  rfl
 have b:=WZ (B r (.head _))
 have e:∀ h:xR,XT (xIf (zV (tOf (eUn (yq .str) (zc 0)))) (xRI (VM 11 2) (za (eC (.int 0)) zh)) xNo) (sIf (zV (tOf (eUn (yq .str) (zc 0)))) sNo zG) (XT xNo (yf false 1 (yy (wT yV (zc 0) (za (eC (.str "\n")) zh)))) h) [.v (.str x),.no,.no,.no,.no,.no]=h [.v (.str x),.v (.lst ls),.no,.no,.no,.no]:=λh=>by
  rw[V7 ((zbC u).trans rfl) ((xL (h:=zG) u).trans rfl),V7 rfl C]
 have H:V5 1 yo (za (zd ixD (zc 1) (eC (.int 0))) zh) (visG [.v (.str x),.v (.lst ls),.no,.no,.no,.no])=yo [.str r]:=by
  unfold V5
  rw[I,t4]
  rfl
 cases o:Zb r with
 | none =>
  rw[o]at b
  rw[Y8,o]
  show Yw [.v (.str x),.no,.no,.no,.no,.no]=_
  unfold Yw
  rw[e]
  unfold XT xEx
  rw[H,show yo [.str r]=some (Zc 1)from b]
 | some m =>
  rw[o]at b
  obtain⟨P,N,F⟩:=b
  rw[Y8,o]
  dsimp only
  have G:yf false 2 (x6 (za (zq 1 wC (za (zd ixD (zc 1) (eC (.int 0))) zh)) (za (x6 zh) zh))) [.v (.str x),.v (.lst ls),.no,.no,.no,.no]=.nx [.v (.str x),.v (.lst ls),.v (wI m []),.no,.no,.no]:=Yi (zdj (ds:=[.int m,.tup []]) (zA (xi (ds:=[.str r]) I N) (zA rfl ym)) (by show 2<=1000;decide))
  have w:(xEx (V5 1 yo (za (zd ixD (zc 1) (eC (.int 0))) zh))) [.v (.str x),.v (.lst ls),.no,.no,.no,.no]=none:=H.trans P
  have t:vY m []:=⟨F.1,F.2,λ_ z=>(nomatch z),.nil⟩
  have d:=zdB (m:=m) (T:=.str x) (ls:=ls) (by omega) a 2 [] .no .no .no t (by show 0+_<=60;omega) λy M=>B y (.tail _ M)
  rw[f]at d
  have ex:xN [.str x]=XT (zhC (zdP (za (eSl slD (zc 1) (z0 (eC (.int 1))) z4) zh)) bT gR z3) (vi (zdP (za (eSl slD (zc 1) (z0 (eC (.int 1))) z4) zh)) bT z3) (xRI (VM 11 2) (za (zd yb (eFn xk (za (zc 1) zh)) (eC (.int 1))) zh)) [.v (.str x),.v (.lst ls),.v (wI m []),.no,.no,.no]:=by
   show Yw [.v (.str x),.no,.no,.no,.no,.no]=_
   unfold Yw
   exact(e _).trans (V7 w G)
  have v:zhC (zdP (za (eSl slD (zc 1) (z0 (eC (.int 1))) z4) zh)) bT gR z3 [.v (.str x),.v (.lst ls),.v (wI m []),.no,.no,.no]=YD bT gR z3 (ws 2 (a.map .str)) [.v (.str x),.v (.lst ls),.v (wI m []),.no,.no,.no]:=by
   unfold zhC
   rw[g]
  have s:vi (zdP (za (eSl slD (zc 1) (z0 (eC (.int 1))) z4) zh)) bT z3 [.v (.str x),.v (.lst ls),.v (wI m []),.no,.no,.no]=WP bT z3 (ws 2 (a.map .str)) [.v (.str x),.v (.lst ls),.v (wI m []),.no,.no,.no]:=by
   unfold vi
   rw[g]
  cases E:zdM m (a.length+1) 2 [] a with
  | none =>
   rw[E]at d
   obtain⟨A,n,p,l,k,q⟩:=d
   show xN [.str x]=some (Zc (a.length+2))
   rw[ex,V7 (v.trans A) (s.trans q)]
   have K:za (zd yb (eFn xk (za (zc 1) zh)) (eC (.int 1))) zh (visG [.v (.str x),.v (.lst ls),n,p,l,k])=some [.int ((a.length+2:Nat):Int)]:=by
    refine zA (zm (x:=.int (ls.length:Nat)) (y:=.int 1) (vd (ds:=[.lst ls]) rfl rfl) rfl ?_) ym
    show some (D.int ((ls.length:Nat)+1))=_
    rw[f]
    rfl
   unfold xRI
   rw[K,t4]
   exact VE _
  | some O =>
   rw[E]at d
   cases O with
   | no j =>
    show xN [.str x]=some (Zc j)
    rw[ex]
    exact zeC (v.trans d)
   | yes S U h =>
    obtain⟨A,q⟩:=d
    refine⟨?_,?_⟩
    .rw[ex]
     unfold XT
     rw[v,A,s,q]
    .refine XO (ρ:=[.v (.str x),.no,.no,.no,.no,.no]) rfl ?_
     unfold za2
     refine zJ ((xL (h:=zG) u).trans rfl) (zJ C (zJ G (xj (Yd (s.trans q) rfl))))
def zev (T:Txt P w K mg base ad):T.Px 12 7 1 xN:=by
 letI:KK:=⟨K,ad.dk⟩
 have G_is_web:=VF T
 have G_are_stones:=Y9 T
 have G_numbers_behind:=y8 T
 have G_many_read:=ZD T
 have X_many_read:=We T
 refine zfK (cl:=clT ad) (N:=(Rw 12).N) (ps:=(Rw 12).ps) (T.d 12).fn (sc 12) (gx:=Yw) λd A outer s H E c=>?_
 unfold Yw z3
 exact(vx (za8 (xK (xV (Y6 .str rfl (T.z "isinstance" (by decide)) (edv 0) (vu (v:=.ty "str") rfl (T.z "str" (by decide)) YZ rfl)))) (wB (vf (cl:=clT ad) ⟨T.g_NoText,T.ei_NoText,T.ea_NoText,Yu T.na_NoText⟩ (wu T) T.bi_NoText (Yc (zdV ad) (show 11<16 by decide)) (c.mono (by decide)) rfl (zb (zg zf) ze))) YJ) (SD.nox (xt (xK (xV (Y6 .str rfl (T.z "isinstance" (by decide)) (edv 0) (vu (v:=.ty "str") rfl (T.z "str" (by decide)) YZ rfl)))) (zl y9) yw))
  (vx ZU (SD.nox (yn (m:=false) (i:=1) (sc 12).nd rfl (Or.inl rfl) (x9 (wM (edv 0) (zb (zD zE) ze) (λa b=>vV k8 f9 g0 wO a b)))))
  (vx (zfy (i:=2) (sc 12).nd rfl (Or.inl rfl) (zhR (zgL (zdh (X_many_read.mono (by decide)) X0 c rfl (T.d 11).at_ (T.d 11).kp (T.d 11).bd (zb (yO (edv 1) (zg zf) (λ_ _=>rfl)) ze))))) (SD.nox (yn (m:=false) (i:=2) (sc 12).nd rfl (Or.inl rfl) (xD (zb (zt G_many_read c rfl (T.d 11) (zb (yO (edv 1) (zg zf) (λ_ _=>rfl)) ze)) (zb (xD ze) ze)))))
  (vx (zib PassesOwn.leaving rfl (zc2 rfl (T.z "enumerate" (by decide)) xA (zb (yM (edv 1) (xh (zg zf)) xg) ze)) (XU rfl (xH (xG (yx (i:=3) (sc 12).nd rfl (Or.inl rfl))) (xH (xG (yx (i:=4) (sc 12).nd rfl (Or.inl rfl))) Zg))) (vx ZU (SD.nox (yn (m:=false) (i:=5) (sc 12).nd rfl (Or.inl rfl) (zt G_numbers_behind c rfl (T.d 10) (zb (zD zE) (zb (edv 4) ze)))))
  (wB (za8 (zL Yl wX (zP _) (edv 5) (wj wk)) (vx ZU (SD.nox (yn (m:=false) (i:=2) (sc 12).nd rfl (Or.inl rfl) (xD (zb (yO (edv 2) (zg zf) (λ_ _=>rfl)) (zb (zN (yO (edv 2) (zg zf) (λ_ _=>rfl)) (xD (zb (zt G_numbers_behind c rfl (T.d 10) (zb (zD zE) (zb (edv 4) ze))) ze))) ze)))))
  (wB (za8 (xK (xV (zt G_is_web c rfl (T.d 7) (zb (edv 2) ze)))) (wB (vf (cl:=clT ad) ⟨T.g_NoText,T.ei_NoText,T.ea_NoText,Yu T.na_NoText⟩ (wu T) T.bi_NoText (Yc (zdV ad) (show 11<16 by decide)) (c.mono (by decide)) rfl (zb (edv 3) ze))) YJ))) (wB (za8 (xK (xV (zt G_are_stones c rfl (T.d 8) (zb (edv 2) (zb (edv 5) ze))))) (wB (vf (cl:=clT ad) ⟨T.g_NoText,T.ei_NoText,T.ea_NoText,Yu T.na_NoText⟩ (wu T) T.bi_NoText (Yc (zdV ad) (show 11<16 by decide)) (c.mono (by decide)) rfl (zb (edv 3) ze))) (wB (za8 (zL zac zY (zP _) (edv 3) (zR zI xf rfl (T.z "len" (by decide)) xB (zb (edv 1) ze))) (wB (vf (cl:=clT ad) ⟨T.g_NoText,T.ei_NoText,T.ea_NoText,Yu T.na_NoText⟩ (wu T) T.bi_NoText (Yc (zdV ad) (show 11<16 by decide)) (c.mono (by decide)) rfl (zb (zN (edv 3) (zg zf)) ze))) YJ))))))) (SDs.nox (zk (yn (m:=false) (i:=5) (sc 12).nd rfl (Or.inl rfl) (zt G_numbers_behind c rfl (T.d 10) (zb (zD zE) (zb (edv 4) ze))))
  (zl (xt (zL Yl wX (zP _) (edv 5) (wj wk)) (zk (yn (m:=false) (i:=2) (sc 12).nd rfl (Or.inl rfl) (xD (zb (yO (edv 2) (zg zf) (λ_ _=>rfl)) (zb (zN (yO (edv 2) (zg zf) (λ_ _=>rfl)) (xD (zb (zt G_numbers_behind c rfl (T.d 10) (zb (zD zE) (zb (edv 4) ze))) ze))) ze))))
  (zl (xt (xK (xV (zt G_is_web c rfl (T.d 7) (zb (edv 2) ze)))) (zl y9) yw))) (zl (xt (xK (xV (zt G_are_stones c rfl (T.d 8) (zb (edv 2) (zb (edv 5) ze))))) (zl y9) (zl (xt (zL zac zY (zP _) (edv 3) (zR zI xf rfl (T.z "len" (by decide)) xB (zb (edv 1) ze))) (zl y9) (zl (yB (xD (zb (edv 2) (zb (edv 5) ze)))))))))))))) (SD.nox (Xa u0a rfl (zc2 rfl (T.z "enumerate" (by decide)) xA (zb (yM (edv 1) (xh (zg zf)) xg) ze)) (XU rfl (xH (xG (yx (i:=3) (sc 12).nd rfl (Or.inl rfl))) (xH (xG (yx (i:=4) (sc 12).nd rfl (Or.inl rfl))) Zg))) (zk (yn (m:=false) (i:=5) (sc 12).nd rfl (Or.inl rfl) (zt G_numbers_behind c rfl (T.d 10) (zb (zD zE) (zb (edv 4) ze))))
  (zl (xt (zL Yl wX (zP _) (edv 5) (wj wk)) (zk (yn (m:=false) (i:=2) (sc 12).nd rfl (Or.inl rfl) (xD (zb (yO (edv 2) (zg zf) (λ_ _=>rfl)) (zb (zN (yO (edv 2) (zg zf) (λ_ _=>rfl)) (xD (zb (zt G_numbers_behind c rfl (T.d 10) (zb (zD zE) (zb (edv 4) ze))) ze))) ze))))
  (zl (xt (xK (xV (zt G_is_web c rfl (T.d 7) (zb (edv 2) ze)))) (zl y9) yw))) (zl (xt (xK (xV (zt G_are_stones c rfl (T.d 8) (zb (edv 2) (zb (edv 5) ze))))) (zl y9) (zl (xt (zL zac zY (zP _) (edv 3) (zR zI xf rfl (T.z "len" (by decide)) xB (zb (edv 1) ze))) (zl y9) (zl (yB (xD (zb (edv 2) (zb (edv 5) ze))))))))))))))
  (wB (vf (cl:=clT ad) ⟨T.g_NoText,T.ei_NoText,T.ea_NoText,Yu T.na_NoText⟩ (wu T) T.bi_NoText (Yc (zdV ad) (show 11<16 by decide)) (c.mono (by decide)) rfl (zb (zN (zR zI xf rfl (T.z "len" (by decide)) xB (zb (edv 1) ze)) (zg zf)) ze)))))))
def vr (m:Int) (a:y6) (h:zB):zr:=YC (Str.ofString "web") [m]::(a.map λt=>YC (Str.ofString "tie") [t.1,t.2])++[YC (Str.ofString "heap") h]
def XB (m:Int) (a:y6) (h:zB):Str:=Txt.join (Str.ofString ";") (vr m a h)
structure ZA (m:Int) (ts:y6) (h:zB):Prop where
 ok:vY m ts
 few:ts.length<=28
 len:(h.length:Int)=m
 nn:∀ x∈h,0<=x
 sum:h.sum<=300
section
variable {m:Int}{ts:y6}{h:zB}(A:ZA m ts h)
include A
theorem ZA.nW:vS [m]:=⟨by show 1<=8;decide,λn a=>by rw[t2.mp a];have:=A.ok.lo;have:=A.ok.hi;omega⟩
theorem ZA.nT (b:t∈ts):vS [t.1,t.2]:=⟨by show 2<=8;decide,λn a=>by
 have r:=A.ok.rng t b
 have:=A.ok.hi
 rcases q3.mp a with rfl | a
 .omega
 .rw[t2.mp a];omega⟩
theorem ZA.nH:vS h:=⟨by have:=A.len;have:=A.ok.hi;omega,λn e=>⟨A.nn n e,by
 have g:=A.sum
 have b:∀ l:zB,(∀ x∈l,0<=x)->n∈l->n<=l.sum:=λl=>by
  induction l with
  | nil=>intro _ z;cases z
  | cons a l f =>
   intro d z
   rw[List.sum_cons]
   have h0:=d a (.head _)
   have i:0<=l.sum:=zfg λx c=>d x (.tail _ c)
   rcases q3.mp z with rfl | z
   .omega
   .have:=f (λx c=>d x (.tail _ c)) z;omega
 have:=b h A.nn e
 omega⟩⟩
theorem ZA.rows:∀ r∈vr m ts h,r.length<=45/\∀ c∈r.cps.toList,32<=c/\c<=122:=λr a=>by
 unfold vr at a
 rcases k6.mp a with a | a
 .rcases q3.mp a with rfl | a
  .exact⟨Wc zgh A.nW,Zv zgh A.nW⟩
  .obtain⟨t,b,rfl⟩:=i4.mp a
   exact⟨Wc zgQ (A.nT b),Zv zgQ (A.nT b)⟩
 .rw[t2.mp a]
  exact⟨Wc za3 A.nH,Zv za3 A.nH⟩
theorem ZA.count:(vr m ts h).length=ts.length+2/\(vr m ts h).length<=30:=by
 have e:(vr m ts h).length=ts.length+2:=by
  unfold vr
  rw[q5,j8,t1]
  rfl
 have:=A.few
 exact⟨e,by omega⟩
end
def ze5 {w:Str}{P:Nat->Prop}(hw:YO w)(i:vS ns)(h0:P 32)(j:∀ c,48<=c->c<=57->P c)(k:∀ c,97<=c->c<=122->P c):∀ c∈(YC w ns).cps.toList,P c:=by
 have l:YC w ns=Str.join (Str.ofString " ") (w::ns.map nS):=f6 _ _
 rw[l,Wz,Xk]
 have f:∀ A:zad,(∀ a∈A,∀ c∈a,P c)->∀ c∈gl 32 A,P c:=λA=>by
  induction A with
  | nil=>intro _ c b;cases b
  | cons x r m =>
   intro h c b
   cases r with
   | nil=>exact h x (.head _) c b
   | cons y r =>
    rcases k6.mp (show c∈x++32::gl 32 (y::r)from b)with b | b
    .exact h x (.head _) c b
    .rcases q3.mp b with rfl | b
     .exact h0
     .exact m (λa g=>h a (.tail _ g)) c b
 refine f _ λa g c b=>?_
 obtain⟨s,e,rfl⟩:=i4.mp g
 rcases q3.mp e with rfl | e
 .have:=hw.asc c b
  exact k c this.1 this.2
 .obtain⟨n,d,rfl⟩:=i4.mp e
  have:=(zby (i.rng n d).1 (i.rng n d).2).1 c b
  exact j c this.1 this.2
section
variable {m:Int}{ts:y6}{h:zB}(A:ZA m ts h)
include A
theorem ZA.nosemi:∀ r∈vr m ts h,59∉r.cps.toList:=λr a z=>by
 have b:∀ {w:Str} {ns:zB},YO w->vS ns->59∉(YC w ns).cps.toList:=λ{w ns} hw hn z=>ze5 (P:=λc=>c≠59) hw hn (by decide) (λc _ _=>by omega) (λc _ _=>by omega) 59 z rfl
 unfold vr at a
 rcases k6.mp a with a | a
 .rcases q3.mp a with rfl | a
  .exact b zgh A.nW z
  .obtain⟨t,d,rfl⟩:=i4.mp a
   exact b zgQ (A.nT d) z
 .rw[t2.mp a]at z
  exact b za3 A.nH z
theorem ZA.asc:∀ r∈vr m ts h,Asc r/\r.length<=45:=λr a=>⟨⟨(A.rows r a).2,k9 (A.rows r a).1 (by decide)⟩,(A.rows r a).1⟩
theorem ZA.join:WI (.str (Str.ofString ";")) (.lst ((vr m ts h).map .str))=some (.str (XB m ts h)):=by
 show(ZL ((vr m ts h).map .str)).bind _=_
 have c:=A.count.2
 rw[Zx,t4,j0 (V3 (B:=45) (λy a=>(A.rows y a).1) ?_)]
 .rfl
 .have b:(Str.ofString ";").length=1:=by decide
  rw[b]
  omega
theorem ZA.splitS:yV (.str (XB m ts h)) (.str (Str.ofString ";"))=some ((vr m ts h).map .str):=by
 have a:=A.count
 have c:Txt.split (XB m ts h) (Str.ofString ";")=vr m ts h:=by
  unfold XB
  rw[show Str.ofString ";"=⟨#[59]⟩ by decide]
  exact XX (λz=>by rw[z]at a;cases a.1) A.nosemi
 have b:XB m ts h=Str.join (Str.ofString ";") (vr m ts h):=f6 _ _
 have f:=u02 (Str.ofString ";") (vr m ts h)
 have g:=u1X (vr m ts h) (λy e=>(A.rows y e).1)
 have d:(Str.ofString ";").length=1:=by decide
 rw[<-b,d]at f
 show(if ((Str.ofString ";").length == 0)=false/\(XB m ts h).length<=100000/\(Txt.split (XB m ts h) (Str.ofString ";")).length<=100000 then some ((Txt.split (XB m ts h) (Str.ofString ";")).map D.str)else none)=_
 rw[c]
 exact j0 ⟨by decide,by omega,by omega⟩
end
def WN (t:Tie):Str:=YC (Str.ofString "tie") [t.1,t.2]
abbrev vo :=vR false 3 (zd yb (zd yb (zd yb (eC (.str "tie ")) (eFn zae (za (zc 4) zh))) (eC (.str " "))) (eFn zae (za (zc 5) zh)))
abbrev vq :=zS (Yj 3 (zW (za (zd yb (eC (.str "web ")) (eFn zae (za (zd ixD (zc 0) (eC (.int 0))) zh))) zh)))
  (zS (vi (iOf (zd ixD (zc 0) (eC (.int 1)))) (v6 2 (yG (yp 4) (yG (yp 5) Ya))) vo)
  (sFz 3 (yI (Vn WI (zc 2) (za (zd yb (zc 3) (yy (zW (za (Vn WI (eC (.str " ")) (za (zd yb (yy (zW (za (eC (.str "heap")) zh))) (yy (fLC (iOf (zc 1)) b1 yj (eFn zae (za (zc 0) zh))))) zh)) zh)))) zh)))))
def YA:=fnD 6 vq
def zha (w:Str) (n:Int):YC w [n]=w++Str.ofString " "++nS n:=f6 _ _
def zgY (w:Str) (a b:Int):YC w [a,b]=w++Str.ofString " "++(nS a++Str.ofString " "++nS b):=f6 _ _
def ziP:Str.ofString "web "=Str.ofString "web"++Str.ofString " ":=by decide
def zhI:Str.ofString "tie "=Str.ofString "tie"++Str.ofString " ":=by decide
def YS {a b:Str}(h:a.length+b.length<=1000):yb (.str a) (.str b)=some (.str (a++b)):=by
 show(if lim (a.length+b.length)=true then _ else none)=_
 rw[j0 (wK h)]
def Wy (a b:Str):(a++b).length=a.length+b.length:=by
 show(a.cps++b.cps).size=_
 rw[Array.size_append]
 rfl
def zcH:(Str.ofString " ").length=1:=by decide
def Wm:(Str.ofString "tie ").length=4:=by decide
def zdx:(Str.ofString "web ").length=4:=by decide
def zeW (f:vS [t.1,t.2]) (m:zc 4 ρ=some (.int t.1)) (g:zc 5 ρ=some (.int t.2)):zd yb (zd yb (zd yb (eC (.str "tie ")) (eFn zae (za (zc 4) zh))) (eC (.str " "))) (eFn zae (za (zc 5) zh)) ρ=some (.str (WN t)):=by
 have c:=f.rng t.1 (.head _)
 have d:=f.rng t.2 (.tail _ (.head _))
 have o:=(zby c.1 c.2).2
 have n:=(zby d.1 d.2).2
 have i:eFn zae (za (zc 4) zh) ρ=some (.str (nS t.1)):=vd (ds:=[.int t.1]) (zA m ym) (WB c.1 c.2)
 have j:eFn zae (za (zc 5) zh) ρ=some (.str (nS t.2)):=vd (ds:=[.int t.2]) (zA g ym) (WB d.1 d.2)
 have k:=YS (a:=Str.ofString "tie ") (b:=nS t.1) (by rw[Wm];omega)
 have l:=YS (a:=Str.ofString "tie "++nS t.1) (b:=Str.ofString " ") (by rw[Wy,Wm,zcH];omega)
 have h:=YS (a:=Str.ofString "tie "++nS t.1++Str.ofString " ") (b:=nS t.2) (by rw[Wy,Wy,Wm,zcH];omega)
 have e:WN t=Str.ofString "tie "++nS t.1++Str.ofString " "++nS t.2:=by
  unfold WN
  rw[zgY,zhI]
  simp only[Str.append_assoc]
 rw[e]
 exact zm (zm (zm (x:=.str (Str.ofString "tie ")) rfl i k) (y:=.str (Str.ofString " ")) rfl l) j h
def zgj {h:zB} (A:ZA m c h):YA [wI m c,.tup (h.map .int),.str (Str.ofString ";")]=some (.str (XB m c h)):=by
 have B:=A.few
 have k:=A.nW.rng m (.head _)
 have C:=(zby k.1 k.2).2
 refine XO (ρ:=[.v (wI m c),.v (.tup (h.map .int)),.v (.str (Str.ofString ";")),.no,.no,.no]) rfl ?_
 unfold vq
 have r:zd yb (eC (.str "web ")) (eFn zae (za (zd ixD (zc 0) (eC (.int 0))) zh)) (visF [.v (wI m c),.v (.tup (h.map .int)),.v (.str (Str.ofString ";")),.no,.no,.no])=some (.str (YC (Str.ofString "web") [m])):=by
  have v:=YS (a:=Str.ofString "web ") (b:=nS m) (by rw[zdx];omega)
  rw[zha,<- ziP]
  exact zm (x:=.str (Str.ofString "web ")) rfl (vd (ds:=[.int m]) rfl (WB k.1 k.2)) v
 refine zJ (ρ':=[.v (wI m c),.v (.tup (h.map .int)),.v (.str (Str.ofString ";")),.o ((YC (Str.ofString "web") [m]::(c.take 0).map WN).map .str),.no,.no]) (zg4 (Xc (zA r ym) (by show 1<=1000;decide))) ?_
 refine xj (Vv (ds:=c.map zv) (λi ρ=>∃ g f,ρ=[.v (wI m c),.v (.tup (h.map .int)),.v (.str (Str.ofString ";")),.o ((YC (Str.ofString "web") [m]::(c.take i).map WN).map .str),g,f]) rfl ⟨_,_,rfl⟩ ?_ ?_)
 .rintro i d ρ p ⟨g,f,rfl⟩
  rw[j7]at p
  obtain⟨t,o,rfl⟩:=t0.mp p
  have j:=o7 o
  refine⟨[.v (wI m c),.v (.tup (h.map .int)),.v (.str (Str.ofString ";")),.o ((YC (Str.ofString "web") [m]::(c.take i).map WN).map .str),.v (.int t.1),.v (.int t.2)],rfl,?_⟩
  unfold vo
  refine ZO (zaK (m:=false) (i:=3) (d:=.str (WN t)) (ds:=(YC (Str.ofString "web") [m]::(c.take i).map WN).map .str) (by unfold vEv;rw[j6 u9];exact zeW (A.nT j) rfl rfl) rfl (by rw[t1,j8,t1,r0];omega)) ⟨.v (.int t.1),.v (.int t.2),?_⟩
  have l:c.take (i+1)=c.take i++[t]:=by rw[List.take_add_one,o];rfl
  have e:(YC (Str.ofString "web") [m]::(c.take (i+1)).map WN).map D.str=(YC (Str.ofString "web") [m]::(c.take i).map WN).map D.str++[.str (WN t)]:=by
   rw[l,o4,<- List.cons_append,o4]
   rfl
  rw[e]
  rfl
 .rintro ρ ⟨g,f,rfl⟩
  rw[t1,u1h]
  refine zh9 (ρ':=[.v (wI m c),.v (.tup (h.map .int)),.v (.str (Str.ofString ";")),.v (.lst ((YC (Str.ofString "web") [m]::c.map WN).map .str)),g,f]) rfl (Yd (d:=.str (XB m c h)) (xQ ?_) rfl)
  have w:zd yb (yy (zW (za (eC (.str "heap")) zh))) (yy (fLC (iOf (zc 1)) b1 yj (eFn zae (za (zc 0) zh)))) (visG [.v (wI m c),.v (.tup (h.map .int)),.v (.str (Str.ofString ";")),.v (.lst ((YC (Str.ofString "web") [m]::c.map WN).map .str)),g,f])=some (.lst ((Str.ofString "heap"::h.map nS).map .str)):=by
   refine zm (x:=.lst [.str (Str.ofString "heap")]) (y:=.lst ((h.map nS).map .str)) rfl (vH (zg3 (zaH (d:=.tup (h.map .int)) rfl rfl) A.nH)) ?_
   rw[Y1 (by rw[t1,t1];have:=A.nH.few;show 1+_<=1000;omega)]
   rfl
  have n:Vn WI (eC (.str " ")) (za (zd yb (yy (zW (za (eC (.str "heap")) zh))) (yy (fLC (iOf (zc 1)) b1 yj (eFn zae (za (zc 0) zh))))) zh) (visG [.v (wI m c),.v (.tup (h.map .int)),.v (.str (Str.ofString ";")),.v (.lst ((YC (Str.ofString "web") [m]::c.map WN).map .str)),g,f])=some (.str (YC (Str.ofString "heap") h)):=by
   unfold Vn
   rw[zA w ym]
   exact zec za3 A.nH
  generalize q:visG [.v (wI m c),.v (.tup (h.map .int)),.v (.str (Str.ofString ";")),.v (.lst ((YC (Str.ofString "web") [m]::c.map WN).map .str)),g,f]=E0 at n
  have s:zc 3 E0=some (.lst ((YC (Str.ofString "web") [m]::c.map WN).map .str)):=by rw[<-q];rfl
  have u:zc 2 E0=some (.str (Str.ofString ";")):=by rw[<-q];rfl
  have z:yb (.lst ((YC (Str.ofString "web") [m]::c.map WN).map .str)) (.lst [.str (YC (Str.ofString "heap") h)])=some (.lst ((vr m c h).map .str)):=by
   rw[Y1 (by rw[t1,j8,t1];show _+1<=1000;omega)]
   congr 2
   show(YC (Str.ofString "web") [m]::c.map WN).map D.str++[YC (Str.ofString "heap") h].map D.str=_
   rw[<-o4]
   rfl
  exact zbT u (zA (zm s (vH (Xc (zA n ym) (by show 1<=1000;decide))) z) ym) A.join
def W7 (T:Txt P w K mg base ad):T.Pr 18 1 3 YA:=by
 letI:KK:=⟨K,ad.dk⟩
 refine ZP (N:=(Rw 18).N) (ps:=(Rw 18).ps) (T.d 18).fn (sc 18) (g:=vq) λc A outer s H E d=>?_
 unfold vq vo
 exact(zk (za4 (i:=3) (sc 18).nd rfl (Or.inl rfl) (xX (zb (zN (zD zE) (yQ wP Wt rfl (T.z "str" (by decide)) YZ (zb (yO (edv 0) (zg zf) (λ_ _=>rfl)) ze))) ze)))
  (zk (Xa u0a rfl (XI (yO (edv 0) (zg zf) (λ_ _=>rfl))) (XU rfl (xH (xG (yx (i:=4) (sc 18).nd rfl (Or.inl rfl))) (xH (xG (yx (i:=5) (sc 18).nd rfl (Or.inl rfl))) Zg))) (zl (zaN (m:=false) (pv 3) (zN (zN (zN (zD zE) (yQ wP Wt rfl (T.z "str" (by decide)) YZ (zb (edv 4) ze))) (zD zE)) (yQ wP Wt rfl (T.z "str" (by decide)) YZ (zb (edv 5) ze))) (λa b=>vV l0 u0n u0p YQ a b))))
  (W9 3 (zl (yB (zaj (edv 2) (zb (zN (edv 3) (x9 (xX (zb (zaj (zD zE) (zb (zN (x9 (xX (zb (zD zE) ze))) (x9 (zdC (L:=["stones"]) (M:=["web","heap","between","rows","a","b"]) rfl (XN (by rfl) (by rfl) (by rfl) (by with_unfolding_all rfl) (by rfl) (by rfl) (by kernel_rfl) vz) (XI (edv 1)) gs1 rb1 (λ_ _ _ _=>(yx (i:=0) zkd rfl (Or.inl rfl) (.inr rfl))) (λ_ _ _ _=>(yQ wP Wt rfl (T.z "str" (by decide)) YZ (zb (edv 0) ze)))))) ze) (λa b=>vV k8 u1d u1e zam a b)) ze)))) ze) (λa b=>vV k8 u1d u1e zam a b)))))))
abbrev xp :=zS (sIf (yX (tOf (zd vL (zc 2) (eC (.str "")))) (yX (tOf (zd gtD (eFn Zr (za (zc 2) zh)) (eC (.int 3)))) (tOf (zd gtD (eFn xk (za (yy (fLC (iTx (zc 2)) b1 (tOf (zd v0 (zc 0) (eC (.str "0123456789")))) (zc 0))) zh)) (eC (.int 0)))))) (yI (eC .non)) zG)
  (zS (sIf (yD (tOf (zd vL (zd zd5 (zc 2) (eC (.int 0))) (eC (.str "0")))) (tOf (zd gtD (eFn Zr (za (zc 2) zh)) (eC (.int 1))))) (yI (eC .non)) zG)
  (vR false 1 (eFn zbw (za (zc 2) zh))))
abbrev xU :=zS (Yj 1 (zW zh))
  (zS (vi (iOf (eSl slD (yy (wT yV (zc 0) (za (eC (.str " ")) zh))) (z0 (eC (.int 1))) z4)) (yp 2) xp)
  (sFz 1 (yI (zc 1))))
def yF:=fnD 3 xU
def zif {w:Str} (A:Asc w) (h:zc 2 ρ=some (.str w)):zd gtD (eFn xk (za (yy (fLC (iTx (zc 2)) b1 (tOf (zd v0 (zc 0) (eC (.str "0123456789")))) (zc 0))) zh)) (eC (.int 0)) ρ=some (.bl (!w.cps.toList.all vc)):=by
 have b:fLC (iTx (zc 2)) b1 (tOf (zd v0 (zc 0) (eC (.str "0123456789")))) (zc 0) ρ=some ((w.cps.toList.filter λc=>!vc c).map λc=>.str ⟨#[c]⟩):=by
  unfold fLC iTx
  rw[h,t4,A.signs,t4,j0 (wK (by rw[t1,wS];have:=A.l;omega))]
  exact XQ (λc=>D.str ⟨#[c]⟩) (λc=>!vc c) (λc=>D.str ⟨#[c]⟩) _ λc a=>⟨[some (.str ⟨#[c]⟩)],rfl,yP (zm (x:=.str ⟨#[c]⟩) rfl rfl (zfM (A.c c a).2).2),λ_=>rfl⟩
 refine zm (x:=.int (((w.cps.toList.filter λc=>!vc c).length:Nat):Int)) (y:=.int 0) (vd (ds:=[.lst ((w.cps.toList.filter λc=>!vc c).map λc=>.str ⟨#[c]⟩)]) (zA (vH b) ym) ?_) rfl ?_
 .show some (D.int _)=_
  rw[t1]
 .show some (D.bl (decide ((0:Int)<_)))=_
  congr 2
  cases e:w.cps.toList.all vc with
  | true =>
   have:w.cps.toList.filter (λc=>!vc c)=[]:=List.filter_eq_nil_iff.mpr λc a=>by rw[k7.mp e c a];decide
   rw[this]
   rfl
  | false =>
   obtain⟨c,a,f⟩:=List.all_eq_false.mp e
   have d:c∈w.cps.toList.filter (λc=>!vc c):=u2b.mpr ⟨a,by rw[Bool.eq_false_iff.mpr f];rfl⟩
   have:=List.length_pos_of_mem d
   exact u8 (by omega)
def zel {w:Str}{a:zo}(A:Asc w)(u:a.length<=900):xp [.v R,.o a,.v (.str w)]=match nwF w with
 | some n=>.nx [.v R,.o (a++[.int n]),.v (.str w)]
 | none=>.rt .non:=by
 have f:decide (w=Str.ofString "")=decide (w.length=0):=by
  by_cases c:w.length=0
  .have:w=Str.ofString "":=VU (by
    have:w.cps.toList=[]:=i7.mp (by rw[wS];exact c)
    rw[this]
    rfl)
   rw[u8 c,u8 this]
  .rw[u7 c,u7]
   intro z
   rw[z]at c
   exact c (by decide)
 have r:tOf (zd vL (zc 2) (eC (.str ""))) (visG [.v R,.o a,.v (.str w)])=some (decide (w.length=0)):=yP (zm (x:=.str w) rfl rfl (by rw[zM,f]))
 have j:yX (tOf (zd vL (zc 2) (eC (.str "")))) (yX (tOf (zd gtD (eFn Zr (za (zc 2) zh)) (eC (.int 3)))) (tOf (zd gtD (eFn xk (za (yy (fLC (iTx (zc 2)) b1 (tOf (zd v0 (zc 0) (eC (.str "0123456789")))) (zc 0))) zh)) (eC (.int 0))))) (visG [.v R,.o a,.v (.str w)])=some (!zbM w):=by
  refine(W1 r (W1 (yP (zcM (k:=3) (i:=2) A rfl)) (yP (zif A rfl)))).trans ?_
  unfold zbM
  have o:decide (w.length=0)=!decide (1<=w.length):=by
   by_cases c:w.length=0
   .rw[u8 c,u7 (by omega)];rfl
   .rw[u7 c,u8 (by omega)];rfl
  have q:decide (3<w.length)=!decide (w.length<=3):=by
   by_cases c:w.length<=3
   .rw[u8 c,u7 (by omega)];rfl
   .rw[u7 c,u8 (by omega)];rfl
  rw[o,q]
  cases decide (1<=w.length) <;> cases decide (w.length<=3) <;> cases w.cps.toList.all vc <;> rfl
 unfold xp
 cases b:zbM w with
 | false =>
  rw[b]at j
  have e:nwF w=none:=by
   unfold nwF
   rw[j6 (by rw[b];exact λz=>u9 z.1)]
  rw[e]
  unfold zS
  rw[xF j]
  rfl
 | true =>
  rw[b]at j
  have t:1<=w.length:=by
   unfold zbM at b
   rw[t5,t5]at b
   exact t6 b.1.1
  have g:yD (tOf (zd vL (zd zd5 (zc 2) (eC (.int 0))) (eC (.str "0")))) (tOf (zd gtD (eFn Zr (za (zc 2) zh)) (eC (.int 1)))) (visG [.v R,.o a,.v (.str w)])=some (zb8 w):=zfC (yP (zaE (i:=2) A t rfl)) (yP (zcM (k:=1) (i:=2) A rfl))
  obtain⟨n,s,p,_,_⟩:=A.int b
  rw[xx ((xL (h:=zG) j).trans rfl)]
  cases l:zb8 w with
  | true =>
   rw[l]at g
   have e:nwF w=none:=by
    unfold nwF
    rw[j6 (by rw[l];exact λz=>Bool.noConfusion z.2)]
   rw[e]
   unfold zS
   rw[xF g]
   rfl
  | false =>
   rw[l]at g
   have e:nwF w=some n:=by
    unfold nwF
    rw[j0 ⟨b,l⟩,s]
   rw[e,xx ((xL (h:=zG) g).trans rfl)]
   exact zaK (m:=false) (ds:=a) (d:=.int n) (show eFn zbw (za (zc 2) zh) (visF [.v R,.o a,.v (.str w)])=_ from vd (ds:=[.str w]) rfl p) rfl (by omega)
def zcs (A:Asc r):yF [.str r]=some (match Yb r with | some ns=>.lst (ns.map .int) | none=>.non):=by
 obtain⟨⟨h,j,l⟩,q,k⟩:=Vs A
 have m:(tlW r).length<=401:=by unfold tlW;rw[r9];omega
 refine XO (ρ:=[.v (.str r),.no,.no]) rfl ?_
 unfold xU
 refine zJ (ρ':=[.v (.str r),.o [],.no]) rfl ?_
 refine xj (Vv (ds:=(tlW r).map .str) (λi ρ=>∃ o,(∀ w∈(tlW r).take i,(nwF w).isNone=false)/\ρ=[.v (.str r),.o (((tlW r).take i).map λw=>.int ((nwF w).getD 0)),o]) ?_ ⟨_,λ_ z=>(nomatch z),rfl⟩ ?_ ?_)
 .refine zaH (zaR (ds:=(wt r).map .str) (X7 A rfl)) ?_
  show some (((wt r).map D.str).drop 1)=_
  rw[<-u1Z]
  rfl
 .rintro i d ρ g ⟨o,b,rfl⟩
  rw[j7]at g
  obtain⟨w,hw,rfl⟩:=t0.mp g
  refine⟨[.v (.str r),.o (((tlW r).take i).map λw=>.int ((nwF w).getD 0)),.v (.str w)],rfl,?_⟩
  have f:=o7 hw
  have p:=(q4.mp hw).1
  rw[zel (k w (by rw[j];exact .tail _ f)) (by rw[t1,r0];omega)]
  have c:(tlW r).take (i+1)=(tlW r).take i++[w]:=by rw[List.take_add_one,hw];rfl
  cases e:nwF w with
  | none =>
   refine .rt ?_
   unfold Yb
   rw[ZQ,j0 (List.any_eq_true.mpr ⟨w,f,by rw[e];rfl⟩)]
  | some n =>
   refine .nx ⟨.v (.str w),λy a=>?_,?_⟩
   .rw[c]at a
    rcases k6.mp a with a | a
    .exact b y a
    .rw[t2.mp a,e]
     rfl
   .rw[c,o4]
    show _=[Sl.v (.str r),.o (_++[D.int ((nwF w).getD 0)]),_]
    rw[e]
    rfl
 .rintro ρ ⟨o,b,rfl⟩
  rw[t1,u1h]at b ⊢
  refine zh9 rfl (Yd (d:=.lst ((tlW r).map λw=>.int ((nwF w).getD 0))) (xQ rfl) ?_)
  unfold Yb
  rw[ZQ,j6 (by
   rw[Bool.not_eq_true,u1T]
   intro w hw
   rw[b w hw]
   exact u9)]
  show D.lst _=D.lst (((tlW r).map λw=>(nwF w).getD 0).map D.int)
  rw[u1c]
  rfl
def Xf (T:Txt P w K mg base ad):T.Pr 20 1 1 yF:=by
 letI:KK:=⟨K,ad.dk⟩
 refine ZP (N:=(Rw 20).N) (ps:=(Rw 20).ps) (T.d 20).fn (sc 20) (g:=xU) λd A outer s H E c=>?_
 unfold xU xp
 exact(zk (za4 (i:=1) (sc 20).nd rfl (Or.inl rfl) (xX ze))
  (zk (Xa u0a rfl (XI (yM (x9 (wM (edv 0) (zb (zD zE) ze) (λa b=>vV k8 f9 g0 wO a b))) (xh (zg zf)) xg)) (xG (yx (i:=2) (sc 20).nd rfl (Or.inl rfl))) (zk (xt (zbg (v8 (zL (Y5 c) vB (zP _) (edv 2) (zD zE)) (v8 (zL Vr zY (zP _) (zR wL Z2 rfl (T.z "len" (by decide)) xB (zb (edv 2) ze)) (zg zf)) (Yo (zL Vr zY (zP _) (zR zI xf rfl (T.z "len" (by decide)) xB (zb (x9 (zi2 (L:=["sign"]) (M:=["row","found","word"]) rfl (XN (by rfl) (by rfl) (by rfl) (by with_unfolding_all rfl) (by rfl) (by rfl) (by kernel_rfl) vz) (zfA (edv 2)) gs1 rb1 (λ_ _ _ _=>(yx (i:=0) zjI rfl (Or.inl rfl) (.inr rfl))) (λ_ _ _ _=>(zL Vz zbA (by with_unfolding_all rfl) (edv 0) (zD zE))) (λ_ _ _ _=>(edv 0)))) ze)) (zg zf)))))) (zl (yB (wj wk))) yw)
  (zk (xt (zbg (zaO (zL (Y5 c) vB (zP _) (zfw (edv 2) (zg zf) (λ_ _=>rfl)) (zD zE)) (Ws (zL Vr zY (zP _) (zR wL Z2 rfl (T.z "len" (by decide)) xB (zb (edv 2) ze)) (zg zf))))) (zl (yB (wj wk))) yw)
  (zl (zaN (m:=false) (pv 1) (yQ ZM zaG rfl (T.z "int" (by decide)) zaY (zb (edv 2) ze)) (λa b=>vV l0 u0n u0p YQ a b))))))
  (W9 1 (zl (yB (edv 1))))))
abbrev zZ :=zS (yf false 5 (zq 1 yF (za (zc 4) zh)))
  (zS (sIf (yX (tOf (zd XY (zd ixD (yy (wT yV (zc 4) (za (eC (.str " ")) zh))) (eC (.int 0))) (yy (zW (za (eC (.str "tie")) (za (eC (.str "heap")) zh)))))) (tOf (zd wv (zc 5) (eC .non)))) (yI (zd yb (zc 3) (eC (.int 2)))) zG)
  (zS (sIf (tOf (zd vL (zd ixD (yy (wT yV (zc 4) (za (eC (.str " ")) zh))) (eC (.int 0))) (eC (.str "heap")))) (zS (sIf (yX (tOf (zd neD (eFn xk (za (zc 5) zh)) (zd ixD (zc 1) (eC (.int 0))))) (tOf (zd gtD (eFn zhw (za (zc 5) zh)) (eC (.int 300))))) (yI (zd yb (zc 3) (eC (.int 2)))) zG)
  (zS (sIf (tOf (zd gtD (eFn xk (za (zc 0) zh)) (zd yb (zc 3) (eC (.int 2))))) (yI (zd yb (zc 3) (eC (.int 3)))) zG)
  (yI (x6 (za (x6 (za (zd ixD (zc 1) (eC (.int 0))) (za (eFn yc (za (zc 2) zh)) zh))) (za (eFn yc (za (zc 5) zh)) zh)))))) zG)
  (zS (sIf (yX (tOf (zd neD (eFn xk (za (zc 5) zh)) (eC (.int 2)))) (yX (tOf (zd geD (zd ixD (zc 5) (eC (.int 0))) (zd ixD (zc 5) (eC (.int 1))))) (tOf (zd geD (zd ixD (zc 5) (eC (.int 1))) (zd ixD (zc 1) (eC (.int 0))))))) (yI (zd yb (zc 3) (eC (.int 2)))) zG)
  (zS (sIf (yD (tOf (zd zhz (zc 2) (yy (zW zh)))) (tOf (zd leT (eFn yc (za (zc 5) zh)) (zd ixD (zc 2) (eUn Yx (eC (.int 1))))))) (yI (zd yb (zc 3) (eC (.int 2)))) zG)
  (vR false 2 (eFn yc (za (zc 5) zh)))))))
abbrev vv :=zS (yf false 1 (zq 1 yF (za (zd ixD (zc 0) (eC (.int 0))) zh)))
  (zS (sIf (yX (tOf (zd neD (zd ixD (yy (wT yV (zd ixD (zc 0) (eC (.int 0))) (za (eC (.str " ")) zh))) (eC (.int 0))) (eC (.str "web")))) (yX (tOf (zd wv (zc 1) (eC .non))) (yX (tOf (zd neD (eFn xk (za (zc 1) zh)) (eC (.int 1)))) (yX (tOf (zd ltD (zd ixD (zc 1) (eC (.int 0))) (eC (.int 1)))) (tOf (zd gtD (zd ixD (zc 1) (eC (.int 0))) (eC (.int 8)))))))) (yI (eC (.int 1))) zG)
  (zS (Yj 2 (zW zh))
  (zS (vi (ye (za (eSl slD (zc 0) (z0 (eC (.int 1))) z4) zh)) (v6 2 (yG (yp 3) (yG (yp 4) Ya))) zZ)
  (sFz 2 (yI (zd yb (eFn xk (za (zc 0) zh)) (eC (.int 1))))))))
def vD:=fnD 6 vv
def Xw:Option zB->D
 | some ns=>.lst (ns.map .int)
 | none=>.non
def zaW (o:Option zB):wv (Xw o) .non=some (.bl o.isNone):=by cases o <;> rfl
def zcw (A:Asc r):yF [.str r]=some (Xw (Yb r)):=by
 rw[zcs A]
 cases Yb r <;> rfl
def zgu {f:ya} (A:Asc r) (h:f ρ=some (.str r)):zd ixD (yy (wT yV f (za (eC (.str " ")) zh))) (eC (.int 0)) ρ=some (.str (hdW r)):=by
 obtain⟨⟨w,b,a⟩,_,_⟩:=Vs A
 refine zm (x:=.lst ((wt r).map .str)) (y:=.int 0) (X7 A h) rfl ?_
 rw[b,a]
 exact Z7 (by decide) rfl
def zfo {ns:zB}{f:ya}{k:Nat}(h:f ρ=some (.lst (ns.map .int))):tOf (zd neD (eFn xk (za f zh)) (eC (.int (k:Nat)))) ρ=some (!decide (ns.length=k)):=by
 refine yP (zm (x:=.int (ns.length:Nat)) (y:=.int (k:Nat)) (vd (ds:=[.lst (ns.map .int)]) (zA h ym) ?_) rfl ?_)
 .show some (D.int ((ns.map D.int).length:Nat))=_
  rw[t1]
 .show some (D.bl (!decide (((ns.length:Nat):Int)=((k:Nat):Int))))=_
  by_cases z:ns.length=k
  .rw[u8 z,u8 (by omega)]
  .rw[u7 z,u7 (by omega)]
def W8 {ls:zo} (A:Asc r) (i:L2.atI ls 0=some (.str r)):yX (tOf (zd neD (zd ixD (yy (wT yV (zd ixD (zc 0) (eC (.int 0))) (za (eC (.str " ")) zh))) (eC (.int 0))) (eC (.str "web")))) (yX (tOf (zd wv (zc 1) (eC .non))) (yX (tOf (zd neD (eFn xk (za (zc 1) zh)) (eC (.int 1)))) (yX (tOf (zd ltD (zd ixD (zc 1) (eC (.int 0))) (eC (.int 1)))) (tOf (zd gtD (zd ixD (zc 1) (eC (.int 0))) (eC (.int 8))))))) (visG [.v (.lst ls),.v (Xw (Yb r)),.no,.no,.no,.no])=some (!wZ r):=by
 have g:tOf (zd neD (zd ixD (yy (wT yV (zd ixD (zc 0) (eC (.int 0))) (za (eC (.str " ")) zh))) (eC (.int 0))) (eC (.str "web"))) (visG [.v (.lst ls),.v (Xw (Yb r)),.no,.no,.no,.no])=some (!decide (hdW r=Str.ofString "web")):=yP (zm (x:=.str (hdW r)) (y:=.str (Str.ofString "web")) (zgu A (zm (x:=.lst ls) (y:=.int 0) rfl rfl i)) rfl zfx)
 have h:tOf (zd wv (zc 1) (eC .non)) (visG [.v (.lst ls),.v (Xw (Yb r)),.no,.no,.no,.no])=some (Yb r).isNone:=yP (zm (x:=Xw (Yb r)) (y:=.non) rfl rfl (zaW _))
 by_cases c:hdW r=Str.ofString "web"
 .rw[u8 c]at g
  have j:wbO r=Yb r:=j0 c
  refine XW g ?_
  unfold wZ
  rw[j]
  cases e:Yb r with
  | none =>
   rw[e]at h
   exact wW h
  | some ns =>
   rw[e]at h
   refine XW h ?_
   have d:=zfo (ns:=ns) (f:=zc 1) (ρ:=visG [.v (.lst ls),.v (Xw (some ns)),.no,.no,.no,.no]) (k:=1) rfl
   match ns,d with
   | [m],d =>
    refine XW d ?_
    refine(W1 (yP (zm (x:=.int m) (y:=.int 1) rfl rfl rfl)) (yP (zm (x:=.int m) (y:=.int 8) rfl rfl rfl))).trans ?_
    show some (decide (m<1)||decide (8<m))=some (!(decide (1<=m)&&decide (m<=8)))
    by_cases a:1<=m
    .rw[u8 a,u7 (show ¬ m<1 by omega)]
     by_cases b:m<=8
     .rw[u8 b,u7 (show ¬ 8<m by omega)];rfl
     .rw[u7 b,u8 (show 8<m by omega)];rfl
    .rw[u7 a,u8 (show m<1 by omega)];rfl
   | [],d=>exact wW d
   | _::_::_,d=>exact wW (by rw[show(1:Int)=((1:Nat):Int)from rfl,d,u7 (λz=>by simp at z)];rfl)
 .rw[u7 c]at g
  have:wZ r=false:=by
   unfold wZ wbO
   rw[j6 c]
  rw[this]
  exact wW g
def zh7 {w:Str}:XY (.str w) (.lst [.str (Str.ofString "tie"),.str (Str.ofString "heap")])=some (.bl (!(decide (w=Str.ofString "tie")||decide (w=Str.ofString "heap")))):=by
 show some (D.bl (!((Str.ofString "tie" == w)||((Str.ofString "heap" == w)||false))))=_
 have e:∀ a b:Str,(a == b)=decide (b=a):=λa b=>by
  by_cases c:b=a
  .subst c
   rw[u8 rfl]
   exact u0K _
  .rw[u7 c]
   exact u0b.mpr λz=>c z.symm
 rw[e,e,Bool.or_false]
section
variable {m:Int}{ts:y6}{r:Str}{ls:zo}{o5:Sl}
abbrev stT (ls:zo)(m:Int)(ts:y6)(i:Nat)(r:Str)(o:Sl):SE:=[.v (.lst ls),.v (.lst [.int m]),.o (ts.map zv),.v (.int (i:Nat)),.v (.str r),o]
def zgC:yI (zd yb (zc 3) (eC (.int 2))) (stT ls m ts i r o)=.rt (.int ((i+2:Nat):Int)):=xQ (zm (x:=.int (i:Nat)) (y:=.int 2) rfl rfl rfl)
def ret3:yI (zd yb (zc 3) (eC (.int 3))) (stT ls m ts i r o)=.rt (.int ((i+3:Nat):Int)):=xQ (zm (x:=.int (i:Nat)) (y:=.int 3) rfl rfl rfl)
def wA {g:zU}(e:g ρ=.rt d):zS g h ρ=.rt d:=by unfold zS;rw[e]
def zeG (ts:y6):okE 20 (.lst (ts.map zv))=true:=by
 show(ts.map zv).all (okE 19)=true
 rw[u0D,k7]
 exact λ_ _=>rfl
def zh1 (ts:y6):zhz (.lst (ts.map zv)) (.lst [])=some (.bl (!decide (ts=[]))):=by
 show(if (okE 20 (.lst (ts.map zv))&&okE 20 (.lst []))=true then some (D.bl (!eqN 20 (.lst (ts.map zv)) (.lst [])))else none)=_
 rw[j0 (by rw[zeG];rfl)]
 cases ts with
 | nil=>rfl
 | cons t ts =>
  show some (D.bl (!((List.zipWith (eqN 19) ((t::ts).map zv) []).all id&&((t::ts).map zv).length == 0)))=_
  rfl
def zg9 {ts:y6}(h:ts.getLast?=some s):L2.atI (ts.map zv) (-1)=some (zv s):=by
 obtain⟨a,rfl⟩:=List.getLast?_eq_some_iff.mp h
 unfold L2.atI L2.ixN
 rw[o4,q5,j6 (by decide),j0 (by show -((((a.map zv).length+1:Nat):Nat):Int)<=-1;omega)]
 show(a.map zv++[zv s])[(-1+(((a.map zv).length+1:Nat):Int)).toNat]?=_
 rw[show(-1+(((a.map zv).length+1:Nat):Int)).toNat=(a.map zv).length by omega,p0 (t7 _),Nat.sub_self]
 rfl
def zch {i:Nat}(A:Asc r)(L:ts.length<=60):match WJ m ts r with
 | .bad=>zZ (stT ls m ts i r o5)=.rt (.int ((i+2:Nat):Int))
 | .tie t=>∃ o,zZ (stT ls m ts i r o5)=.nx (stT ls m (ts++[t]) i r o)
 | .heap h=>zZ (stT ls m ts i r o5)=.rt (if i+2<ls.length then .int ((i+3:Nat):Int)else .tup [wI m ts,.tup (h.map .int)]):=by
 have w:yf false 5 (zq 1 yF (za (zc 4) zh)) (stT ls m ts i r o5)=.nx (stT ls m ts i r (.v (Xw (Yb r)))):=x5 (ds:=[_]) rfl (zcw A)
 have j:yX (tOf (zd XY (zd ixD (yy (wT yV (zc 4) (za (eC (.str " ")) zh))) (eC (.int 0))) (yy (zW (za (eC (.str "tie")) (za (eC (.str "heap")) zh)))))) (tOf (zd wv (zc 5) (eC .non))) (visG (stT ls m ts i r (.v (Xw (Yb r)))))=some (!(decide (hdW r=Str.ofString "tie")||decide (hdW r=Str.ofString "heap"))||(Yb r).isNone) :=
  W1 (yP (zm (x:=.str (hdW r)) (y:=.lst [.str (Str.ofString "tie"),.str (Str.ofString "heap")]) (zgu A rfl) rfl zh7)) (yP (zm (x:=Xw (Yb r)) (y:=.non) rfl rfl (zaW _)))
 have q:tOf (zd vL (zd ixD (yy (wT yV (zc 4) (za (eC (.str " ")) zh))) (eC (.int 0))) (eC (.str "heap"))) (visG (stT ls m ts i r (.v (Xw (Yb r)))))=some (decide (hdW r=Str.ofString "heap")):=yP (zm (x:=.str (hdW r)) (y:=.str (Str.ofString "heap")) (zgu A rfl) rfl zM)
 have bad:(yX (tOf (zd XY (zd ixD (yy (wT yV (zc 4) (za (eC (.str " ")) zh))) (eC (.int 0))) (yy (zW (za (eC (.str "tie")) (za (eC (.str "heap")) zh)))))) (tOf (zd wv (zc 5) (eC .non))) (visG (stT ls m ts i r (.v (Xw (Yb r)))))=some true)->zZ (stT ls m ts i r o5)=.rt (.int ((i+2:Nat):Int)):=λh=>by
  unfold zZ
  rw[xx w]
  exact wA ((xF h).trans zgC)
 unfold WJ
 by_cases p:hdW r=Str.ofString "heap"
 .have I:hp r=Yb r:=j0 p
  have u:tp r=none:=j6 (by rw[p];decide)
  rw[I,u]
  cases e:Yb r with
  | none =>
   rw[e]at j bad
   exact bad (by rw[j,Bool.or_comm];rfl)
  | some ns =>
   rw[e,u8 p,u19]at j
   rw[u8 p,e]at q
   rw[e]at w
   dsimp only
   unfold zZ
   rw[xx w,xx ((xL (h:=zG) j).trans rfl)]
   have v:yX (tOf (zd neD (eFn xk (za (zc 5) zh)) (zd ixD (zc 1) (eC (.int 0))))) (tOf (zd gtD (eFn zhw (za (zc 5) zh)) (eC (.int 300)))) (visG (stT ls m ts i r (.v (Xw (some ns)))))=some (!decide ((ns.length:Int)=m/\ns.sum<=300)):=by
    refine(W1 (yP (zm (x:=.int (ns.length:Nat)) (y:=.int m) (vd (ds:=[.lst (ns.map .int)]) rfl (by show some (D.int ((ns.map D.int).length:Nat))=_;rw[t1])) rfl rfl)) (yP (zm (x:=.int ns.sum) (y:=.int 300) (vd (ds:=[.lst (ns.map .int)]) rfl (zeo ns)) rfl rfl))).trans ?_
    show some (!decide (((ns.length:Nat):Int)=m)||decide (300<ns.sum))=_
    by_cases a:(ns.length:Int)=m
    .by_cases b:ns.sum<=300
     .rw[u8 a,u8 (show((ns.length:Nat):Int)=m/\ns.sum<=300 from⟨a,b⟩),u7 (show ¬ 300<ns.sum by omega)];rfl
     .rw[u8 a,u7 (show ¬ (((ns.length:Nat):Int)=m/\ns.sum<=300)from λz=>b z.2),u8 (show 300<ns.sum by omega)];rfl
    .rw[u7 a,u7 (show ¬ (((ns.length:Nat):Int)=m/\ns.sum<=300)from λz=>a z.1)];rfl
   by_cases c:(ns.length:Int)=m/\ns.sum<=300
   .rw[j0 c]
    rw[u8 c]at v
    dsimp only
    have E:tOf (zd gtD (eFn xk (za (zc 0) zh)) (zd yb (zc 3) (eC (.int 2)))) (visG (stT ls m ts i r (.v (Xw (some ns)))))=some (decide (i+2<ls.length)):=by
     refine yP (zm (x:=.int (ls.length:Nat)) (y:=.int ((i+2:Nat):Int)) (vd (ds:=[.lst ls]) rfl rfl) rfl ?_)
     show some (D.bl (decide (((i+2:Nat):Int)<(ls.length:Nat))))=_
     by_cases z:i+2<ls.length
     .rw[u8 z,u8 (by omega)]
     .rw[u7 z,u7 (by omega)]
    by_cases z:i+2<ls.length
    .rw[u8 z]at E
     rw[j0 z]
     exact wA ((xF q).trans ((xx ((xL (h:=zG) v).trans rfl)).trans (wA ((xF E).trans ret3))))
    .rw[u7 z]at E
     rw[j6 z]
     exact wA ((xF q).trans ((xx ((xL (h:=zG) v).trans rfl)).trans ((xx ((xL (h:=zG) E).trans rfl)).trans rfl)))
   .rw[j6 c]
    rw[u7 c]at v
    exact wA ((xF q).trans (wA ((xF v).trans zgC)))
 .have I:hp r=none:=j6 p
  rw[I]
  dsimp only
  by_cases ct:hdW r=Str.ofString "tie"
  .have u:tp r=Yb r:=j0 ct
   rw[u]
   cases e:Yb r with
   | none =>
    rw[e]at j bad
    exact bad (by rw[j,Bool.or_comm];rfl)
   | some ns =>
    rw[e,u8 ct,Bool.true_or]at j
    rw[u7 p,e]at q
    rw[e]at w
    have B:∀ g:zU,zS (yf false 5 (zq 1 yF (za (zc 4) zh))) (zS (sIf (yX (tOf (zd XY (zd ixD (yy (wT yV (zc 4) (za (eC (.str " ")) zh))) (eC (.int 0))) (yy (zW (za (eC (.str "tie")) (za (eC (.str "heap")) zh)))))) (tOf (zd wv (zc 5) (eC .non)))) (yI (zd yb (zc 3) (eC (.int 2)))) zG) g) (stT ls m ts i r o5)=g (stT ls m ts i r (.v (Xw (some ns)))):=λg=>by
     rw[xx w,xx ((xL (h:=zG) j).trans rfl)]
    unfold zZ
    rw[B,xx ((xL (h:=zG) q).trans rfl)]
    dsimp only
    have n:=zfo (ns:=ns) (f:=zc 5) (ρ:=visG (stT ls m ts i r (.v (Xw (some ns))))) (k:=2) rfl
    match ns,n with
    | [a,b],n =>
     have H:yX (tOf (zd neD (eFn xk (za (zc 5) zh)) (eC (.int 2)))) (yX (tOf (zd geD (zd ixD (zc 5) (eC (.int 0))) (zd ixD (zc 5) (eC (.int 1))))) (tOf (zd geD (zd ixD (zc 5) (eC (.int 1))) (zd ixD (zc 1) (eC (.int 0)))))) (visG (stT ls m ts i r (.v (Xw (some [a,b])))))=some (!decide (a<b/\b<m)):=by
      refine XW n ((W1 (yP (zm (x:=.int a) (y:=.int b) rfl rfl rfl)) (yP (zm (x:=.int b) (y:=.int m) rfl rfl rfl))).trans ?_)
      show some (decide (b<=a)||decide (m<=b))=_
      by_cases x:a<b
      .by_cases y:b<m
       .rw[u8 (show a<b/\b<m from⟨x,y⟩),u7 (show ¬ b<=a by omega),u7 (show ¬ m<=b by omega)];rfl
       .rw[u7 (show ¬ (a<b/\b<m)from λz=>y z.2),u8 (show m<=b by omega),u19];rfl
      .rw[u7 (show ¬ (a<b/\b<m)from λz=>x z.1),u8 (show b<=a by omega)];rfl
     by_cases c:a<b/\b<m
     .rw[u8 c]at H
      rw[xx ((xL (h:=zG) H).trans rfl)]
      have F:yD (tOf (zd zhz (zc 2) (yy (zW zh)))) (tOf (zd leT (eFn yc (za (zc 5) zh)) (zd ixD (zc 2) (eUn Yx (eC (.int 1)))))) (visG (stT ls m ts i r (.v (Xw (some [a,b])))))=some (!vF ts (a,b)):=by
       have G:tOf (zd zhz (zc 2) (yy (zW zh))) (visG (stT ls m ts i r (.v (Xw (some [a,b])))))=some (!decide (ts=[])):=yP (zm (x:=.lst (ts.map zv)) (y:=.lst []) rfl rfl (zh1 ts))
       unfold vF
       cases C:ts.getLast? with
       | none =>
        have:=List.getLast?_eq_none_iff.mp C
        rw[u8 this]at G
        exact zgV G
       | some s =>
        have J:ts≠[]:=λz=>by rw[z]at C;cases C
        rw[u7 J]at G
        refine(zgW G (yP (zm (x:=zv (a,b)) (y:=zv s) (vd (ds:=[.lst [.int a,.int b]]) rfl rfl) (zm (x:=.lst (ts.map zv)) (y:=.int (-1)) rfl rfl (zg9 C)) rfl))).trans ?_
        show some (leP (a,b) s)=some (!decide (ltP s (a,b)))
        cases z:leP (a,b) s with
        | false=>rw[u8 (YV.mp z)];rfl
        | true=>rw[u7 (λy=>by rw[YV.mpr y]at z;cases z)];rfl
      rw[Wf]
      by_cases d:vF ts (a,b)=true
      .rw[j0 ⟨c.1,c.2,d⟩]
       rw[d]at F
       rw[xx ((xL (h:=zG) F).trans rfl)]
       refine⟨.v (.lst [.int a,.int b]),?_⟩
       refine(zaK (m:=false) (ds:=ts.map zv) (d:=zv (a,b)) rfl rfl (by rw[t1];omega)).trans ?_
       unfold stT
       rw[o4]
       rfl
      .rw[j6 (λz=>d z.2.2)]
       rw[Bool.not_eq_true]at d
       rw[d]at F
       exact wA ((xF F).trans zgC)
     .rw[Wf,j6 (λz=>c ⟨z.1,z.2.1⟩)]
      rw[u7 c]at H
      exact wA ((xF H).trans zgC)
    | [],n =>
     exact wA ((xF (wW n)).trans zgC)
    | [_],n =>
     exact wA ((xF (wW n)).trans zgC)
    | a::b::c::l,n =>
     have K:tOf (zd neD (eFn xk (za (zc 5) zh)) (eC (.int 2))) (visG (stT ls m ts i r (.v (Xw (some (a::b::c::l))))))=some true:=by
      refine n.trans ?_
      rw[u7 (λz=>by simp at z)]
      rfl
     exact wA ((xF (wW K)).trans zgC)
  .have u:tp r=none:=j6 ct
   rw[u]
   rw[u7 ct,u7 p]at j
   exact bad j
end
def zf1 {b:zr}(u:∀ y∈r::b,Asc y)(M:b.length<=50):vD [.lst ((r::b).map .str)]=some (zd1 (zbV (r::b))):=by
 obtain⟨ls,j⟩:∃ ls,(r::b).map D.str=ls:=⟨_,rfl⟩
 have p:ls.length=b.length+1:=by rw[<-j,t1,j8]
 have G:L2.atI ls 0=some (.str r):=by rw[<-j];exact Z7 (by decide) rfl
 rw[j]
 refine XO (ρ:=[.v (.lst ls),.no,.no,.no,.no,.no]) rfl ?_
 unfold vv
 refine zJ (ρ':=[.v (.lst ls),.v (Xw (Yb r)),.no,.no,.no,.no]) (x5 (ds:=[.str r]) (zA (zm (x:=.lst ls) (y:=.int 0) rfl rfl G) ym) (zcw (u r (.head _)))) ?_
 have s:=W8 (u r (.head _)) G
 cases g:wZ r with
 | false =>
  rw[g]at s
  have:Zb r=none:=by
   unfold wZ at g
   show(match wbO r with | some [m]=>if 1<=m/\m<=8 then some m else none | _=>none)=_
   split at g
   .rename_i m e
    rw[j6 (λz=>by rw[u8 z.1,u8 z.2]at g;cases g)]
   .rfl
  refine xj (Ze (c:=true) s (λ_=>Yd rfl ?_) (λz=>by cases z))
  rw[Y8,this]
  rfl
 | true =>
  rw[g]at s
  obtain⟨m,e,L,c⟩:∃ m,Yb r=some [m]/\Zb r=some m/\1<=m/\m<=8:=by
   unfold wZ at g
   split at g
   .rename_i m e
    rw[t5]at g
    have c:1<=m/\m<=8:=⟨t6 g.1,t6 g.2⟩
    refine⟨m,?_,?_,c⟩
    .unfold wbO at e
     split at e
     .exact e
     .cases e
    .show(match wbO r with | some [m]=>if 1<=m/\m<=8 then some m else none | _=>none)=_
     rw[e]
     exact j0 c
   .cases g
  refine xj (Ze (c:=false) s (λz=>by cases z) (λ_=>ZO rfl ?_))
  rw[e]
  refine zJ (ρ':=[.v (.lst ls),.v (.lst [.int m]),.o [],.no,.no,.no]) rfl ?_
  rw[Y8,L]
  dsimp only
  have J:ye (za (eSl slD (zc 0) (z0 (eC (.int 1))) z4) zh) (visF [.v (.lst ls),.v (.lst [.int m]),.o [],.no,.no,.no])=some (ws 0 (b.map .str)):=by
   unfold ye
   rw[zA (zaR (ds:=ls) rfl) ym,t4,<- j]
   rfl
  obtain⟨E,n⟩:∃ E,(zdM m (b.length+1) 2 [] b).getD (.no (b.length+2))=E:=⟨_,rfl⟩
  rw[n]
  refine xj (Vv (ds:=ws 0 (b.map .str)) (λi ρ=>∃ f C w k,vY m f/\f.length<=i/\(zdM m (b.length+1) (i+2) f (b.drop i)).getD (.no (b.length+2))=E/\ρ=[.v (.lst ls),.v (.lst [.int m]),.o (f.map zv),C,w,k]) J ⟨[],.no,.no,.no,⟨c.1,c.2,λ_ z=>(nomatch z),.nil⟩,t7 _,n,rfl⟩ ?_ ?_)
  .rintro i d ρ H ⟨f,C,w,k,ok,q,a,rfl⟩
   rw[w4,j7]at H
   obtain⟨N,v,rfl⟩:=t0.mp H
   obtain⟨y,A,rfl⟩:=t0.mp v
   have K:=(q4.mp A).1
   have F:b.drop i=y::b.drop (i+1):=by
    rw[l9 K,(q4.mp A).2]
   have Ay:=u y (.tail _ (o7 A))
   refine⟨stT ls m f i y k,by rw[u0s];rfl,?_⟩
   rw[F]at a
   unfold zdM at a
   have l:=zch (m:=m) (ts:=f) (ls:=ls) (o5:=k) (i:=i) Ay (by omega)
   have I:=ziy (m:=m) (ts:=f) Ay ok
   cases B:WJ m f y with
   | bad =>
    rw[B]at l a
    refine Yd (show zZ (stT ls m f i y k)=_ from l) ?_
    rw[<-a]
    rfl
   | tie t =>
    rw[B]at l a I
    obtain⟨o,l⟩:=l
    exact ZO l ⟨f++[t],_,_,_,I,by rw[q5];exact Nat.succ_le_succ q,a,rfl⟩
   | heap h =>
    rw[B]at l a
    refine Yd (show zZ (stT ls m f i y k)=_ from l) ?_
    rw[<-a,p]
    show _=zd1 (if i+2<b.length+1 then .no (i+2+1)else .yes m f h)
    by_cases z:i+2<b.length+1
    .rw[j0 z,j0 z]
     rfl
    .rw[j6 z,j6 z]
     rfl
  .rintro ρ ⟨f,C,w,k,ok,q,a,rfl⟩
   rw[xy,t1,u0J]at a
   refine zh9 rfl (Yd (d:=.int ((b.length+2:Nat):Int)) (xQ ?_) ?_)
   .refine zm (x:=.int (ls.length:Nat)) (y:=.int 1) (vd (ds:=[.lst ls]) rfl rfl) rfl ?_
    show some (D.int ((ls.length:Nat)+1))=_
    rw[p]
    rfl
   .rw[<-a]
    rfl
def VG (T:Txt P w K mg base ad):T.Pr 21 2 1 vD:=by
 letI:KK:=⟨K,ad.dk⟩
 have G__law_numbers:=Xf T
 refine ZP (N:=(Rw 21).N) (ps:=(Rw 21).ps) (T.d 21).fn (sc 21) (g:=vv) λd A outer s H E c=>?_
 unfold vv zZ
 exact(zk (yn (m:=false) (i:=1) (sc 21).nd rfl (Or.inl rfl) (zt G__law_numbers c rfl (T.d 20) (zb (yO (edv 0) (zg zf) (λ_ _=>rfl)) ze)))
  (zk (xt (zbg (v8 (zL Xz YT (zP _) (yO (x9 (wM (yO (edv 0) (zg zf) (λ_ _=>rfl)) (zb (zD zE) ze) (λa b=>vV k8 f9 g0 wO a b))) (zg zf) (λ_ _=>rfl)) (zD zE)) (v8 (zL Yl wX (zP _) (edv 1) (wj wk)) (v8 (zL Xz YT (zP _) (zR zI xf rfl (T.z "len" (by decide)) xB (zb (edv 1) ze)) (zg zf)) (v8 (zL zac zY (zP _) (yO (edv 1) (zg zf) (λ_ _=>rfl)) (zg zf)) (Yo (zL Vr zY (zP _) (yO (edv 1) (zg zf) (λ_ _=>rfl)) (zg zf)))))))) (zl (yB (zg zf))) yw)
  (zk (za4 (i:=2) (sc 21).nd rfl (Or.inl rfl) (xX ze))
  (zk (Xa u0a rfl (zaf rfl (T.z "enumerate" (by decide)) xA (zb (yM (edv 0) (xh (zg zf)) xg) ze)) (XU rfl (xH (xG (yx (i:=3) (sc 21).nd rfl (Or.inl rfl))) (xH (xG (yx (i:=4) (sc 21).nd rfl (Or.inl rfl))) Zg))) (zk (yn (m:=false) (i:=5) (sc 21).nd rfl (Or.inl rfl) (zt G__law_numbers c rfl (T.d 20) (zb (edv 4) ze)))
  (zk (xt (zbg (v8 (zL (zda c) zdH (by with_unfolding_all rfl) (yO (x9 (wM (edv 4) (zb (zD zE) ze) (λa b=>vV k8 f9 g0 wO a b))) (zg zf) (λ_ _=>rfl)) (x9 (xX (zb (zD zE) (zb (zD zE) ze))))) (Yo (zL Yl wX (zP _) (edv 5) (wj wk))))) (zl (yB (zN (edv 3) (zg zf)))) yw)
  (zk (xt (zL (Y5 c) vB (zP _) (yO (x9 (wM (edv 4) (zb (zD zE) ze) (λa b=>vV k8 f9 g0 wO a b))) (zg zf) (λ_ _=>rfl)) (zD zE)) (zk (xt (zbg (v8 (zL Xz YT (zP _) (zR zI xf rfl (T.z "len" (by decide)) xB (zb (edv 5) ze)) (yO (edv 1) (zg zf) (λ_ _=>rfl))) (Yo (zL Vr zY (zP _) (zR (W3 rfl) zcp rfl (T.z "sum" (by decide)) zfB (zb (edv 5) ze)) (zg zf))))) (zl (yB (zN (edv 3) (zg zf)))) yw)
  (zk (xt (zL Vr zY (zP _) (zR zI xf rfl (T.z "len" (by decide)) xB (zb (edv 0) ze)) (zN (edv 3) (zg zf))) (zl (yB (zN (edv 3) (zg zf)))) yw)
  (zl (yB (xD (zb (xD (zb (yO (edv 1) (zg zf) (λ_ _=>rfl)) (zb (yQ yZ w1 rfl (T.z "tuple" (by decide)) vl (zb (edv 2) ze)) ze))) (zb (yQ yZ w1 rfl (T.z "tuple" (by decide)) vl (zb (edv 5) ze)) ze))))))) yw)
  (zk (xt (zbg (v8 (zL Xz YT (zP _) (zR zI xf rfl (T.z "len" (by decide)) xB (zb (edv 5) ze)) (zg zf)) (v8 (zL zfY zY (zP _) (yO (edv 5) (zg zf) (λ_ _=>rfl)) (yO (edv 5) (zg zf) (λ_ _=>rfl))) (Yo (zL zfY zY (zP _) (yO (edv 5) (zg zf) (λ_ _=>rfl)) (yO (edv 1) (zg zf) (λ_ _=>rfl))))))) (zl (yB (zN (edv 3) (zg zf)))) yw)
  (zk (xt (zbg (zaO (zL (ziq c) zhp (zP _) (edv 2) (x9 (xX ze))) (Ws (zL (zfF c.units0) zdb (zP _) (yQ yZ w1 rfl (T.z "tuple" (by decide)) vl (zb (edv 5) ze)) (yO (edv 2) (zfE (zg zf)) (λ_ _=>rfl)))))) (zl (yB (zN (edv 3) (zg zf)))) yw)
  (zl (zaN (m:=false) (pv 2) (yQ yZ w1 rfl (T.z "tuple" (by decide)) vl (zb (edv 5) ze)) (λa b=>vV l0 u0n u0p YQ a b)))))))))
  (W9 2 (zl (yB (zN (zR zI xf rfl (T.z "len" (by decide)) xB (zb (edv 0) ze)) (zg zf)))))))))
abbrev yA :=zS (yf false 2 (zd y0 (zq 2 zC (za (zc 1) (za (eC (.int 5)) zh))) (eFn xk (za (zc 0) zh))))
  (zS (yf false 3 (zd y0 (zq 2 zC (za (zc 1) (za (eC (.int 6)) zh))) (eFn xk (za (zc 0) zh))))
  (zS (yf false 4 (zd ixD (zc 0) (zc 2)))
  (zS (yf false 5 (yy (zW (za (zd yb (eC (.str " ")) (zc 4)) (za (zd yb (zc 4) (eC (.str " "))) (za (Xt (λx=>Txt.replace x " " "  ") (zc 4)) (za (Xt (λx=>Txt.replace x " " "s ") (zc 4)) (za (zd yb (zc 4) (eC (.str " 9"))) (za (zd yb (zc 4) (eC (.str " 0"))) (za (zd yb (zc 4) (eC (.str "0"))) (za (eC (.str "")) zh)))))))))))
  (zS (yf false 5 (zd yb (zc 5) (yy (zW (za (zd yb (zc 4) (eC (.str " x"))) (za (eC (.str "tie 0 0")) (za (eC (.str "tie 1 0")) (za (eC (.str "tie 0 1")) (za (eC (.str "tie 0 8")) (za (eC (.str "web 9")) (za (eC (.str "web 0")) (za (eC (.str "web 01")) (za (eSl zhx (zc 4) z4 (z0 (eUn Yx (eC (.int 1))))) zh)))))))))))))
  (zS (yf false 5 (zd WL (zc 5) (yy (zW (za (Xt (λx=>Tk.repN x " " " 0" 1) (zc 4)) (za (Xt (λx=>Txt.replace x "tie" "heap") (zc 4)) (za (Xt (λx=>Txt.replace x "heap" "tie") (zc 4)) (za (zd yb (zc 4) (eC (.str "000"))) zh))))))))
  (zS (yf false 6 (zd y0 (zq 2 zC (za (zc 1) (za (eC (.int 7)) zh))) (eC (.int 26))))
  (zS (sIf (tOf (zd ltD (zc 6) (eC (.int 21)))) (yI (zd yb (zd yb (eSl slD (zc 0) z4 (z0 (zc 2))) (yy (zW (za (zd ixD (zc 5) (zc 6)) zh)))) (eSl slD (zc 0) (z0 (zd yb (zc 2) (eC (.int 1)))) z4))) zG)
  (zS (yf false 7 (yy (fLC (ye (za (zc 0) zh)) b2 yj (eIf (tOf (zd vL (zc 0) (zc 4))) (zd ixD (zc 2) (zc 5)) (zc 1)))))
  (zS (yf false 8 (zd yb (eSl slD (zc 0) z4 (z0 (zc 2))) (eSl slD (zc 0) (z0 (zd yb (zc 2) (eC (.int 1)))) z4)))
  (yI (zd ixD (yy (zW (za (zd yb (eSl slD (zc 0) (z0 (eC (.int 1))) z4) (eSl slD (zc 0) z4 (z0 (eC (.int 1))))) (za (zd yb (zd yb (eSl slD (zc 0) z4 (z0 (zc 2))) (yy (zW (za (zc 4) zh)))) (eSl slD (zc 0) (z0 (zc 2)) z4)) (za (zc 7) (za (zc 8) (za (zd yb (zc 0) (yy (zW (za (eC (.str "heap 0")) zh)))) zh))))))) (zd YG (zc 6) (eC (.int 21))))))))))))))
def xn:=fnD 9 yA
def zgd {z:Str}:∀ {A:zr} {c:Nat},c∈(Str.join z A).cps.toList->c∈z.cps.toList\/∃ a∈A,c∈a.cps.toList:=by
 intro A
 induction A with
 | nil=>intro c h;cases h
 | cons x r d =>
  intro c h
  cases r with
  | nil=>exact .inr ⟨x,.head _,h⟩
  | cons y r =>
   have h:c∈((x++z++Str.join z (y::r)).cps).toList:=h
   rw[u1b,u1b,u0u,u0u,u05]at h
   rcases k6.mp h with h | h
   .exact .inr ⟨x,.head _,h⟩
   .rcases k6.mp h with h | h
    .exact .inl h
    .rcases d h with h | ⟨a,b,h⟩
     .exact .inl h
     .exact .inr ⟨a,.tail _ b,h⟩
def ziF {x z:Str}{c:Nat}(h:c∈(Tk.repN x y z n).cps.toList):c∈x.cps.toList\/c∈z.cps.toList:=by
 unfold Tk.repN at h
 split at h
 .exact .inl h
 .rw[f6]at h
  rcases zgd h with h | ⟨a,b,h⟩
  .exact .inr h
  .unfold Builtin.Str.partsBetween at b
   obtain⟨p,_,rfl⟩:=i4.mp b
   have d:c∈x.cps.extract p.1 p.2:=by rw[<-u0k];exact h
   obtain⟨i,f,e⟩:=Array.mem_iff_getElem.mp d
   rw[Array.getElem_extract]at e
   refine .inl ?_
   rw[u0k,<- e]
   exact Array.getElem_mem _
def zeQ {x:Str}{c:Nat}(h:c∈(Txt.slice x l u).cps.toList):c∈x.cps.toList:=by
 unfold Txt.slice at h
 split at h
 .exact h
 .have h:c∈List.filterMap (λi=>x.cps[i]?) (Builtin.Str.strSliceIndices l u 1 x.length):=h
  obtain⟨i,_,e⟩:=u0S.mp h
  rw[u0k]
  exact Array.mem_of_getElem? e
structure Sh (x:Str):Prop where
 a:Asc x
 l:x.length<=50
def Sh.rep {x z:Str}{n:Nat}(S:Sh x)(d:Sh z)(b:z.length<=4)(f:n<=x.length+1):Asc (Tk.repN x y z n):=by
 refine⟨λc a=>?_,?_⟩
 .rcases ziF a with h | h
  .exact S.a.c c h
  .exact d.a.c c h
 .have e:=Tk.rep_len x y z n
  have g:n*z.length<=51*4:=Nat.mul_le_mul (by have:=S.l;omega) b
  have:=S.l
  omega
def Sh.app (S:Sh x)(T:Sh y):Asc (x++y)/\yb (.str x) (.str y)=some (.str (x++y)):=by
 have b:=S.l
 have d:=T.l
 have e:(x++y).length=x.length+y.length:=Wy x y
 refine⟨⟨λc a=>?_,by omega⟩,YS (by omega)⟩
 rw[u1b,u0u]at a
 rcases k6.mp a with h | h
 .exact S.a.c c h
 .exact T.a.c c h
def Sh.rpl {g:Str->Str}{f:ya}(S:Sh x)(h:f ρ=some (.str x)):Xt g f ρ=some (.str (g x)):=by
 unfold Xt
 rw[h,t4]
 show(if x.length<=100000 then some (D.str (g x))else none)=_
 rw[j0 (by have:=S.l;omega)]
def shB (x:Str):Bool:=x.cps.toList.all (λc=>decide (32<=c)&&decide (c<=122))&&decide (x.length<=50)
def Yq (h:shB x=true):Sh x:=by
 unfold shB at h
 rw[t5]at h
 have a:=t6 h.2
 refine⟨⟨λc b=>?_,by omega⟩,a⟩
 have:=k7.mp h.1 c b
 rw[t5]at this
 exact⟨t6 this.1,t6 this.2⟩
def Sh.pre (h:shB c=true)(S:Sh x){f:ya}(e:f ρ=some (.str x)):∃ y,zd yb (eC (.str c)) f ρ=some (.str y)/\Asc y:=⟨c++x,zm (x:=.str c) rfl e ((Yq h).app S).2,((Yq h).app S).1⟩
def Sh.suf (h:shB c=true)(S:Sh x){f:ya}(e:f ρ=some (.str x)):∃ y,zd yb f (eC (.str c)) ρ=some (.str y)/\Asc y:=⟨x++c,zm (y:=.str c) e rfl (S.app (Yq h)).2,(S.app (Yq h)).1⟩
def VL (h:shB c=true):∃ y,eC (.str c) ρ=some (.str y)/\Asc y:=⟨c,rfl,(Yq h).a⟩
def Sh.repE {z:Str}(S:Sh x)(h:shB z=true)(a:z.length<=4){f:ya}(e:f ρ=some (.str x)):∃ w,Xt (λx=>Txt.replace x y z) f ρ=some (.str w)/\Asc w:=⟨_,S.rpl e,S.rep (y:=y) (n:=x.length+1) (Yq h) a (t7 _)⟩
def Sh.repE1 {z:Str}(S:Sh x)(h:shB z=true)(a:z.length<=4){f:ya}(e:f ρ=some (.str x)):∃ w,Xt (λx=>Tk.repN x y z 1) f ρ=some (.str w)/\Asc w:=⟨_,S.rpl e,S.rep (y:=y) (n:=1) (Yq h) a (Nat.le_add_left _ _)⟩
def TxL (g:yT)(ρ:Ev)(n:Nat):Prop:=∃ l:zr,g ρ=some (l.map .str)/\l.length=n/\∀ y∈l,Asc y
def VV:TxL zh ρ 0:=⟨[],rfl,rfl,λ_ z=>(nomatch z)⟩
def z9 {f:ya}{g:yT}(h:∃ y,f ρ=some (.str y)/\Asc y)(t:TxL g ρ n):TxL (za f g) ρ (n+1):=by
 obtain⟨y,e,a⟩:=h
 obtain⟨l,d,i,c⟩:=t
 refine⟨y::l,zA e d,by rw[j8,i],λz b=>?_⟩
 rcases q3.mp b with rfl | b
 .exact a
 .exact c z b
def V4 {g:yT}(t:TxL g ρ n)(c:n<=1000):∃ l:zr,yy (zW g) ρ=some (.lst (l.map .str))/\l.length=n/\∀ y∈l,Asc y:=by
 obtain⟨l,e,a,b⟩:=t
 exact⟨l,vH (Xc e (by rw[t1,a];exact c)),a,b⟩
structure Oth (l:zr):Prop where
 ne:l≠[]
 few:l.length<=31
 asc:∀ y∈l,Asc y
def W0 {a b:zr}(h:a.length+b.length<=1000):yb (.lst (a.map .str)) (.lst (b.map .str))=some (.lst ((a++b).map .str)):=by
 rw[Y1 (by rw[t1,t1];exact h),o4]
def zj2 {a b:zr}(h:a.length+b.length<=1000):WL (.lst (a.map .str)) (.lst (b.map .str))=some (.lst ((a++b).map .str)):=by
 show(if lim ((a.map D.str).length+(b.map D.str).length)=true then some ((a.map D.str)++(b.map D.str))else none).map D.lst=_
 rw[j0 (wK (by rw[t1,t1];exact h)),o4]
 rfl
def Wh {f g:ya}{l:zr}{a:Nat}(h:f ρ=some (.lst (l.map .str)))(b:g ρ=some (.int (a:Nat))):eSl slD f z4 (z0 g) ρ=some (.lst ((l.take a).map .str)):=by
 unfold eSl z0
 rw[h,b]
 show some (D.lst (XM (l.map D.str) none (some ((a:Nat):Int))))=_
 rw[zdI,List.map_take]
def Ww {f g:ya}{l:zr}{a:Nat}(h:f ρ=some (.lst (l.map .str)))(b:g ρ=some (.int (a:Nat))):eSl slD f (z0 g) z4 ρ=some (.lst ((l.drop a).map .str)):=by
 unfold eSl z0
 rw[h,b]
 show some (D.lst (XM (l.map D.str) (some ((a:Nat):Int)) none))=_
 rw[Ve,u1Z]
def zc8 {l:zr}{i:Int}(h0:0<=i)(b:i<(l.length:Int)):∃ y,L2.atI (l.map D.str) i=some (.str y)/\y∈l:=by
 have a:i.toNat<l.length:=by omega
 exact⟨l[i.toNat],Z7 h0 (by rw[j7,u0m a];rfl),u14 _⟩
def zgi {bk:Str}(j:zc 4 ([none,none]++ρ)=some (.int at_))(d:zd ixD (zc 2) (zc 5) ([none,none]++ρ)=some (.str bk))(i:Asc bk):∀ (l:zr) (k:Nat),(∀ y∈l,Asc y)->∃ a:zr,lcD b2 yj (eIf (tOf (zd vL (zc 0) (zc 4))) (zd ixD (zc 2) (zc 5)) (zc 1)) ρ (ws k (l.map .str))=some (a.map .str)/\a.length=l.length/\∀ y∈a,Asc y:=by
 intro l
 induction l with
 | nil=>exact λk _=>⟨[],rfl,rfl,λ_ z=>(nomatch z)⟩
 | cons x l n =>
  intro k f
  obtain⟨a,e,q,h⟩:=n (k+1) λy o=>f y (.tail _ o)
  have g:∃ y,eIf (tOf (zd vL (zc 0) (zc 4))) (zd ixD (zc 2) (zc 5)) (zc 1) ([some (.int (k:Nat)),some (.str x)]++ρ)=some (.str y)/\Asc y:=by
   have r:tOf (zd vL (zc 0) (zc 4)) ([some (.int (k:Nat)),some (.str x)]++ρ)=some (decide (((k:Nat):Int)=at_)):=yP (zm (x:=.int (k:Nat)) (y:=.int at_) rfl j zQ)
   unfold eIf
   rw[r,t4]
   by_cases c:((k:Nat):Int)=at_
   .rw[u8 c,j0 rfl]
    exact⟨bk,d,i⟩
   .rw[u7 c,j6 u9]
    exact⟨x,rfl,f x (.head _)⟩
  obtain⟨y,m,p⟩:=g
  refine⟨y::a,?_,by rw[j8,j8,q],λz b=>?_⟩
  .show(b2 (.tup [.int (k:Nat),.str x])).bind _=_
   show(eIf (tOf (zd vL (zc 0) (zc 4))) (zd ixD (zc 2) (zc 5)) (zc 1) ([some (.int (k:Nat)),some (.str x)]++ρ)).bind (λy=>(lcD b2 yj (eIf (tOf (zd vL (zc 0) (zc 4))) (zd ixD (zc 2) (zc 5)) (zc 1)) ρ (ws (k+1) (l.map .str))).map (y::·))=_
   rw[m,t4,e]
   rfl
  .rcases q3.mp b with rfl | b
   .exact p
   .exact h z b
def Z1 {j n:Nat}{f:ya}(b:zc 1 ρ=some (.int c))(d:f ρ=some (.int (n:Nat)))(g:0<n):∃ a:Nat,a<n/\zd y0 (zq 2 zC (za (zc 1) (za (eC (.int (j:Nat))) zh))) f ρ=some (.int (a:Nat)):=by
 obtain⟨v,e⟩:∃ v,za0 c (j:Nat)=v:=⟨_,rfl⟩
 have h0:=u0Q v (show((n:Nat):Int)≠0 by omega)
 have h:=u0P v (show(0:Int)<((n:Nat):Int) by omega)
 refine⟨(v%((n:Nat):Int)).toNat,by omega,?_⟩
 rw[show(((v%((n:Nat):Int)).toNat:Nat):Int)=v%((n:Nat):Int) by omega]
 exact zm (x:=.int v) (y:=.int (n:Nat)) (xi (ds:=[.int c,.int (j:Nat)]) (zA b (zA rfl ym)) (show zC [.int c,.int (j:Nat)]=_ by rw[<-e];rfl)) d (wc (by omega))
def zey {rows:zr}(hn:2<=rows.length)(a4:rows.length<=30)(hS:∀ y∈rows,Sh y):∃ l:zr,xn [.lst (rows.map .str),.int c]=some (.lst (l.map .str))/\Oth l:=by
 obtain⟨R,v⟩:∃ R,D.lst (rows.map .str)=R:=⟨_,rfl⟩
 have A:∀ y∈rows,Asc y:=λy o=>(hS y o).a
 have u:∀ ρ:Ev,zc 0 ρ=some (.lst (rows.map .str))->eFn xk (za (zc 0) zh) ρ=some (.int (rows.length:Nat)):=fun ρ h=>vd (ds:=[.lst (rows.map .str)]) (zA h ym) (by show some (D.int ((rows.map D.str).length:Nat))=_;rw[t1])
 obtain⟨a,ha,ea⟩:=Z1 (c:=c) (j:=5) (n:=rows.length) (f:=eFn xk (za (zc 0) zh)) (ρ:=visF [.v R,.v (.int c),.no,.no,.no,.no,.no,.no,.no]) rfl (u _ (by rw[<-v];rfl)) (by omega)
 obtain⟨b,hb,eb⟩:=Z1 (c:=c) (j:=6) (n:=rows.length) (f:=eFn xk (za (zc 0) zh)) (ρ:=visF [.v R,.v (.int c),.v (.int (a:Nat)),.no,.no,.no,.no,.no,.no]) rfl (u _ (by rw[<-v];rfl)) (by omega)
 obtain⟨r,er,hr⟩:=zc8 (l:=rows) (i:=(a:Nat)) (by omega) (by omega)
 obtain⟨bk,L,V⟩:=zc8 (l:=rows) (i:=(b:Nat)) (by omega) (by omega)
 have S:=hS r hr
 obtain⟨e,e1,l1,a1⟩:=V4 (g:=za (zd yb (eC (.str " ")) (zc 4)) (za (zd yb (zc 4) (eC (.str " "))) (za (Xt (λx=>Txt.replace x " " "  ") (zc 4)) (za (Xt (λx=>Txt.replace x " " "s ") (zc 4)) (za (zd yb (zc 4) (eC (.str " 9"))) (za (zd yb (zc 4) (eC (.str " 0"))) (za (zd yb (zc 4) (eC (.str "0"))) (za (eC (.str "")) zh)))))))) (ρ:=visF [.v R,.v (.int c),.v (.int (a:Nat)),.v (.int (b:Nat)),.v (.str r),.no,.no,.no,.no])
  (z9 (S.pre (by decide) rfl) (z9 (S.suf (by decide) rfl) (z9 (S.repE (by decide) (by decide) rfl) (z9 (S.repE (by decide) (by decide) rfl) (z9 (S.suf (by decide) rfl) (z9 (S.suf (by decide) rfl) (z9 (S.suf (by decide) rfl) (z9 (VL (by decide)) VV)))))))) (by decide)
 have Q:∃ y,eSl zhx (zc 4) z4 (z0 (eUn Yx (eC (.int 1)))) (visF [.v R,.v (.int c),.v (.int (a:Nat)),.v (.int (b:Nat)),.v (.str r),.v (.lst (e.map .str)),.no,.no,.no])=some (.str y)/\Asc y:=by
  refine⟨Txt.slice r none (some (-1)),?_,⟨λc hc=>S.a.c c (zeQ hc),k9 (Txt.slice_le r _ _) S.a.l⟩⟩
  show(if r.length<=100000 then some (D.str (Txt.slice r none (some (-1))))else none)=_
  rw[j0 (by have:=S.l;omega)]
 obtain⟨m,e2,l2,a2⟩:=V4 (g:=za (zd yb (zc 4) (eC (.str " x"))) (za (eC (.str "tie 0 0")) (za (eC (.str "tie 1 0")) (za (eC (.str "tie 0 1")) (za (eC (.str "tie 0 8")) (za (eC (.str "web 9")) (za (eC (.str "web 0")) (za (eC (.str "web 01")) (za (eSl zhx (zc 4) z4 (z0 (eUn Yx (eC (.int 1))))) zh))))))))) (ρ:=visF [.v R,.v (.int c),.v (.int (a:Nat)),.v (.int (b:Nat)),.v (.str r),.v (.lst (e.map .str)),.no,.no,.no])
  (z9 (S.suf (by decide) rfl) (z9 (VL (by decide)) (z9 (VL (by decide)) (z9 (VL (by decide)) (z9 (VL (by decide)) (z9 (VL (by decide)) (z9 (VL (by decide)) (z9 (VL (by decide)) (z9 Q VV))))))))) (by decide)
 obtain⟨q,e3,l3,a3⟩:=V4 (g:=za (Xt (λx=>Tk.repN x " " " 0" 1) (zc 4)) (za (Xt (λx=>Txt.replace x "tie" "heap") (zc 4)) (za (Xt (λx=>Txt.replace x "heap" "tie") (zc 4)) (za (zd yb (zc 4) (eC (.str "000"))) zh)))) (ρ:=visF [.v R,.v (.int c),.v (.int (a:Nat)),.v (.int (b:Nat)),.v (.str r),.v (.lst ((e++m).map .str)),.no,.no,.no])
  (z9 (S.repE1 (by decide) (by decide) rfl) (z9 (S.repE (by decide) (by decide) rfl) (z9 (S.repE (by decide) (by decide) rfl) (z9 (S.suf (by decide) rfl) VV)))) (by decide)
 obtain⟨k,hk,ek⟩:=Z1 (c:=c) (j:=7) (n:=26) (f:=eC (.int 26)) (ρ:=visF [.v R,.v (.int c),.v (.int (a:Nat)),.v (.int (b:Nat)),.v (.str r),.v (.lst ((e++m++q).map .str)),.no,.no,.no]) rfl rfl (by decide)
 have lm:(e++m++q).length=21:=by rw[q5,q5,l1,l2,l3]
 have am:∀ y∈e++m++q,Asc y:=λy o=>by
  rcases k6.mp o with o | o
  .rcases k6.mp o with o | o
   .exact a1 y o
   .exact a2 y o
  .exact a3 y o
 have fin:∀ {d:D},(yA [.v R,.v (.int c),.no,.no,.no,.no,.no,.no,.no]).w (λ_=>d=.non) noP noP (λd'=>d'=d)->xn [R,.int c]=some d:=λh=>XO rfl h
 rw[v]
 have p:∀ n,∀ y∈rows.take n,Asc y:=λn y o=>A y (List.mem_of_mem_take o)
 have s:∀ n,∀ y∈rows.drop n,Asc y:=λn y o=>A y (List.mem_of_mem_drop o)
 have R0:∀ F I E B O P W:Sl,zc 0 (visG [.v R,.v (.int c),F,I,E,B,O,P,W])=some (.lst (rows.map .str)):=λ_ _ _ _ _ _ _=>by rw[v];rfl
 have F0:∀ F I E B O P W:Sl,zc 0 (visF [.v R,.v (.int c),F,I,E,B,O,P,W])=some (.lst (rows.map .str)):=λ_ _ _ _ _ _ _=>by rw[v];rfl
 have J:∃ l:zr,(yA [.v R,.v (.int c),.no,.no,.no,.no,.no,.no,.no]).w (λ_=>D.lst (l.map .str)=.non) noP noP (λd'=>d'=.lst (l.map .str))/\Oth l:=by
  unfold yA
  have H:∀ {n M T:YF} {U:D->Prop} {g:zU},(g [.v R,.v (.int c),.v (.int (a:Nat)),.v (.int (b:Nat)),.v (.str r),.v (.lst ((e++m++q).map .str)),.v (.int (k:Nat)),.no,.no]).w n M T U->(zS (yf false 2 (zd y0 (zq 2 zC (za (zc 1) (za (eC (.int 5)) zh))) (eFn xk (za (zc 0) zh))))
   (zS (yf false 3 (zd y0 (zq 2 zC (za (zc 1) (za (eC (.int 6)) zh))) (eFn xk (za (zc 0) zh))))
   (zS (yf false 4 (zd ixD (zc 0) (zc 2)))
   (zS (yf false 5 (yy (zW (za (zd yb (eC (.str " ")) (zc 4)) (za (zd yb (zc 4) (eC (.str " "))) (za (Xt (λx=>Txt.replace x " " "  ") (zc 4)) (za (Xt (λx=>Txt.replace x " " "s ") (zc 4)) (za (zd yb (zc 4) (eC (.str " 9"))) (za (zd yb (zc 4) (eC (.str " 0"))) (za (zd yb (zc 4) (eC (.str "0"))) (za (eC (.str "")) zh)))))))))))
   (zS (yf false 5 (zd yb (zc 5) (yy (zW (za (zd yb (zc 4) (eC (.str " x"))) (za (eC (.str "tie 0 0")) (za (eC (.str "tie 1 0")) (za (eC (.str "tie 0 1")) (za (eC (.str "tie 0 8")) (za (eC (.str "web 9")) (za (eC (.str "web 0")) (za (eC (.str "web 01")) (za (eSl zhx (zc 4) z4 (z0 (eUn Yx (eC (.int 1))))) zh)))))))))))))
   (zS (yf false 5 (zd WL (zc 5) (yy (zW (za (Xt (λx=>Tk.repN x " " " 0" 1) (zc 4)) (za (Xt (λx=>Txt.replace x "tie" "heap") (zc 4)) (za (Xt (λx=>Txt.replace x "heap" "tie") (zc 4)) (za (zd yb (zc 4) (eC (.str "000"))) zh))))))))
   (zS (yf false 6 (zd y0 (zq 2 zC (za (zc 1) (za (eC (.int 7)) zh))) (eC (.int 26)))) g)))))) [.v R,.v (.int c),.no,.no,.no,.no,.no,.no,.no]).w n M T U:=λ{n M T U g} h=>by
   refine zJ (Yi ea) (zJ (Yi eb) ?_)
   refine zJ (ρ':=[.v R,.v (.int c),.v (.int (a:Nat)),.v (.int (b:Nat)),.v (.str r),.no,.no,.no,.no]) (Yi (zm (x:=.lst (rows.map .str)) (y:=.int (a:Nat)) (F0 _ _ _ _ _ _ _) rfl er)) ?_
   refine zJ (ρ':=[.v R,.v (.int c),.v (.int (a:Nat)),.v (.int (b:Nat)),.v (.str r),.v (.lst (e.map .str)),.no,.no,.no]) (Yi e1) ?_
   refine zJ (ρ':=[.v R,.v (.int c),.v (.int (a:Nat)),.v (.int (b:Nat)),.v (.str r),.v (.lst ((e++m).map .str)),.no,.no,.no]) (Yi (zm (x:=.lst (e.map .str)) (y:=.lst (m.map .str)) rfl e2 (W0 (by rw[l1,l2];decide)))) ?_
   refine zJ (ρ':=[.v R,.v (.int c),.v (.int (a:Nat)),.v (.int (b:Nat)),.v (.str r),.v (.lst ((e++m++q).map .str)),.no,.no,.no]) (Yi (zm (x:=.lst ((e++m).map .str)) (y:=.lst (q.map .str)) rfl e3 (zj2 (by rw[q5,l1,l2,l3];decide)))) ?_
   exact zJ (Yi ek) h
  have K:tOf (zd ltD (zc 6) (eC (.int 21))) (visG [.v R,.v (.int c),.v (.int (a:Nat)),.v (.int (b:Nat)),.v (.str r),.v (.lst ((e++m++q).map .str)),.v (.int (k:Nat)),.no,.no])=some (decide (k<21)):=by
   refine yP (zm (x:=.int (k:Nat)) (y:=.int 21) rfl rfl ?_)
   show some (D.bl (decide (((k:Nat):Int)<21)))=_
   by_cases z:k<21
   .rw[u8 z,u8 (by omega)]
   .rw[u7 z,u7 (by omega)]
  by_cases t:k<21
  .rw[u8 t]at K
   obtain⟨y,ey,o⟩:=zc8 (l:=e++m++q) (i:=(k:Nat)) (by omega) (by rw[lm];omega)
   refine⟨rows.take a++[y]++rows.drop (a+1),H (xj (Ze (c:=true) K (λ_=>Yd (xQ ?_) rfl) (λz=>by cases z))),⟨λz=>by simp at z,?_,λw hw=>?_⟩⟩
   .refine zm (x:=.lst ((rows.take a++[y]).map .str)) (y:=.lst ((rows.drop (a+1)).map .str)) (zm (x:=.lst ((rows.take a).map .str)) (y:=.lst ([y].map .str)) (Wh (R0 _ _ _ _ _ _ _) rfl) (vH (Xc (zA (zm (x:=.lst ((e++m++q).map .str)) (y:=.int (k:Nat)) rfl rfl ey) ym) (by show 1<=1000;decide))) (W0 (by rw[r0];show _+1<=1000;omega))) (Ww (a:=a+1) (R0 _ _ _ _ _ _ _) rfl) (W0 (by rw[q5,r0,r9];show _+1+_<=1000;omega))
   .rw[q5,q5,r0,r9]
    show _+1+_<=31
    omega
   .rcases k6.mp hw with hw | hw
    .rcases k6.mp hw with hw | hw
     .exact p a w hw
     .rw[t2.mp hw]
      exact am y o
    .exact s (a+1) w hw
  .rw[u7 t]at K
   obtain⟨G,X,C,a0⟩:=zgi (ρ:=visF [.v R,.v (.int c),.v (.int (a:Nat)),.v (.int (b:Nat)),.v (.str r),.v (.lst ((e++m++q).map .str)),.v (.int (k:Nat)),.no,.no]) (at_:=(a:Nat)) (bk:=bk) rfl (zm (x:=.lst (rows.map .str)) (y:=.int (b:Nat)) (by rw[v];rfl) rfl L) (A bk V) rows 0 A
   have s7:yf false 7 (yy (fLC (ye (za (zc 0) zh)) b2 yj (eIf (tOf (zd vL (zc 0) (zc 4))) (zd ixD (zc 2) (zc 5)) (zc 1)))) [.v R,.v (.int c),.v (.int (a:Nat)),.v (.int (b:Nat)),.v (.str r),.v (.lst ((e++m++q).map .str)),.v (.int (k:Nat)),.no,.no]=.nx [.v R,.v (.int c),.v (.int (a:Nat)),.v (.int (b:Nat)),.v (.str r),.v (.lst ((e++m++q).map .str)),.v (.int (k:Nat)),.v (.lst (G.map .str)),.no]:=by
    refine Yi (vH ?_)
    unfold fLC ye
    rw[zA (F0 _ _ _ _ _ _ _) ym,t4]
    show(if lim (ws 0 (rows.map .str)).length=true then lcD b2 yj _ _ (ws 0 (rows.map .str))else none)=_
    rw[j0 (wK (by rw[xy,t1];omega)),X]
   have s8:yf false 8 (zd yb (eSl slD (zc 0) z4 (z0 (zc 2))) (eSl slD (zc 0) (z0 (zd yb (zc 2) (eC (.int 1)))) z4)) [.v R,.v (.int c),.v (.int (a:Nat)),.v (.int (b:Nat)),.v (.str r),.v (.lst ((e++m++q).map .str)),.v (.int (k:Nat)),.v (.lst (G.map .str)),.no]=.nx [.v R,.v (.int c),.v (.int (a:Nat)),.v (.int (b:Nat)),.v (.str r),.v (.lst ((e++m++q).map .str)),.v (.int (k:Nat)),.v (.lst (G.map .str)),.v (.lst ((rows.take a++rows.drop (a+1)).map .str))] :=
    Yi (zm (x:=.lst ((rows.take a).map .str)) (y:=.lst ((rows.drop (a+1)).map .str)) (Wh (F0 _ _ _ _ _ _ _) rfl) (Ww (a:=a+1) (F0 _ _ _ _ _ _ _) rfl) (W0 (by rw[r0,r9];omega)))
   have o1:Oth (rows.drop 1++rows.take 1):=⟨λz=>by have:=i3 List.length z;rw[q5,r9,r0,show([]:zr).length=0 from rfl]at this;omega,by rw[q5,r9,r0];omega,λw hw=>(k6.mp hw).elim (s 1 w) (p 1 w)⟩
   have F:Oth (rows.take a++[r]++rows.drop a):=⟨λz=>by simp at z,by rw[q5,q5,r0,r9];show _+1+_<=31;omega,λw hw=>by
    rcases k6.mp hw with hw | hw
    .rcases k6.mp hw with hw | hw
     .exact p a w hw
     .rw[t2.mp hw]
      exact S.a
    .exact s a w hw⟩
   have I:Oth G:=⟨λz=>by rw[z]at C;simp at C;omega,by omega,a0⟩
   have E:Oth (rows.take a++rows.drop (a+1)):=⟨λz=>by have:=i3 List.length z;rw[q5,r9,r0,show([]:zr).length=0 from rfl]at this;omega,by rw[q5,r9,r0];omega,λw hw=>(k6.mp hw).elim (p a w) (s (a+1) w)⟩
   have B:Oth (rows++[Str.ofString "heap 0"]):=⟨λz=>by simp at z,by rw[q5];show _+1<=31;omega,λw hw=>by
    rcases k6.mp hw with hw | hw
    .exact A w hw
    .rw[t2.mp hw]
     exact(Yq (by decide)).a⟩
   obtain⟨Z,Y⟩:∃ Z,[rows.drop 1++rows.take 1,rows.take a++[r]++rows.drop a,G,rows.take a++rows.drop (a+1),rows++[Str.ofString "heap 0"]]=Z:=⟨_,rfl⟩
   have a5:Z.length=5:=by rw[<-Y];rfl
   have N:∀ l∈Z,Oth l:=by
    rw[<-Y]
    intro l hl
    simp only[q3,r4,u0i]at hl
    rcases hl with rfl | rfl | rfl | rfl | rfl
    .exact o1
    .exact F
    .exact I
    .exact E
    .exact B
   have hi:k-21<Z.length:=by omega
   refine⟨Z[k-21],H (zJ ((xL (h:=zG) K).trans rfl) (zJ s7 (zJ s8 (Yd (xQ ?_) rfl)))),N _ (u14 _)⟩
   have eZ:L2.atI (Z.map λl=>D.lst (l.map D.str)) ((k:Nat)-21:Int)=some (.lst ((Z[k-21]).map .str)):=by
    refine Z7 (by omega) ?_
    rw[show((k:Nat)-21:Int).toNat=k-21 by omega,j7,u0m hi]
    rfl
   refine zm (x:=.lst (Z.map λl=>D.lst (l.map D.str))) (y:=.int ((k:Nat)-21)) ?_ (zm (x:=.int (k:Nat)) (y:=.int 21) rfl rfl rfl) eZ
   rw[<-Y]
   refine vH (Xc (zA (zm (x:=.lst ((rows.drop 1).map .str)) (y:=.lst ((rows.take 1).map .str)) (Ww (a:=1) (R0 _ _ _ _ _ _ _) rfl) (Wh (a:=1) (R0 _ _ _ _ _ _ _) rfl) (W0 (by rw[r0,r9];omega))) (zA (zm (x:=.lst ((rows.take a++[r]).map .str)) (y:=.lst ((rows.drop a).map .str)) (zm (x:=.lst ((rows.take a).map .str)) (y:=.lst ([r].map .str)) (Wh (R0 _ _ _ _ _ _ _) rfl) rfl (W0 (by rw[r0];show _+1<=1000;omega))) (Ww (R0 _ _ _ _ _ _ _) rfl) (W0 (by rw[q5,r0,r9];show _+1+_<=1000;omega))) (zA rfl (zA rfl (zA (zm (x:=.lst (rows.map .str)) (y:=.lst ([Str.ofString "heap 0"].map .str)) (R0 _ _ _ _ _ _ _) rfl (W0 (by show _+1<=1000;omega))) ym))))) (by show 5<=1000;decide))
 obtain⟨l,hw,ho⟩:=J
 exact⟨l,fin hw,ho⟩
def Zm (T:Txt P w K mg base ad):T.Pr 22 2 2 xn:=by
 letI:KK:=⟨K,ad.dk⟩
 have G__law_stir:=wR T
 have TK__law_stir:=Za T
 refine ZP (N:=(Rw 22).N) (ps:=(Rw 22).ps) (T.d 22).fn (sc 22) (g:=yA) λc A outer s H E b=>?_
 unfold yA
 exact(zco (m:=false) (i:=2) (sc 22).nd rfl (Or.inr rfl) (zgs (zez (TK__law_stir.mono (by decide)) b rfl (T.d 13).at_ (T.d 13).kp (T.d 13).bd (zb (edv 1) (zb (zg zf) ze))) (zR zI xf rfl (T.z "len" (by decide)) xB (zb (edv 0) ze)))
  (v9 (sdT (yn (m:=false) (i:=3) (sc 22).nd rfl (Or.inr rfl) (vX (zt G__law_stir b rfl (T.d 13) (zb (edv 1) (zb (zg zf) ze))) (zR zI xf rfl (T.z "len" (by decide)) xB (zb (edv 0) ze)))))
  (v9 (sdT (yn (m:=false) (i:=4) (sc 22).nd rfl (Or.inl rfl) (yO (edv 0) (edv 2) (λ_ _=>rfl))))
  (v9 (zdz (m:=false) (i:=5) (sc 22).nd rfl (Or.inl rfl) (zdJ (xq (edT (zN (zD zE) (edv 4))) (xq (edT (zN (edv 4) (zD zE))) (xq (Z4 (edv 4) (λa=>ZV a (by decide) (by decide))) (xq (Z4 (edv 4) (λa=>ZV a (by decide) (by decide))) (xq (edT (zN (edv 4) (zD zE))) (xq (edT (zN (edv 4) (zD zE))) (xq (edT (zN (edv 4) (zD zE))) (xq (edT (zD zE)) zcA))))))))))
  (v9 (sdT (yn (m:=false) (i:=5) (sc 22).nd rfl (Or.inl rfl) (zN (edv 5) (x9 (xX (zb (zN (edv 4) (zD zE)) (zb (zD zE) (zb (zD zE) (zb (zD zE) (zb (zD zE) (zb (zD zE) (zb (zD zE) (zb (zD zE) (zb (ziS (edv 4) xg (xh (zfE (zg zf)))) ze))))))))))))))
  (v9 (zdz (m:=false) (i:=5) (sc 22).nd rfl (Or.inl rfl) (zgB (edv 5) (zdJ (xq (zdp (n:=1) rfl (edv 4) (λa=>zdD a (by decide) (by decide) (by decide))) (xq (Z4 (edv 4) (λa=>ZV a (by decide) (by decide))) (xq (Z4 (edv 4) (λa=>ZV a (by decide) (by decide))) (xq (edT (zN (edv 4) (zD zE))) zcA)))))))
  (sdsT (zk (yn (m:=false) (i:=6) (sc 22).nd rfl (Or.inl rfl) (vX (zt G__law_stir b rfl (T.d 13) (zb (edv 1) (zb (zg zf) ze))) (zg zf)))
  (zk (xt (zL zac zY (zP _) (edv 6) (zg zf)) (zl (yB (zN (zN (yM (edv 0) xg (xh (edv 2))) (x9 (xX (zb (yO (edv 5) (edv 6) (λ_ _=>rfl)) ze)))) (yM (edv 0) (xh (zN (edv 2) (zg zf))) xg)))) yw)
  (zk (zcV (m:=false) (i:=7) (zcK (L:=["k","one"]) (M:=["rows","cell","at","back","row","more","kind","kept","behind"]) (sc 22).nd rfl (Or.inl rfl) rfl (XN (by rfl) (by rfl) (by rfl) (by with_unfolding_all rfl) (by rfl) (by rfl) (by kernel_rfl) (all_cons rfl (all_cons rfl (all_cons rfl vz)))) (zaf rfl (T.z "enumerate" (by decide)) xA (zb (edv 0) ze)) gs2 rb2 (λ_ _ _ _=>(zfO rfl (X4 (yx (i:=0) zh5 rfl (Or.inl rfl) (.inr rfl)) (X4 (yx (i:=1) zh5 rfl (Or.inl rfl) (.inr rfl)) zcI)))) (λ_ _ _ _=>(zjF (zL (Y5 b) vB (zP _) (edv 0) (edv 4)) (yO (edv 2) (edv 5) (λ_ _=>rfl)) (edv 1)))))
  (zk (yn (m:=false) (i:=8) (sc 22).nd rfl (Or.inl rfl) (zN (yM (edv 0) xg (xh (edv 2))) (yM (edv 0) (xh (zN (edv 2) (zg zf))) xg)))
  (zl (yB (yO (x9 (xX (zb (zN (yM (edv 0) (xh (zg zf)) xg) (yM (edv 0) xg (xh (zg zf)))) (zb (zN (zN (yM (edv 0) xg (xh (edv 2))) (x9 (xX (zb (edv 4) ze)))) (yM (edv 0) (xh (edv 2)) xg)) (zb (edv 7) (zb (edv 8) (zb (zN (edv 0) (x9 (xX (zb (zD zE) ze)))) ze))))))) (zfD (edv 6) (zg zf)) (λ_ _=>rfl)))))))))))))))
def WC:bootBuiltins "ValueError"=some (.type "ValueError"):=by decide +kernel
def zdW {n:Nat}(h:n<=13):n<=sizeLine:=by rw[u0E];omega
def XC (T:Txt P w K mg base ad):zcY P w K mg base 1 (ad.f 14) (ad.e 14) (Rw 14).ps (zbS (clT ad) (λj=>j<13/\zaz K (zjr ad) ad.x_StoneError (clT ad j) j)):=by
 letI:KK:=⟨K,ad.dk⟩
 have z:=T.z "isinstance" (by decide)
 refine zfZ (N:=(Rw 14).N) (ps:=(Rw 14).ps) (T.d 14).fn (sc 14) (λd H Q E h=>by obtain⟨a,j,e,rfl,_⟩:=h;rfl) λg A outer s H d Q E t u c=>?_
 obtain⟨a,j,e,rfl,f,⟨k,b⟩,q⟩:=c
 refine⟨_,(wr (Xe (i:=1) (sc 14).nd rfl (Or.inl rfl) (WX (zy (yJ yS rfl z zF (zy (pv 0) (zy (xc (v:=.ref ad.x_NoWeb) rfl T.g_NoWeb rfl) yR))) (zy (yJ yS rfl z zF (zy (pv 0) (zy (xc (v:=.ref ad.x_NoKind) rfl T.g_NoKind rfl) yR))) (zy (yJ yS rfl z zF (zy (pv 0) (zy (xc (v:=.ref ad.x_NoHeap) rfl T.g_NoHeap rfl) yR))) (zy (yJ yS rfl z zF (zy (pv 0) (zy (xc (v:=.ref ad.x_NoPlace) rfl T.g_NoPlace rfl) yR))) yR))))))
  (wr (Xe (i:=1) (sc 14).nd rfl (Or.inl rfl) (zd8 WT (pv 1) (WX (zy (yJ yS rfl z zF (zy (pv 0) (zy (xc (v:=.ref ad.x_NoNumber) rfl T.g_NoNumber rfl) yR))) (zy (yJ yS rfl z zF (zy (pv 0) (zy (xc (v:=.ref ad.x_NoTally) rfl T.g_NoTally rfl) yR))) (zy (yJ yS rfl z zF (zy (pv 0) (zy (xc (v:=.ref ad.x_NotTree) rfl T.g_NotTree rfl) yR))) (zy (yJ yS rfl z zF (zy (pv 0) (zy (xc (v:=.ref ad.x_NotJoined) rfl T.g_NotJoined rfl) yR))) yR)))))))
  (wr (Xe (i:=1) (sc 14).nd rfl (Or.inl rfl) (zd8 WT (pv 1) (WX (zy (yJ yS rfl z zF (zy (pv 0) (zy (xc (v:=.ref ad.x_NoWeights) rfl T.g_NoWeights rfl) yR))) (zy (yJ yS rfl z zF (zy (pv 0) (zy (xc (v:=.ref ad.x_NoRow) rfl T.g_NoRow rfl) yR))) (zy (yJ yS rfl z zF (zy (pv 0) (zy (xc (v:=.ref ad.x_NoSteps) rfl T.g_NoSteps rfl) yR))) (zy (yJ yS rfl z zF (zy (pv 0) (zy (xc (v:=.ref ad.x_NoText) rfl T.g_NoText rfl) yR))) yR)))))))
  (wr (Xe (i:=1) (sc 14).nd rfl (Or.inl rfl) (zd8 WT (pv 1) (WX (zy (yJ yS rfl z zF (zy (pv 0) (zy (xc (v:=.ref ad.x_TooGreat) rfl T.g_TooGreat rfl) yR))) yR))))
  (wr (zeM (PW.pt (zik (zfJ (zfT (yJ yS rfl z zF (zy (pv 0) (zy (vu (v:=.ty "ValueError") rfl (T.z "ValueError" (by decide)) WC rfl) yR))))) (zfr (zas Xz (vV l0 PySem.F.slot_list_count PySem.F.type_list_count zb7 (pv 1) (zy za7 yR)) zf (zP _))))) (Yz (Va (zgH zcX zf))) zaq) (Yz (Va (vV l0 PySem.F.slot_list_index PySem.F.type_list_index zdt (pv 1) (zy za7 yR))))))))),?_⟩
 refine zdq (cs:=[ad.x_NoWeb,ad.x_NoKind,ad.x_NoHeap,ad.x_NoPlace]) (bs:=[0 == j,1 == j,2 == j,3 == j]) b.look (i3 (λl=>(l.drop 0).take 4) b.hot) (zdW (n:=4) (by decide)) rfl rfl f λp H1 S1=>?_
 refine WE (cs:=[ad.x_NoNumber,ad.x_NoTally,ad.x_NotTree,ad.x_NotJoined]) (bs:=[4 == j,5 == j,6 == j,7 == j]) b.look (i3 (λl=>(l.drop 4).take 4) b.hot) (by exact zdW (n:=8) (by decide)) S1 λo H2 S2=>?_
 refine WE (cs:=[ad.x_NoWeights,ad.x_NoRow,ad.x_NoSteps,ad.x_NoText]) (bs:=[8 == j,9 == j,10 == j,11 == j]) b.look (i3 (λl=>(l.drop 8).take 4) b.hot) (by exact zdW (n:=12) (by decide)) S2 λr H3 S3=>?_
 refine WE (cs:=[ad.x_TooGreat]) (bs:=[12 == j]) b.look (i3 (λl=>(l.drop 12).take 1) b.hot) (by exact zdW (n:=13) (by decide)) S3 λm H4 S4=>?_
 exact zg5 b.val b.look k S4 (q _ S4.same)
abbrev wD :=zS (zhv (xEx (V5 1 xN (za (zc 0) zh))) (yf false 2 (zq 1 zaB (za (zc 0) zh))) (zfk [11] (zdA (fK [11]) 11 (fA "row" [11]) (λ_=>some (.int (-1))))))
  (yI (zc 2))
def yr:=fnD 3 wD
def zii (j:Nat):zfk [11] (zdA (fK [11]) 11 (fA "row" [11]) (λ_=>some (.int (-1)))) (Zc j)=some (.int (j:Nat)):=by
 have b:Zc j%16=11:=by unfold Zc;omega
 have d:Zc j/16%4=2:=by unfold Zc;omega
 have c:Zc j/64=j+1:=by unfold Zc;omega
 have a:Zc j%16∈[11]:=by rw[b];exact .head _
 have hp:pay (Zc j)=some [(("row":Str),V.int ((Zc j/64:Nat)-1))]:=by
  unfold pay
  rw[d]
  rfl
 unfold zfk zdA fK fA
 rw[j0 a,j0 a,j0 a,b,hp,c]
 show some (D.int (((j+1:Nat):Int)-1))=_
 congr 2
 omega
def Xp (h:xN [d]=some (Zc j)):yr [d]=some (.int (j:Nat)):=by
 refine XO (ρ:=[.v d,.no,.no]) rfl ?_
 unfold wD
 refine xj (Yd (zd3 (j:=Zc j) ?_ (zii j)) rfl)
 show(some [d]).bind (λds=>if ds.length=1 then xN ds else none)=_
 rw[t4,j0 (show [d].length=1 from rfl)]
 exact h
def zag (h:xN [d]=none)(b:zaB [d]=some v):yr [d]=some v:=by
 refine XO (ρ:=[.v d,.no,.no]) rfl ?_
 unfold wD
 refine zJ (ρ':=[.v d,.no,.v v]) ?_ (Yd rfl rfl)
 have e:xEx (V5 1 xN (za (zc 0) zh)) [.v d,.no,.no]=none:=by
  show(some [d]).bind (λa=>if a.length=1 then xN a else none)=_
  rw[t4,j0 (show [d].length=1 from rfl)]
  exact h
 unfold zhv
 rw[e]
 exact x5 (ds:=[d]) rfl b
def Zq {x:Str} {rs:zr} (b:Txt.split x (Str.ofString "\n")=r::rs) (d:x.length<=90000) (c:rs.length<=50) (a:∀ y∈r::rs,Asc y):yr [.str x]=some (zd1 (zbV (r::rs))):=by
 have h:=zbJ b d c a
 cases e:zbV (r::rs) with
 | no j =>
  rw[e]at h
  exact Xp h
 | yes m f g =>
  rw[e]at h
  exact zag h.1 h.2
def zd6 (t:zh6):okE 5 (zd1 t)=true:=by
 cases t with
 | no k=>rfl
 | yes m a h =>
  show(okE 4 (wI m a)&&(okE 4 (.tup (h.map .int))&&true))=true
  have c:okE 4 (wI m a)=true:=by
   show(true&&((a.map zv).all (okE 2)&&true))=true
   have:(a.map zv).all (okE 2)=true:=by rw[u0D,k7];exact λ_ _=>rfl
   rw[this]
   rfl
  have b:okE 4 (.tup (h.map .int))=true:=by
   show(h.map D.int).all (okE 3)=true
   rw[u0D,k7]
   exact λ_ _=>rfl
  rw[c,b]
  rfl
def Oth.join {l:zr} (O:Oth l):WI (.str (Str.ofString "\n")) (.lst (l.map .str))=some (.str (Txt.join (Str.ofString "\n") l)):=by
 show(ZL (l.map .str)).bind _=_
 have c:=O.few
 rw[Zx,t4,j0 (V3 (B:=400) (λy b=>(O.asc y b).l) ?_)]
 have a:(Str.ofString "\n").length=1:=by decide
 rw[a]
 omega
def Oth.split (O:Oth l):Txt.split (Txt.join (Str.ofString "\n") l) (Str.ofString "\n")=l/\(Txt.join (Str.ofString "\n") l).length<=90000:=by
 have f:=O.few
 refine⟨?_,?_⟩
 .rw[zgo]
  exact XX O.ne λy a z=>by
   have:=(O.asc y a).c _ z
   omega
 .have b:Txt.join (Str.ofString "\n") l=Str.join (Str.ofString "\n") l:=f6 _ _
  have d:=u02 (Str.ofString "\n") l
  have e:=u1X l (λy a=>(O.asc y a).l)
  have c:(Str.ofString "\n").length=1:=by decide
  rw[b]
  rw[c]at d
  omega
def Oth.same {l:zr} (O:Oth l):∃ v,yr [.str (Txt.join (Str.ofString "\n") l)]=some v/\vD [.lst (l.map .str)]=some v/\okE 5 v=true:=by
 obtain⟨a,d⟩:=O.split
 have c:=O.few
 cases e:l with
 | nil=>exact absurd e O.ne
 | cons r g =>
  rw[e]at a d c
  rw[j8]at c
  have b:∀ y∈r::g,Asc y:=λy f=>O.asc y (by rw[e];exact f)
  exact⟨_,Zq a d (by omega) b,zf1 b (by omega),zd6 _⟩
def Vt (T:Txt P w K mg base ad):T.Pr 23 8 1 yr:=by
 letI:KK:=⟨K,ad.dk⟩
 have G_read:=zf7 T
 have X_read:=zev T
 have H_kinds:=XC T
 have c:∀ j,j∈[11]->j<13/\zaz K (zjr ad) ad.x_StoneError (clT ad j) j:=by
  intro j b
  simp only[q3,r4,u0i]at b
  rcases b with rfl
  .exact⟨by decide,.of T.y_NoText⟩
 have f:∀ (h:Nat->Option D) j d,zfk [11] h j=some d->PySem.W.exmOne K (.ref (clT ad j)) (.ref ad.x_StoneError)=some true:=λh j d e=>by rw[zdV ad j];exact(c _ (zgg e)).2.exm
 have a:∀ j,j%16∈[11]->vI K (clT ad j)/\XR K (clT ad j) "row":=by
  intro j b
  rw[zdV ad j]
  generalize j%16=m at b ⊢
  simp only[q3,r4,u0i]at b
  rcases b with rfl
  .exact⟨.of T.ea_NoText,Yu T.na_NoText _ (by decide)⟩
 refine ZP (N:=(Rw 23).N) (ps:=(Rw 23).ps) (T.d 23).fn (sc 23) (g:=wD) λo A outer s H E k=>?_
 unfold wD
 exact(zk (zhK (i:=1) rfl rfl rfl (sc 23).nd rfl rfl rfl T.g_StoneError (λl W E0 n=>(wB (zfy (i:=2) (sc 23).nd rfl (Or.inl rfl) (zdh (X_read.mono (by decide)) n k rfl (T.d 12).at_ (T.d 12).kp (T.d 12).bd (zb (edv 0) ze))))) (λl W=>(zl (yn (m:=false) (i:=2) (sc 23).nd rfl (Or.inl rfl) (zt G_read k rfl (T.d 12) (zb (edv 0) ze))))) (f _) (λok p=>(wr (zeM (zas ziN (zed (E:=λ_ _ _=>False) H_kinds (k.mono (by decide)) rfl (T.d 14).at_ (T.d 14).kp (T.d 14).bd ok (zy (pv 1) yR)) zf (zP _)) (Yz (Va (zkc (pv 1) rfl))) zaq) (Yz (Va (zgH zcX zf))))) (ziK (zjQ (zej (ok:=_) (zdV ad) c) (zfL (zhd a)) (zfL ziU))))
  (zl (yB (edv 2))))
abbrev Wp :=zS (yf false 7 (zq 2 xn (za (zc 5) (za (zd yb (zc 1) (zd wJ (eC (.int 7919)) (zc 6))) zh))))
  (sIf (zV (tOf (zq 2 vm (za (zq 1 yr (za (Vn WI (eC (.str "\n")) (za (zc 7) zh)) zh)) (za (zq 1 vD (za (zc 7) zh)) zh))))) (yI (eC (.bl false))) zG)
abbrev Wx :=zS (yf false 2 (zd yb (eC (.int 1)) (zd y0 (zd yH (zc 1) (eC (.int 64))) (eC (.int 8)))))
  (zS (yf false 3 (zq 2 vA (za (zc 2) (za (zd yH (zc 1) (eC (.int 512))) zh))))
  (zS (yf false 4 (zq 3 wV (za (zc 2) (za (zd yb (zd wJ (zq 2 zC (za (zc 1) (za (eC (.int 9)) zh))) (eC (.int 2))) (zd y0 (zc 1) (eC (.int 2)))) (za (zd ixD (yy (zW (za (eC (.int 9)) (za (eC (.int 300)) zh)))) (zd y0 (zd yH (zc 1) (eC (.int 4))) (eC (.int 2)))) zh)))))
  (zS (yf false 5 (yy (wT yV (zq 3 YA (za (zc 3) (za (zc 4) (za (eC (.str ";")) zh)))) (za (eC (.str ";")) zh))))
  (zS (xv Yf (za (eC (.int 8)) zh) (yp 6) Wp)
  (sIf (zV (tOf (zq 2 vm (za (zq 1 yr (za (zd ixD (yy (zW (za (eC .non) (za (eC (.int 3)) (za (eC (.bl true)) (za (x6 (za (eC (.str "web 1")) zh)) (za (yy (zW (za (eC (.str "web 1")) zh))) (za (eC (.dct false false [] [])) zh)))))))) (zd y0 (zq 2 zC (za (zc 1) (za (eC (.int 9)) zh))) (eC (.int 6)))) zh)) (za (eC (.int 0)) zh))))) (yI (eC (.bl false))) zG)))))
abbrev zeh :=zS (vi (iOf (zd yb (eSl slD (zc 0) z4 (z0 (eC (.int 10)))) (yy (zW (za (eC (.int 0)) (za (eC (.int 7)) (za (eC (.int 14)) zh))))))) (yp 1) Wx)
  (yI (wY (zd vL (zq 1 yr (za (eC (.str "")) zh)) (eC (.int 1))) (zd vL (zq 1 yr (za (eC (.str "web 1")) zh)) (eC (.int 2)))))
def zi1:=fnD 8 zeh
def ziH (i:Nat):wJ (.int 7919) (.int (i:Nat))=some (.int (7919*(i:Nat))):=Zj (Wu (by decide) (by decide))
def zjo {hp:D}{rows:zr}{i:Nat}{N:YF}(o:z=.int c)(j:2<=rows.length)(d:rows.length<=30)(f:∀ y∈rows,Sh y)(q:∀ e,N [.v s,.v z,.v m,.v a,.v hp,.v (.lst (rows.map .str)),.v (.int (i:Nat)),e]):(Wp [.v s,.v z,.v m,.v a,.v hp,.v (.lst (rows.map .str)),.v (.int (i:Nat)),e]).w N B C R:=by
 subst o
 obtain⟨l,g,O⟩:=zey (c:=c+7919*(i:Nat)) j d f
 obtain⟨v,k,n,h⟩:=O.same
 unfold Wp
 refine zJ (ρ':=[.v s,.v (.int c),.v m,.v a,.v hp,.v (.lst (rows.map .str)),.v (.int (i:Nat)),.v (.lst (l.map .str))]) (x5 (ds:=[.lst (rows.map .str),.int (c+7919*(i:Nat))]) (zA rfl (zA (zm (x:=.int c) (y:=.int (7919*(i:Nat))) rfl (zm (x:=.int 7919) (y:=.int (i:Nat)) rfl rfl (ziH i)) rfl) ym)) g) ?_
 refine Ze (c:=false) (Z9 (b:=true) (yP (xi (ds:=[v,v]) (zA (xi (ds:=[.str (Txt.join (Str.ofString "\n") l)]) (zA (zbT rfl (zA rfl ym) O.join) ym) k) (zA (xi (ds:=[.lst (l.map .str)]) rfl n) ym)) (zfh h)))) (λz=>by cases z) (λ_=>ZO rfl (q _))
def zjG (i:Nat):D:=([.non,.int 3,.bl true,.tup [.str "web 1"],.lst [.str "web 1"],.dct false false [] []]:zo).getD i .non
def zi5:∀ i,i<6->xN [zjG i]=some (Zc 0):=by
 intro i a
 have:i=0\/i=1\/i=2\/i=3\/i=4\/i=5:=by omega
 rcases this with rfl | rfl | rfl | rfl | rfl | rfl <;> rfl
def ziY (s:D)(z:Int)(J E B w g e:Sl)(n b:YF)(r:D->Prop)(I:YF)(S:∀ J E B w g e,I [.v s,.v (.int z),J,E,B,w,g,e]):(Wx [.v s,.v (.int z),J,E,B,w,g,e]).w I b n r:=by
 obtain⟨q,P⟩:∃ q:Int,z/64%8=q:=⟨_,rfl⟩
 obtain⟨q0,q1⟩:=zaZ (by decide) P
 obtain⟨m,hm⟩:∃ m:Int,1+q=m:=⟨_,rfl⟩
 have o:1<=m/\m<=8:=by omega
 obtain⟨l,Y,h⟩:=zc4 (n:=m) (c:=z/512) o.1 o.2
 obtain⟨R,p2,T⟩:=Vq m.toNat (by omega)
 have ok:vY m l:=⟨o.1,o.2,λt U=>by have:=p2 t (h.subset U);omega,R.sublist h⟩
 obtain⟨u,L⟩:∃ u:Int,z/4%2=u:=⟨_,rfl⟩
 obtain⟨u0,u1⟩:=zaZ (by decide) L
 obtain⟨v,H,F⟩:∃ v:Int,L2.atI [D.int 9,.int 300] u=some (.int v)/\0<=v/\v<=300:=by
  have:u=0\/u=1:=by omega
  rcases this with rfl | rfl
  .exact⟨9,rfl,by decide,by decide⟩
  .exact⟨300,rfl,by decide,by decide⟩
 obtain⟨K,G⟩:∃ c:Int,za0 z 9*2+z%2=c:=⟨_,rfl⟩
 obtain⟨p,X,hl,V,M⟩:=za9 (n:=m) (c:=K) (mo:=v) (by omega) (by omega) F.1 (by omega)
 have A:ZA m l p:=⟨ok,k9 h.length_le T,hl,V,by omega⟩
 unfold Wx
 refine zJ (ρ':=[.v s,.v (.int z),.v (.int m),E,B,w,g,e]) (Yi (zm (x:=.int 1) (y:=.int q) rfl (zm (x:=.int (z/64)) (y:=.int 8) (zm (x:=.int z) (y:=.int 64) rfl rfl (YN (by decide) (by decide))) rfl (by rw[wc (by decide),P])) (by rw[zO,hm]))) ?_
 refine zJ (ρ':=[.v s,.v (.int z),.v (.int m),.v (wI m l),B,w,g,e]) (x5 (ds:=[.int m,.int (z/512)]) (zA rfl (zA (zm (x:=.int z) (y:=.int 512) rfl rfl (YN (by decide) (by decide))) ym)) Y) ?_
 have m1:wJ (.int (za0 z 9)) (.int 2)=some (.int (za0 z 9*2)):=by
  show(if Zp (za0 z 9) 2=true then _ else none)=_
  rw[j0 (show Zp (za0 z 9) 2=true from u8 (.inr ⟨by decide,by decide⟩))]
 refine zJ (ρ':=[.v s,.v (.int z),.v (.int m),.v (wI m l),.v (.tup (p.map .int)),w,g,e]) (x5 (ds:=[.int m,.int K,.int v]) (zA rfl (zA (zm (x:=.int (za0 z 9*2)) (y:=.int (z%2)) (zm (x:=.int (za0 z 9)) (y:=.int 2) rfl rfl m1) (zm (x:=.int z) (y:=.int 2) rfl rfl (wc (by decide))) (by rw[zO,G])) (zA (zm (x:=.lst [.int 9,.int 300]) (y:=.int u) rfl (zm (x:=.int (z/4)) (y:=.int 2) (zm (x:=.int z) (y:=.int 4) rfl rfl (YN (by decide) (by decide))) rfl (by rw[wc (by decide),L])) H) ym))) X) ?_
 obtain⟨rows,a⟩:∃ rows,vr m l p=rows:=⟨_,rfl⟩
 have O:=A.count
 rw[a]at O
 have Q:∀ y∈rows,Sh y:=λy N=>by
  rw[<-a]at N
  obtain⟨Z,a2⟩:=A.asc y N
  exact⟨Z,by omega⟩
 have C:=A.splitS
 rw[a]at C
 refine zJ (ρ':=[.v s,.v (.int z),.v (.int m),.v (wI m l),.v (.tup (p.map .int)),.v (.lst (rows.map .str)),g,e]) (Yi (vH ?_)) ?_
 .unfold wT
  rw[xi (ds:=[wI m l,.tup (p.map .int),.str (Str.ofString ";")]) rfl (zgj A),t4]
  exact C
 refine xj (zdo (lo:=0) (c:=8) (λ_ ρ=>∃ g e:Sl,ρ=[.v s,.v (.int z),.v (.int m),.v (wI m l),.v (.tup (p.map .int)),.v (.lst (rows.map .str)),g,e]) (show Yf [.int 8]=some (Xx 0 8)from Zk (by decide) (by decide)) ⟨_,_,rfl⟩ ?_ ?_)
 .rintro i ρ hi ⟨g,e,rfl⟩
  refine⟨[.v s,.v (.int z),.v (.int m),.v (wI m l),.v (.tup (p.map .int)),.v (.lst (rows.map .str)),.v (.int ((i:Nat):Int)),e],by rw[Int.zero_add];rfl,?_⟩
  exact zjo rfl (by omega) O.2 Q λe=>⟨_,_,rfl⟩
 .rintro ρ ⟨g,e,rfl⟩
  obtain⟨k,W,ek⟩:=Z1 (c:=z) (j:=9) (n:=6) (f:=eC (.int 6)) (ρ:=visG [.v s,.v (.int z),.v (.int m),.v (wI m l),.v (.tup (p.map .int)),.v (.lst (rows.map .str)),g,e]) rfl rfl (by decide)
  have ep:L2.atI [.non,.int 3,.bl true,.tup [.str "web 1"],.lst [.str "web 1"],.dct false false [] []] ((k:Nat):Int)=some (zjG k):=by
   have:k=0\/k=1\/k=2\/k=3\/k=4\/k=5:=by omega
   rcases this with rfl | rfl | rfl | rfl | rfl | rfl <;> rfl
  refine Ze (c:=false) (Z9 (b:=true) (yP (xi (ds:=[.int ((0:Nat):Int),.int 0]) (zA (xi (ds:=[zjG k]) (zA (zm (y:=.int (k:Nat)) rfl ek ep) ym) (Xp (zi5 k W))) (zA rfl ym)) (zfh (d:=.int 0) rfl)))) (λz=>by cases z) (λ_=>ZO rfl (S _ _ _ _ _ _))
def asc0:∀ y∈[Str.ofString ""],Asc y:=λy a=>by
 rw[t2.mp a]
 exact(Yq (by decide)).a
def asc1:∀ y∈[Str.ofString "web 1"],Asc y:=λy a=>by
 rw[t2.mp a]
 exact(Yq (by decide)).a
def zj8:yr [.str ""]=some (.int 1):=(Zq (x:="") (r:="") (rs:=[]) (by decide +kernel) (by decide) (by decide) asc0).trans (by kernel_rfl)
def zj3:yr [.str "web 1"]=some (.int 2):=(Zq (x:="web 1") (r:="web 1") (rs:=[]) (by decide +kernel) (by decide) (by decide) asc1).trans (by kernel_rfl)
def zdQ (ns:zB)(h:ns.length<=63):zi1 [.scr ns]=some (.bl true):=by
 refine XO (ρ:=[.v (.scr ns),.no,.no,.no,.no,.no,.no,.no]) rfl ?_
 unfold zeh
 obtain⟨a,e⟩:∃ a:zB,(XM ns none (some 10))++[0,7,14]=a:=⟨_,rfl⟩
 have p:((XM ns none (some 10)).map D.int).length+3<=1000:=by rw[t1];have:=zeA ns none (some 10);omega
 refine xj (Vv (ds:=a.map .int) (λi ρ=>∃ m n j l f g k,ρ=[.v (.scr ns),m,n,j,l,f,g,k]) ?_ ⟨_,_,_,_,_,_,_,rfl⟩ ?_ ?_)
 .refine zaH (d:=.lst (a.map .int)) (zm (x:=.lst ((XM ns none (some 10)).map D.int)) (y:=.lst [.int 0,.int 7,.int 14]) rfl rfl ?_) rfl
  rw[Y1 p,<- e,o4]
  rfl
 .rintro i d ρ o ⟨m,n,j,l,f,g,k,rfl⟩
  rw[j7]at o
  obtain⟨z,q,rfl⟩:=t0.mp o
  exact⟨_,rfl,ziY _ _ _ _ _ _ _ _ _ _ _ _ λ_ _ _ _ _ _=>⟨_,_,_,_,_,_,_,rfl⟩⟩
 .rintro ρ ⟨m,n,j,l,f,g,k,rfl⟩
  refine Yd (d:=.bl true) (xQ ?_) rfl
  exact zhM (b:=true) (c:=true) (zm (x:=.int 1) (y:=.int 1) (xi (ds:=[.str ""]) rfl zj8) rfl rfl) (zm (x:=.int 2) (y:=.int 2) (xi (ds:=[.str "web 1"]) rfl zj3) rfl rfl)
def ziB (T:Txt P w K mg base ad):vP P w K mg base CX0 20 (ad.f 24) (ad.e 24) (Rw 24).ps (zcB K):=by
 letI:KK:=⟨K,ad.dk⟩
 have G__law_stir:=wR T
 have G__law_web_by:=XD T
 have G__law_heap_by:=Xb T
 have G__law_text:=W7 T
 have G__law_same:=Vf T
 have G__law_told:=VG T
 have G__law_otherwise:=Zm T
 have G__law_read:=Vt T
 refine(zh3 (p:=zi1) (ZP (N:=(Rw 24).N) (ps:=(Rw 24).ps) (T.d 24).fn (sc 24) (g:=zeh) λd A outer s H E c=>?_) zdQ).mono (j:=9) (by decide)
 unfold zeh Wx Wp
 exact(zk (Xa u0a rfl (XI (zN (yM (edv 0) xg (xh (zg zf))) (x9 (xX (zb (zg zf) (zb (zg zf) (zb (zg zf) ze))))))) (xG (yx (i:=1) (sc 24).nd rfl (Or.inl rfl))) (zk (yn (m:=false) (i:=2) (sc 24).nd rfl (Or.inl rfl) (zN (zg zf) (vX (Xn (edv 1) (zg zf)) (zg zf))))
  (zk (yn (m:=false) (i:=3) (sc 24).nd rfl (Or.inl rfl) (zt G__law_web_by c rfl (T.d 16) (zb (edv 2) (zb (Xn (edv 1) (zg zf)) ze))))
  (zk (yn (m:=false) (i:=4) (sc 24).nd rfl (Or.inl rfl) (zt G__law_heap_by c rfl (T.d 17) (zb (edv 2) (zb (zN (Xq (zt G__law_stir c rfl (T.d 13) (zb (edv 1) (zb (zg zf) ze))) (zg zf)) (vX (edv 1) (zg zf))) (zb (yO (x9 (xX (zb (zg zf) (zb (zg zf) ze)))) (vX (Xn (edv 1) (zg zf)) (zg zf)) (λ_ _=>rfl)) ze)))))
  (zk (yn (m:=false) (i:=5) (sc 24).nd rfl (Or.inl rfl) (x9 (wM (zt G__law_text c rfl (T.d 18) (zb (edv 3) (zb (edv 4) (zb (zD zE) ze)))) (zb (zD zE) ze) (λa b=>vV k8 f9 g0 wO a b))))
  (zk (zaM u0a rfl rfl (T.z "range" (by decide)) (zb (zg zf) ze) (xG (yx (i:=6) (sc 24).nd rfl (Or.inl rfl))) (zk (yn (m:=false) (i:=7) (sc 24).nd rfl (Or.inl rfl) (zt G__law_otherwise c rfl (T.d 22) (zb (edv 5) (zb (zN (edv 1) (Xq (zg zf) (edv 6))) ze))))
  (zl (xt (xK (xV (zt G__law_same c rfl (T.d 19) (zb (zt G__law_read c rfl (T.d 23) (zb (zaj (zD zE) (zb (edv 7) ze) (λa b=>vV k8 u1d u1e zam a b)) ze)) (zb (zt G__law_told c rfl (T.d 21) (zb (edv 7) ze)) ze))))) (zl (yB (zei za7))) yw))))
  (zl (xt (xK (xV (zt G__law_same c rfl (T.d 19) (zb (zt G__law_read c rfl (T.d 23) (zb (yO (x9 (xX (zb (wj wk) (zb (zg zf) (zb (zei za7) (zb (xD (zb (zD zE) ze)) (zb (x9 (xX (zb (zD zE) ze))) (zb zhl ze)))))))) (vX (zt G__law_stir c rfl (T.d 13) (zb (edv 1) (zb (zg zf) ze))) (zg zf)) (λ_ _=>rfl)) ze)) (zb (zg zf) ze))))) (zl (yB (zei za7))) yw))))))))
  (zl (yB (zfX (ZK (Y5 c) vB (zP _) (zt G__law_read c rfl (T.d 23) (zb (zD zE) ze)) (zg zf)) (zfP (ZK (Y5 c) vB (zP _) (zt G__law_read c rfl (T.d 23) (zb (zD zE) ze)) (zg zf)))))))
end
def all_mk {l:W.OpenLaw} {w:World} {K:zu} {h:Heap} {mg:wH} {fa:Addr} (X:K.In h) (G:h.Ns mainGlobals mg) (hfa:mg "law"=some (.ref fa)) {tk0:Tok} {tk1:Tok} {tk2:Tok}
 (D:∀ r∈rows,Dx K mg ([]:XG) r) (Z:∀ x∈zs,W.nsIn K mainGlobals x=some none)
 (gg0:W.nsIn K mainGlobals "MOST_PLACES"=some (some (.int 8 tk0)))
 (gg1:W.nsIn K mainGlobals "MOST_STONES"=some (some (.int 300 tk1)))
 (gg2:W.nsIn K mainGlobals "MOST_FIGURES"=some (some (.int 3 tk2)))
 {xx0 xx1 xx2 xx3 xx4 xx5 xx6 xx7 xx8 xx9 xx10 xx11 xx12 xx13:Addr}
 (xa0:W.nsIn K mainGlobals "NoWeb"=some (some (.ref xx0)))
 (xa1:W.nsIn K mainGlobals "NoKind"=some (some (.ref xx1)))
 (xa2:W.nsIn K mainGlobals "NoHeap"=some (some (.ref xx2)))
 (xa3:W.nsIn K mainGlobals "NoPlace"=some (some (.ref xx3)))
 (xa4:W.nsIn K mainGlobals "NoNumber"=some (some (.ref xx4)))
 (xa5:W.nsIn K mainGlobals "NoTally"=some (some (.ref xx5)))
 (xa6:W.nsIn K mainGlobals "NotTree"=some (some (.ref xx6)))
 (xa7:W.nsIn K mainGlobals "NotJoined"=some (some (.ref xx7)))
 (xa8:W.nsIn K mainGlobals "NoWeights"=some (some (.ref xx8)))
 (xa9:W.nsIn K mainGlobals "NoRow"=some (some (.ref xx9)))
 (xa10:W.nsIn K mainGlobals "NoSteps"=some (some (.ref xx10)))
 (xa11:W.nsIn K mainGlobals "NoText"=some (some (.ref xx11)))
 (xa12:W.nsIn K mainGlobals "TooGreat"=some (some (.ref xx12)))
 (xa13:W.nsIn K mainGlobals "StoneError"=some (some (.ref xx13)))
 (xc11:zaA K [xx0,xx1,xx2,xx3,xx4,xx5,xx6,xx7,xx8,xx9,xx10,xx11,xx12] xx13 xx11 11=true)
 {yi11:Addr} {yod11 yan11:xT} {ysl11:Array (Option Value)} {yoc11 ykV11 ydc11 ypm11 ycd11 yct11:Value}
 (ya11:W.findIn K (.ref xx11) "__init__"=some (some (.ref yi11))) (yl11:K.lookup yi11=some ⟨yoc11,yod11,.func (W.fnOf "__init__" "NoText.__init__" (vj ve) (xb ve) (zw ve) .none ykV11 ydc11 ypm11 yan11 ycd11 yct11),ysl11⟩) (yc11:W.codeIn K ycd11 "NoText.__init__"=true) (yk11:W.keepIn K (.ref yi11)=true)
 (ye11:zih K xx11 yi11=true) (yf11:Vl K xx11=true) (yg11:zj1 K xx11 ["row"]=true)
 : ∃ fd:FuncData,(∀ (s:zi) (v:Value),BindsTo s fd ⟨[v],[]⟩ [("script",v)])/\∀ base:Heap,K.In base->base.Ns mainGlobals mg->vP l.prog w K mg base CX0 20 fa fd ["script"] (zcB K):=by
 have D':∀ i,Dx K mg ([]:XG) (Rw i):=za1 D (D _ (o7 (i:=24) rfl))
 have e:=hfa.symm.trans (D' 24).choose_spec.choose_spec.1.at_
 cases e
 have FY11:=zdL (st:=ve) yl11 yc11 yk11
 have T:∀ base:Heap,Txt l.prog w K mg base ⟨λi=>(D' i).choose,λi=>(D' i).choose_spec.choose,0,tk0,tk1,tk2,xx0,xx1,xx2,xx3,xx4,xx5,xx6,xx7,xx8,xx9,xx10,xx11,xx12,xx13,_,_⟩:=λbase=>⟨λi=>(D' i).choose_spec.choose_spec.1,λx hx=>W.mg_none_of X G (Z x hx)
,
 o8 X G gg0,
 o8 X G gg1,
 o8 X G gg2,
 o8 X G xa0,
 o8 X G xa1,
 o8 X G xa2,
 o8 X G xa3,
 o8 X G xa4,
 o8 X G xa5,
 o8 X G xa6,
 o8 X G xa7,
 o8 X G xa8,
 o8 X G xa9,
 o8 X G xa10,
 o8 X G xa11,
 o8 X G xa12,
 o8 X G xa13,
 xc11,
 FY11,
 FY11.binds (ps:=["self","row"]) (λ_ _ _ _ _ _ us hl=>by repeat' first | rfl | (exfalso;revert hl;simp;done) | (rcases us with _ | ⟨_,us⟩)),
 ye11,
 yf11,
 yg11⟩
 exact⟨_,λs v=>zdv (D' 24).choose_spec.choose_spec.1.fn λ_ _ _ _ _ _=>rfl,λbase _ _=>ziB (T base)⟩
theorem walk {l:W.OpenLaw}{q:zX}{loose:zr}{XP:wH->Heap->Prop}{YP:World->Heap->Prop}{d:DefRec}{K:Params->W.Frag}(hn:l.most=some 63)(hdf:d.params.defaults=[])
 (hY:∀ (w:World) (h:Heap),YP w h->(K w.params).In h)
 (F:∀ (w:World) (mg:wH) (fa:Addr) (h:Heap),(K w.params).In h->h.Ns mainGlobals mg->mg d.name=some (.ref fa) ->
  ∃ fd:FuncData,(∀ (s:zi) (u:Value),BindsTo s fd ⟨[u],[]⟩ [("script",u)])/\∀ base:Heap,(K w.params).In base->base.Ns mainGlobals mg->vP l.prog w (K w.params) mg base CX0 20 fa fd ["script"] (zcB (K w.params))) :
 PySem.W.WalkO q loose XP YP l.row.toRowW d [] (λf vs=>PySem.call f vs) :=
 L2.walk_of (n:=63) (k:=20) (x:="script") (CX:=λ_=>CX0) (sp:=λw=>zcB (K w.params)) hn (by decide) hdf ⟨rfl,by decide,by decide⟩ hY F (λ_ _ a ns hl _ hS=>⟨a,ns,rfl,hS,hl,λ_=>rfl⟩) λ_ _ _ _ _ z=>z
end Mz
open PySem PySem.W PyProof.Rows
namespace PySem.W.Fast
theorem tw13601793131053986161:True:=⟨⟩
theorem tw1995823810375805924:True:=⟨⟩
theorem tw13231444196202722853:True:=⟨⟩
theorem tw14463171304854095856:True:=⟨⟩
theorem tw9797747249197887966:True:=⟨⟩
theorem tw10931242685247528160:True:=⟨⟩
theorem tw17693049379497206712:True:=⟨⟩
theorem tw11776923133280033734:True:=⟨⟩
theorem tw5911735044585343653:True:=⟨⟩
theorem tw572636749385726309:True:=⟨⟩
theorem tw11909074307846145118:True:=⟨⟩
theorem tw13813752473537225318:True:=⟨⟩
theorem tw510854703709308671:True:=⟨⟩
theorem tw11714859281449153750:True:=⟨⟩
theorem tw10363908569481434831:True:=⟨⟩
theorem tw13436399846901630723:True:=⟨⟩
theorem tw9157288795269003955:True:=⟨⟩
theorem tw7281770920317067231:True:=⟨⟩
theorem tw306644125323702257:True:=⟨⟩
theorem tw1994573530076678548:True:=⟨⟩
theorem tw8478402025209788606:True:=⟨⟩
theorem tw5770240886645545532:True:=⟨⟩
theorem tw16761219092838513149:True:=⟨⟩
theorem tw5810870220966438743:True:=⟨⟩
theorem tw13501636857608037710:True:=⟨⟩
theorem tw554440463468884695:True:=⟨⟩
theorem tw1170718176846827280:True:=⟨⟩
theorem tw18226426100063615909:True:=⟨⟩
theorem tw2739705218764197784:True:=⟨⟩
theorem tw3655983391092415966:True:=⟨⟩
theorem tw2359871364900511324:True:=⟨⟩
theorem tw12024170464357173937:True:=⟨⟩
theorem tw2754143001890578400:True:=⟨⟩
theorem tw10833349419559525901:True:=⟨⟩
theorem tw9648071548247288709:True:=⟨⟩
theorem tw14277153045619881303:True:=⟨⟩
theorem tw12074344345189641186:True:=⟨⟩
theorem tw12427218418923466275:True:=⟨⟩
theorem tw2014417082566181128:True:=⟨⟩
theorem tw3048176989722936351:True:=⟨⟩
theorem tw3444878178205051048:True:=⟨⟩
theorem tw16791886518441796295:True:=⟨⟩
theorem tw14506607802851884946:True:=⟨⟩
theorem tw3312527108181159725:True:=⟨⟩
theorem tw2889136973754312612:True:=⟨⟩
theorem tw8266968255192382532:True:=⟨⟩
theorem tw17392058985749336024:True:=⟨⟩
theorem tw2855080241115736932:True:=⟨⟩
theorem tw13952879869285111527:True:=⟨⟩
theorem tw13205059142277011383:True:=⟨⟩
theorem tw14913790486909933833:True:=⟨⟩
theorem tw16707972351217181527:True:=⟨⟩
theorem tw675824833144141154:True:=⟨⟩
theorem tw11420693762862405819:True:=⟨⟩
theorem tw5681459681134735080:True:=⟨⟩
theorem tw12163187231132860153:True:=⟨⟩
theorem tw14055600356041402731:True:=⟨⟩
theorem tw7971161938470730977:True:=⟨⟩
theorem tw11459403901147105810:True:=⟨⟩
theorem tw16862000317464189809:True:=⟨⟩
theorem tw13450046286657499812:True:=⟨⟩
theorem tw622055583531879608:True:=⟨⟩
theorem tw5106530951191169881:True:=⟨⟩
theorem tw5974510359334159742:True:=⟨⟩
theorem tw2517063744932513452:True:=⟨⟩
theorem tw3753813320321672328:True:=⟨⟩
theorem tw7560025583881667834:True:=⟨⟩
theorem tw9676451309330284286:True:=⟨⟩
theorem tw10014422368348451099:True:=⟨⟩
theorem tw13155368510831697406:True:=⟨⟩
theorem tw647916491314569742:True:=⟨⟩
theorem tw9498362448641113769:True:=⟨⟩
theorem tw4248961361151509765:True:=⟨⟩
theorem tw6477678713650441202:True:=⟨⟩
theorem tw3871040678129385353:True:=⟨⟩
theorem tw18018836597900646317:True:=⟨⟩
theorem tw5440407252390328896:True:=⟨⟩
theorem tw14483825375801352297:True:=⟨⟩
theorem tw13426432939026305828:True:=⟨⟩
theorem tw4041949919153244383:True:=⟨⟩
theorem tw12505589418837710832:True:=⟨⟩
theorem tw16440440503444730657:True:=⟨⟩
theorem tw43270912606567107:True:=⟨⟩
theorem tw2069779615203883100:True:=⟨⟩
theorem tw15285723038851433741:True:=⟨⟩
theorem tw6460722815095681877:True:=⟨⟩
theorem tw17318582920891325967:True:=⟨⟩
theorem tw17039021262622517116:True:=⟨⟩
theorem tw16804575839536522338:True:=⟨⟩
theorem tw9426438744630072351:True:=⟨⟩
theorem tw3417225858228492904:True:=⟨⟩
theorem tw773491439358425374:True:=⟨⟩
theorem tw3659055213705806121:True:=⟨⟩
theorem tw17222670971892951370:True:=⟨⟩
theorem tw2537325199788662000:True:=⟨⟩
theorem tw1170003299854867185:True:=⟨⟩
theorem tw13663879338792355216:True:=⟨⟩
theorem tw8184035844378307476:True:=⟨⟩
theorem tw2043379765293773353:True:=⟨⟩
theorem tw10035728019324073881:True:=⟨⟩
theorem tw3086401806329741015:True:=⟨⟩
theorem tw8076414341153643047:True:=⟨⟩
theorem tw1224145642152113897:True:=⟨⟩
theorem tw14848189913338053664:True:=⟨⟩
theorem tw7012583304335256740:True:=⟨⟩
theorem tw2095902846692684802:True:=⟨⟩
theorem tw16272673894155164198:True:=⟨⟩
theorem tw16573622331936562552:True:=⟨⟩
theorem tw8982728103020244187:True:=⟨⟩
theorem tw11901743789867417748:True:=⟨⟩
theorem tw14023716608629530459:True:=⟨⟩
theorem tw7009181743880930315:True:=⟨⟩
theorem tw10449323879082351687:True:=⟨⟩
theorem tw11123129148000248032:True:=⟨⟩
theorem tw13822292876104176944:True:=⟨⟩
theorem tw6096499459995616032:True:=⟨⟩
theorem tw12403631154320936033:True:=⟨⟩
theorem tw12607832685572960942:True:=⟨⟩
theorem tw7680147238620481621:True:=⟨⟩
theorem tw10924649678261941753:True:=⟨⟩
theorem tw16506910766473777097:True:=⟨⟩
theorem tw6828734575775414419:True:=⟨⟩
theorem tw14607205246172376291:True:=⟨⟩
theorem tw10652837495158941486:True:=⟨⟩
theorem tw220815667923584821:True:=⟨⟩
theorem tw9109644534646745022:True:=⟨⟩
theorem tw2233123587611020914:True:=⟨⟩
theorem tw4313381022767866038:True:=⟨⟩
theorem tw2303405854166847688:True:=⟨⟩
theorem tw4496914527404446192:True:=⟨⟩
theorem tw453264043721052592:True:=⟨⟩
theorem tw16360847491984393928:True:=⟨⟩
theorem tw7209346184036654829:True:=⟨⟩
theorem tw18223543239157059259:True:=⟨⟩
theorem tw17689667023557055658:True:=⟨⟩
theorem tw6553916431280917661:True:=⟨⟩
theorem tw1659604493690495108:True:=⟨⟩
theorem tw7499293105783836162:True:=⟨⟩
theorem tw7532183054922875391:True:=⟨⟩
theorem tw9903101108735208444:True:=⟨⟩
theorem tw12510297261694356350:True:=⟨⟩
theorem tw1456626842032454280:True:=⟨⟩
theorem tw17487684530373649216:True:=⟨⟩
theorem tw195575472913490831:True:=⟨⟩
theorem tw7025156108632395114:True:=⟨⟩
theorem tw17545656852691631628:True:=⟨⟩
theorem tw15577775783567983592:True:=⟨⟩
theorem tw16582170403205227662:True:=⟨⟩
theorem tw2509024534008494030:True:=⟨⟩
theorem tw5293829730730803314:True:=⟨⟩
theorem tw569484788723428753:True:=⟨⟩
theorem tw6768247437703999111:True:=⟨⟩
theorem tw6505165467559877217:True:=⟨⟩
theorem tw6344512572616807841:True:=⟨⟩
theorem tw16663399498101275807:True:=⟨⟩
theorem tw414583248970953845:True:=⟨⟩
theorem tw17824130527729231422:True:=⟨⟩
theorem tw9496955001417152650:True:=⟨⟩
theorem tw15705524507030973424:True:=⟨⟩
theorem tw3629306349960018046:True:=⟨⟩
theorem tw7000774526603048382:True:=⟨⟩
theorem tw1231571272935574160:True:=⟨⟩
theorem tw2550144691759928484:True:=⟨⟩
theorem tw11769331554536965117:True:=⟨⟩
theorem tw12759478755732549181:True:=⟨⟩
theorem tw17654204038505893236:True:=⟨⟩
theorem tw9566234494205268966:True:=⟨⟩
theorem tw13619736435988435185:True:=⟨⟩
theorem tw14734784764684760784:True:=⟨⟩
theorem tw1102230594922156185:True:=⟨⟩
theorem tw5744104091111885473:True:=⟨⟩
theorem tw3858636419494331758:True:=⟨⟩
theorem tw4024799662259494191:True:=⟨⟩
theorem tw7183722845902900643:True:=⟨⟩
theorem tw14075232007658806244:True:=⟨⟩
theorem tw14697499110724447110:True:=⟨⟩
theorem tw5074966861436046374:True:=⟨⟩
theorem tw958372413199159595:True:=⟨⟩
theorem tw14379171436110799922:True:=⟨⟩
theorem tw1915237553571959344:True:=⟨⟩
theorem tw5718939052924564460:True:=⟨⟩
theorem tw10979276966932092036:True:=⟨⟩
theorem tw15990313906467428069:True:=⟨⟩
theorem tw3313105726958503690:True:=⟨⟩
theorem tw4365175500872114133:True:=⟨⟩
theorem tw12804890371602886371:True:=⟨⟩
theorem tw144042515394986435:True:=⟨⟩
theorem tw18102911544756760584:True:=⟨⟩
theorem tw17315801875044765746:True:=⟨⟩
theorem tw1419541615192949141:True:=⟨⟩
theorem tw7727398247159982401:True:=⟨⟩
theorem tw14913769529334011893:True:=⟨⟩
theorem tw5898314736890290662:True:=⟨⟩
theorem tw15557338777975124551:True:=⟨⟩
theorem tw4425759832831959984:True:=⟨⟩
theorem tw9891272725862897218:True:=⟨⟩
theorem tw13278190834126174909:True:=⟨⟩
theorem tw7453681508759723931:True:=⟨⟩
theorem tw15112168799273055817:True:=⟨⟩
theorem tw230640230314286161:True:=⟨⟩
theorem tw6811664759630499472:True:=⟨⟩
theorem tw14648382791177353134:True:=⟨⟩
theorem tw17218852380600606597:True:=⟨⟩
theorem tw1726036141493031387:True:=⟨⟩
theorem tw5870709927900682609:True:=⟨⟩
theorem tw8627072328710331299:True:=⟨⟩
theorem tw1000943347679476721:True:=⟨⟩
theorem tw10354145777730134912:True:=⟨⟩
theorem tw14833300481837271946:True:=⟨⟩
theorem tw2112479854946536402:True:=⟨⟩
theorem tw14223198556227912605:True:=⟨⟩
theorem tw10352918414630363393:True:=⟨⟩
theorem tw18283696174541968512:True:=⟨⟩
theorem tw2052901958165751361:True:=⟨⟩
theorem tw4668402733308485694:True:=⟨⟩
theorem tw2468975940129920656:True:=⟨⟩
theorem tw4609836502182284389:True:=⟨⟩
theorem tw7204307897593080651:True:=⟨⟩
theorem tw15188739907801319953:True:=⟨⟩
theorem tw5287215394921085419:True:=⟨⟩
theorem tw11753548902128173736:True:=⟨⟩
theorem tw14363663006084121770:True:=⟨⟩
theorem tw5112335423710884897:True:=⟨⟩
theorem tw7292238568984478917:True:=⟨⟩
theorem tw12452186852978198797:True:=⟨⟩
theorem tw3546939291215572286:True:=⟨⟩
theorem tw61965683599660836:True:=⟨⟩
theorem tw2298472020108571952:True:=⟨⟩
theorem tw4010644239294081014:True:=⟨⟩
theorem tw308815663112888911:True:=⟨⟩
theorem tw12008270530895995326:True:=⟨⟩
theorem tw3527458063237627317:True:=⟨⟩
theorem tw17759133117172768830:True:=⟨⟩
theorem tw11130649310468096286:True:=⟨⟩
theorem tw17239286919895687804:True:=⟨⟩
theorem tw15744069126814261385:True:=⟨⟩
theorem tw1819412409797252178:True:=⟨⟩
theorem tw17529088940540919845:True:=⟨⟩
theorem tw7736488016654364771:True:=⟨⟩
theorem tw3927884790869218710:True:=⟨⟩
theorem tw1258366719241441797:True:=⟨⟩
theorem tw8698863655691554231:True:=⟨⟩
theorem tw12843023806708963471:True:=⟨⟩
theorem tw8462428446373952272:True:=⟨⟩
theorem tw15095161535104056616:True:=⟨⟩
theorem tw6169807926509645220:True:=⟨⟩
theorem tw9351164089916578555:True:=⟨⟩
theorem tw16919036353321968613:True:=⟨⟩
theorem tw2316120981199862637:True:=⟨⟩
theorem tw696032659488434137:True:=⟨⟩
theorem tw13743084638029184944:True:=⟨⟩
theorem tw9912911260748941884:True:=⟨⟩
theorem tw479325604542653794:True:=⟨⟩
theorem tw8139005888026815679:True:=⟨⟩
theorem tw7220560074010433076:True:=⟨⟩
theorem tw12362358312282030702:True:=⟨⟩
theorem tw9868660422931482277:True:=⟨⟩
theorem tw15717430575257918822:True:=⟨⟩
theorem tw231716759432212178:True:=⟨⟩
theorem tw2455383601882901880:True:=⟨⟩
theorem tw5112869857662584639:True:=⟨⟩
theorem tw10218404182901234887:True:=⟨⟩
theorem tw4116374992139688048:True:=⟨⟩
theorem tw15268423760710484560:True:=⟨⟩
theorem tw11867411832351231635:True:=⟨⟩
theorem tw12034985055679926773:True:=⟨⟩
theorem tw16162085865806839654:True:=⟨⟩
theorem tw7833207297299775622:True:=⟨⟩
theorem tw8058816580921624402:True:=⟨⟩
theorem tw5767906570791934093:True:=⟨⟩
theorem tw12794898091648831350:True:=⟨⟩
theorem tw17079766792516322769:True:=⟨⟩
theorem tw9867566788533519246:True:=⟨⟩
theorem tw5431937089163876470:True:=⟨⟩
theorem tw4962009176045270067:True:=⟨⟩
theorem tw5482494956131516446:True:=⟨⟩
theorem tw8767623150077712637:True:=⟨⟩
theorem tw1320221979306208867:True:=⟨⟩
theorem tw17854453824993284849:True:=⟨⟩
theorem tw17781394376719459159:True:=⟨⟩
theorem tw12521524853785255108:True:=⟨⟩
theorem tw2444086675443041135:True:=⟨⟩
theorem tw4323580012981343473:True:=⟨⟩
theorem tw11989373928113738371:True:=⟨⟩
theorem tw13763822206430714215:True:=⟨⟩
theorem tw2325554608313968061:True:=⟨⟩
theorem tw94223186082549960:True:=⟨⟩
theorem tw16030351173142119204:True:=⟨⟩
theorem tw16508351124888127434:True:=⟨⟩
theorem tw10971776860541996390:True:=⟨⟩
theorem tw14223088715434345559:True:=⟨⟩
theorem tw11943131983885698681:True:=⟨⟩
theorem tw14244296221282371891:True:=⟨⟩
theorem tw9573416904079323353:True:=⟨⟩
theorem tw11458271742644701899:True:=⟨⟩
theorem tw12977689927730289263:True:=⟨⟩
theorem tw18233847050677380682:True:=⟨⟩
theorem tw18136520152173927872:True:=⟨⟩
theorem tw6906696560042552455:True:=⟨⟩
theorem tw11615558066723374618:True:=⟨⟩
theorem tw6505013675467377619:True:=⟨⟩
theorem tw758593383328638401:True:=⟨⟩
theorem tw6935820571439113506:True:=⟨⟩
theorem tw10610711231347577253:True:=⟨⟩
theorem tw12886018849881128114:True:=⟨⟩
theorem tw2489813826484773303:True:=⟨⟩
theorem tw5690398927184866667:True:=⟨⟩
theorem tw17194874458516592570:True:=⟨⟩
theorem tw3340684025081029209:True:=⟨⟩
theorem tw16696299801537096264:True:=⟨⟩
theorem tw9092538373689966760:True:=⟨⟩
theorem tw11161924682829360844:True:=⟨⟩
theorem tw7808627458585137279:True:=⟨⟩
theorem tw6186915721401588445:True:=⟨⟩
theorem tw13681535902877977960:True:=⟨⟩
theorem tw11293466038316637029:True:=⟨⟩
theorem tw2455162479711232652:True:=⟨⟩
theorem tw16535279814178091635:True:=⟨⟩
theorem tw274601951652234259:True:=⟨⟩
theorem tw4252670185223473239:True:=⟨⟩
theorem tw147660053617723945:True:=⟨⟩
theorem tw3408085531320389290:True:=⟨⟩
theorem tw7266923466451628679:True:=⟨⟩
theorem tw10100056383910434552:True:=⟨⟩
theorem tw9255826050349802010:True:=⟨⟩
theorem tw17873410180543696506:True:=⟨⟩
theorem tw9436463403799627083:True:=⟨⟩
theorem tw15139891203235311053:True:=⟨⟩
theorem tw11138411927311011665:True:=⟨⟩
theorem tw4412184202316474088:True:=⟨⟩
theorem tw4666991064035038180:True:=⟨⟩
theorem tw16108310199585854270:True:=⟨⟩
theorem tw15323452158973154217:True:=⟨⟩
theorem tw15151463446344999558:True:=⟨⟩
theorem tw12682923903919269603:True:=⟨⟩
theorem tw12923512147569694197:True:=⟨⟩
theorem tw17237577202045139163:True:=⟨⟩
theorem tw14359374731201787806:True:=⟨⟩
theorem tw325495193755288272:True:=⟨⟩
theorem tw17157306622820254612:True:=⟨⟩
theorem tw12429538597086681601:True:=⟨⟩
theorem tw3561103353602669381:True:=⟨⟩
theorem tw6267176509268332586:True:=⟨⟩
theorem tw15898270561691230969:True:=⟨⟩
theorem tw16840303181684765165:True:=⟨⟩
theorem tw12086253494028737454:True:=⟨⟩
theorem tw10394028770505180492:True:=⟨⟩
theorem tw3981264321894522496:True:=⟨⟩
theorem tw4817976505404550814:True:=⟨⟩
theorem tw4690411651563742211:True:=⟨⟩
theorem tw7072820631681542902:True:=⟨⟩
theorem tw2132305348239856068:True:=⟨⟩
theorem tw12288692792225827451:True:=⟨⟩
theorem tw15479175818458114302:True:=⟨⟩
theorem tw16996530857317501273:True:=⟨⟩
theorem tw242738348235141635:True:=⟨⟩
theorem tw1619300187608476002:True:=⟨⟩
theorem tw7219667321430211525:True:=⟨⟩
theorem tw5001459910286625895:True:=⟨⟩
theorem tw1133678982522491458:True:=⟨⟩
theorem tw16045093141052481700:True:=⟨⟩
theorem tw109553291623389646:True:=⟨⟩
theorem tw12369648752228905742:True:=⟨⟩
theorem tw2710412616681275654:True:=⟨⟩
theorem tw13924516799307793596:True:=⟨⟩
theorem tw9533796182768469825:True:=⟨⟩
theorem tw14413736538201184242:True:=⟨⟩
theorem tw8592962180745633412:True:=⟨⟩
theorem tw8365374051991519403:True:=⟨⟩
theorem tw13601483577173437605:True:=⟨⟩
theorem tw17521835443706829145:True:=⟨⟩
theorem tw8883788848519021552:True:=⟨⟩
theorem tw15001712955267542264:True:=⟨⟩
theorem tw8846521811733927128:True:=⟨⟩
theorem tw11835736062537847741:True:=⟨⟩
theorem tw13596959553806602729:True:=⟨⟩
theorem tw14764780261887120766:True:=⟨⟩
theorem tw9072490594845223096:True:=⟨⟩
theorem tw13542033241066043359:True:=⟨⟩
theorem tw7188874820834294746:True:=⟨⟩
theorem tw6789952627152733767:True:=⟨⟩
theorem tw11555244722721735952:True:=⟨⟩
theorem tw10262709770790821801:True:=⟨⟩
theorem tw16672302370674255127:True:=⟨⟩
theorem tw5687646190574955660:True:=⟨⟩
theorem tw8772761610658231864:True:=⟨⟩
theorem tw14748913937916536309:True:=⟨⟩
end PySem.W.Fast
set_option maxRecDepth 100000 in
set_option maxHeartbeats 0 in
theorem PySem.Challenge.cw_twoforone_k91_read_or_refused_holds : PySem.Challenge.rw_twoforone_k91_read_or_refused.Holds := by
  w_on;o_law;k_head;(case hw=>w_witness2)
  k_fill
  refine Mz.walk (l:=PySem.Challenge.rw_twoforone_k91_read_or_refused) rfl rfl (fun w h Y=>PySem.W.kIn_of Y) ?F
  case F =>
    intro w mg fa h KX G hmg
    refine' Mz.all_mk KX G hmg ?D ?Z ?gg0 ?gg1 ?gg2 ?xa0 ?xa1 ?xa2 ?xa3 ?xa4 ?xa5 ?xa6 ?xa7 ?xa8 ?xa9 ?xa10 ?xa11 ?xa12 ?xa13 ?xc11 ?ya11 ?yl11 ?yc11 ?yk11 ?ye11 ?yf11 ?yg11
    case D =>
      repeat
        refine' Dl.Dx_cons (Dl.mkX KX G ?_ ?_ ?_ ?_ ?_ ?_) ?_
        any_goals k_is
        · intro _ _ _ _ _ _ us hl
          repeat' first | rfl | (exfalso;revert hl;simp;done) | (rcases us with _ | ⟨_,us⟩)
        · first | exact .inl rfl | exact .inr ⟨_,rfl,rfl⟩
      exact fun _ h=>nomatch h
    case Z =>
      repeat
        refine' Dl.Z_cons ?_ ?_
        · k_is
      exact fun _ h=>nomatch h
    case gg0 | gg1 | gg2 | xa0 | xa1 | xa2 | xa3 | xa4 | xa5 | xa6 | xa7 | xa8 | xa9 | xa10 | xa11 | xa12 | xa13=>k_is
    case xc11=>kernel_rfl
    case ya11 | yl11 | yc11 | yk11=>k_is
    case ye11 | yf11 | yg11=>kernel_rfl
