import PyProof.Rows.All
import Wide.All
import OpenK.AllK
import Wide.FinOn
import Lean
import PyProof.EqAt
import PyProof.EqKinds
import PyProof.TupleCall
import PyProof.NeKinds
import KE.KIntText
import PySem.Challenge.RW_twoforone_k94_whole_desk_led_back
set_option bootstrap.genMatcherCode false
set_option compiler.extract_closed false
set_option Elab.async false
set_option linter.all false
set_option maxRecDepth 100000
set_option maxHeartbeats 4000000
def u0H:=@Array.getElem?_eq_getElem
def u2i:=@Array.getElem?_eq_some_iff
def u1M:=@Array.getElem?_toList
def l9:=@Array.length_toList
def u2j:=@Array.perm_iff_toList_perm
def u16:=@Array.toList_append
def j0:=@Bool.and_eq_true
def u0U:=@Bool.and_false
def u2N:=@Bool.and_true
def u1m:=@Bool.eq_iff_iff
def u29:=@Bool.false_and
def u1n:=@Bool.false_eq_true
def u7:=@Bool.false_ne_true
def u03:=@Bool.not_eq_true'
def u0Z:=@Bool.or_eq_true
def u0W:=@PySem.Calls.callWith_builtin
def u1Y:=@PySem.Calls.evalArgs_plain
def u2n:=@PySem.Calls.spliced_cons
def u2o:=@PySem.Code.quiet_builtin
def u2p:=@PySem.F.args_str_split_2
def u2q:=@PySem.F.args_tuple_mul_2
def u2G:=@PySem.F.entry_str_split
def u2H:=@PySem.F.entry_tuple_mul
def u18:=@PySem.F.slot_int_rmul
def u0D:=@PySem.F.slot_tuple_iterator_next
def u1a:=@PySem.F.slot_tuple_mul
def u19:=@PySem.F.slot_zip_next
def u1e:=@PySem.Heap.SameBut.update
def u6:=@PySem.Heap.get?_push_of_some
def j8:=@PySem.Heap.get?_push_size
def h9:=@PySem.Heap.get?_update_other
def i0:=@PySem.Heap.get?_update_self
def q4:=@PySem.Heap.lt_size
def p6:=@PySem.Heap.size_push
def u2r:=@Int.emod_lt_of_pos
def u22:=@Int.emod_nonneg
def u0K:=@Int.toNat_natCast
def u1D:=@PyProof.Rows.KeyOrd.kle_of_klt
def u0A:=@PyProof.Rows.KeyOrd.kle_refl
def u1U:=@PyProof.Rows.KeyOrd.kle_trans
def u3a:=@List.Perm.refl
def u14:=@List.all_cons
def p4:=@List.all_eq_true
def u1N:=@List.all_map
def u15:=@List.any_cons
def u04:=@List.append_assoc
def r8:=@List.append_nil
def u0j:=@List.dropLast_concat
def u0a:=@List.drop_eq_getElem_cons
def u0R:=@List.drop_length
def u2a:=@List.drop_succ_cons
def u3b:=@List.drop_zero
def u2b:=@List.filterMap_cons
def u00:=@List.find?_cons
def u0L:=@List.flatten_cons
def u1o:=@List.forIn_cons
def u2D:=@List.forIn_nil
def i8:=@List.getD_eq_getElem?_getD
def o9:=@List.getElem?_append_left
def o7:=@List.getElem?_append_right
def p7:=@List.getElem?_cons_succ
def g5:=@List.getElem?_eq_getElem
def u1O:=@List.getElem?_eq_none
def j3:=@List.getElem?_eq_some_iff
def k9:=@List.getElem?_map
def u0f:=@List.getElem?_replicate
def u0o:=@List.getElem?_set
def u8:=@List.getElem?_set_ne
def r6:=@List.getElem?_set_self
def u1V:=@List.getElem_map
def u0S:=@List.getElem_mem
def u1f:=@List.getElem_of_mem
def u1Z:=@List.getLast?_concat
def u08:=@List.getLast?_eq_some_iff
def j4:=@List.length_append
def k7:=@List.length_cons
def u1b:=@List.length_drop
def u0g:=@List.length_eq_zero_iff
def u9:=@List.length_map
def u1p:=@List.length_nil
def u24:=@List.length_set
def u0v:=@List.length_take
def r9:=@List.map_append
def u2c:=@List.map_congr_left
def n0:=@List.map_cons
def u0F:=@List.map_map
def u0t:=@List.mem_append
def u06:=@List.mem_append_left
def o0:=@List.mem_append_right
def q7:=@List.mem_cons
def r4:=@List.mem_cons_of_mem
def f8:=@List.mem_cons_self
def u01:=@List.mem_filter
def u1q:=@List.mem_filterMap
def l6:=@List.mem_map
def o8:=@List.mem_of_getElem?
def u0r:=@List.mem_range
def j5:=@List.mem_singleton
def u2I:=@List.nodup_append
def u0B:=@List.nodup_cons
def u1L:=@List.nodup_nil
def o5:=@List.not_mem_nil
def u1r:=@List.of_mem_zip
def u0u:=@List.pairwise_cons
def u1s:=@List.pairwise_singleton
def u0p:=@List.replicate_succ
def t9:=@List.size_toArray
def u1W:=@List.take_length
def u1z:=@List.take_of_length_le
def u2S:=@List.zipIdx_cons
def u2t:=@List.zip_cons_cons
def u0P:=@Nat.add_le_add_left
def u0l:=@Nat.le_add_right
def u2d:=@Nat.le_antisymm
def i4:=@Nat.le_of_lt
def i6:=@Nat.le_of_lt_succ
def u0E:=@Nat.le_of_not_lt
def t6:=@Nat.le_refl
def u07:=@Nat.le_sub_one_of_lt
def u1g:=@Nat.le_succ
def r0:=@Nat.le_trans
def u0h:=@Nat.lt_irrefl
def l7:=@Nat.lt_of_le_of_lt
def u2u:=@Nat.lt_of_le_of_ne
def q5:=@Nat.lt_of_lt_of_le
def u0y:=@Nat.lt_succ_of_lt
def u1c:=@Nat.lt_succ_self
def u1t:=@Nat.min_eq_left
def u2T:=@Nat.min_eq_right
def u0O:=@Nat.ne_of_gt
def k6:=@Nat.ne_of_lt
def u10:=@Nat.sub_le_sub_right
def u1d:=@Nat.succ_le_succ
def g8:=@Nat.zero_add
def u0b:=@Nat.zero_le
def u2J:=@Nat.zero_lt_of_lt
def i7:=@Ne.symm
def u1u:=@PySem.Obj.data_mapFields
def u4:=@Option.bind_eq_some_iff
def j7:=@Option.bind_some
def u2K:=@Option.isSome_iff_exists
def u1E:=@Option.isSome_map
def t4:=@Option.map_eq_some_iff
def o4:=@Option.some.inj
def u2O:=@PySem.Paired.length
def u2e:=@PySem.PassesOwn.never
def u2v:=@Prod.ext
def u0i:=@PyProof.Rows.callWith_type1
def p5:=@PyProof.Rows.slot_tuple_getitem
def u09:=@PySem.F.args_dict_keyiterator_next_1
def u1i:=@PySem.F.args_tuple_add_2
def u1h:=@PySem.F.entry_dict_keyiterator_next
def u1v:=@PySem.F.entry_tuple_add
def u0m:=@PySem.F.excBase_ValueError
def p8:=@PySem.F.plainAttrs_list
def u0n:=@PySem.F.plainAttrs_str
def l4:=@PySem.F.slot_dict_keyiterator_next
def u1j:=@PySem.F.slot_list_append
def u1P:=@PySem.F.slot_str_join
def u1A:=@PySem.F.slot_tuple_add
def u1k:=@PySem.F.type_list_append
def u1Q:=@PySem.F.type_str_join
def u1w:=@PySem.W.callWith_K
def u0X:=@PySem.W.cellsFrom_some
def u2w:=@PySem.W.codeRec_of
def u0q:=@PySem.W.hideAll_get
def u11:=@PySem.W.hideAll_none
def u2x:=@PySem.W.isNs_of_in
def l0:=@PySem.W.kia_one
def u1F:=@PySem.W.kitx_dict
def u2f:=@PySem.W.looks_clsIn
def o6:=@PySem.W.mg_of
def u2y:=@PySem.W.of_hideAll
def u2g:=@PySem.W.plainGet_of
def u0c:=@PySem.mem_of_lookup
def u2z:=@PySem.SeqAt.EqAt.int_int
def u2A:=@PySem.SeqAt.EqAt.of_refs
def u02:=@PySem.StrLaws.glued_eq_join
def g0:=@beq_eq_false_iff_ne
def u0k:=@beq_iff_eq
def u0T:=@beq_self_eq_true
def u0z:=@PySem.call_meets
def u12:=@PySem.codeAny_call_builtin
def u1R:=@PySem.codeAny_call_function
def u1l:=@PySem.codeAny_mono
def u0x:=@congrArg
def t8:=@decide_eq_false
def g9:=@decide_eq_false_iff_not
def q0:=@decide_eq_true
def j9:=@decide_eq_true_eq
def u2B:=@if_false
def j6:=@if_neg
def t7:=@if_pos
def u1X:=@if_true
def u1G:=@not_false_eq_true
def u3e:=@not_or
def k8:=@of_decide_eq_true
def u0J:=@or_false
def u2C:=@PyProof.Rows.pairsOf_size
def u1H:=@PySem.plainObj_wpAny_Assign_Attribute
def u0I:=@PySem.sizeLine_eq
def u1B:=@PyProof.Rows.subscriptTail_builtinR
def u28:=@PySem.typeIs_int
def u2L:=@PySem.typeIs_str
def u0G:=@PySem.wpAny_Call_Name_kw
def u1C:=@PySem.wpAny_Call_method_late
def u0Q:=@PySem.wpAny_attempt
def u5:=@PySem.wpAny_bind
def u1I:=@PySem.wpAny_call
def p0:=@PySem.wpAny_callSpecial?_slot
def i5:=@PySem.wpAny_call_entry
def u2M:=@PySem.wpAny_dictEntries
def u2h:=@PySem.wpAny_execs_nil
def u0d:=@PySem.wpAny_field
def l8:=@PySem.wpAny_holding
def u0C:=@PySem.wpAny_loadPart'
def u05:=@PySem.wpAny_loadPart_at
def g6:=@PySem.wpAny_mono
def l5:=@PySem.wpAny_newObj_type
def u1x:=@PySem.wpAny_passesOwn
def t5:=@PySem.wpAny_pure
def u1J:=@PySem.wpAny_pyIter_enum
def u0M:=@PySem.wpAny_pyIter_list
def i9:=@PySem.wpAny_pyIter_tuple
def u1K:=@PySem.wpAny_rule
def u0V:=@PySem.wpAny_seqItems
def u2F:=@PySem.wpAny_setField
def u0Y:=@PySem.wpAny_setField_rec
def u1y:=@PySem.wpAny_standAt
def u0e:=@PySem.wpAny_truthy_bool
def u0w:=@PySem.wpAny_typeNameOfWhole_keyiter
def u0N:=@PySem.wpAny_typeNameOf_keyiter
def u1S:=@PySem.wpAny_typeOf
def p9:=@PyProof.Rows.wpS_bind
def u1T:=@PyProof.Rows.wpS_forRange
def u0s:=@PyProof.Rows.wpS_pure
noncomputable section
abbrev yU:=PySem.Value->PySem.Shared->Prop
abbrev xC:=List (PySem.Addr × PySem.Obj)
abbrev wn:=PySem.Str->Option PySem.Value
abbrev Vr:=List (PySem.Str × PySem.Addr)
abbrev ZI:=List (List Int)
abbrev wq:=Array PySem.Value
abbrev zC:=List Int
abbrev zB:=List PySem.Value
abbrev zH:=List PySem.Str
abbrev y9:=List PySem.Expr
abbrev wU:=List PySem.Stmt
abbrev xS:=List PySem.Addr
abbrev y6:=Option PySem.Addr
abbrev yG:=Option Int
abbrev zv:=PySem.W.Frag
abbrev wh:=PySem.FuncData
abbrev zP:=PySem.Program
abbrev zn:=PySem.Shared
abbrev zR:=PySem.Around
namespace L2
open PySem PySem.Spec PyProof.Rows
abbrev Key:=Sum Int Str
def zfc:Key->Value->Bool
 | .inl k,v=>Value.isInt k v
 | .inr x,v=>Value.isStrOf x v
def keyH (w:World):Key->Int
 | .inl k=>hashInt k
 | .inr x=>hashStr w x
def yZ:∀ {k:Key} {v:Value},zfc k v=true->(∃ i t,k=Sum.inl i/\v=Value.int i t)\/(∃ x t,k=Sum.inr x/\v=Value.str x t)
 | .inl i,v,h=>by
  obtain⟨t,e⟩:=Value.isInt_shape (k:=i) (v:=v) h
  exact .inl ⟨i,t,rfl,e⟩
 | .inr x,v,h=>by
  obtain⟨t,e⟩:=Value.isStrOf_shape (x:=x) (v:=v) h
  exact .inr ⟨x,t,rfl,e⟩
def zg7 (i:Int)(t:Tok):zfc (.inl i) (.int i t)=true:=by simp[zfc,Value.isInt]
def zio (x:Str)(t:Tok):zfc (.inr x) (.str x t)=true:=by simp[zfc,Value.isStrOf]
def zoB (a b:Int):decide ((Sum.inl a:Key)=Sum.inl b)=(a == b):=by
 by_cases e:a=b
 .subst e;simp
 .have h:¬ (Sum.inl a:Key)=Sum.inl b:=λq=>e (Sum.inl.inj q)
  rw[t8 h]
  exact(g0.mpr e).symm
def zqs (a b:Str):decide ((Sum.inr a:Key)=Sum.inr b)=decide (a=b):=by
 by_cases e:a=b
 .subst e;simp
 .have h:¬ (Sum.inr a:Key)=Sum.inr b:=λq=>e (Sum.inr.inj q)
  rw[t8 h,t8 e]
def zod (a:Int)(b:Str):decide ((Sum.inl a:Key)=Sum.inr b)=false:=t8 (λq=>nomatch q)
def zqG (a:Str)(b:Int):decide ((Sum.inr a:Key)=Sum.inl b)=false:=t8 (λq=>nomatch q)
def wu (prog:zP)(w:World):PySem.KeyKind prog w Key where
 is:=zfc
 hash:=keyH w
 inj:=λv a b ha hb=>by
  rcases yZ ha with ⟨i,t,rfl,rfl⟩ | ⟨x,t,rfl,rfl⟩
  .rcases yZ hb with ⟨j,u,rfl,e⟩ | ⟨y,u,rfl,e⟩
   .injection e with e1 _;rw[e1]
   .exact nomatch e
  .rcases yZ hb with ⟨j,u,rfl,e⟩ | ⟨y,u,rfl,e⟩
   .exact nomatch e
   .injection e with e1 _;rw[e1]
 byValue:=λk v h=>by
  rcases yZ h with ⟨i,t,rfl,rfl⟩ | ⟨x,t,rfl,rfl⟩ <;> rfl
 pyHash:=λhv h=>by
  rcases yZ hv with ⟨i,t,rfl,rfl⟩ | ⟨x,t,rfl,rfl⟩
  .exact wpAny_pyHash_int h
  .exact wpAny_pyHash_str h
 eqBool:=λhu hv h=>by
  rcases yZ hu with ⟨i,t,rfl,rfl⟩ | ⟨x,t,rfl,rfl⟩
  .rcases yZ hv with ⟨j,u,rfl,rfl⟩ | ⟨y,u,rfl,rfl⟩
   .rw[zoB]at h;exact wpAny_eqBool_int h
   .rw[zod]at h;exact SeqAt.EqAt.int_str i t y u _ _ _ _ h
  .rcases yZ hv with ⟨j,u,rfl,rfl⟩ | ⟨y,u,rfl,rfl⟩
   .rw[zqG]at h;exact SeqAt.EqAt.str_int x t j u _ _ _ _ h
   .rw[zqs]at h;exact wpAny_eqBool_str h
 «strs»:=λk x t v h=>by
  rcases yZ h with ⟨i,u,rfl,e⟩ | ⟨y,u,rfl,e⟩
  .exact nomatch e
  .injection e with e1 _
   subst e1
   cases v <;> rfl
def zdp (a:zP)(w:World)(i:Int)(t:Tok):(wu a w).is (.inl i) (.int i t)=true:=zg7 i t
def zcG (a:zP)(w:World)(x:Str)(t:Tok):(wu a w).is (.inr x) (.str x t)=true:=zio x t
inductive V where
 | non | bl (b:Bool) | int (i:Int) | str (x:Str) | byt (b:Array UInt8) | flt (b:UInt64) | ref (a:Addr) | ty (n:String)
 deriving DecidableEq
abbrev zaa:=List (List Key × V)
abbrev zx:=List V
def xi:V->Value->Prop
 | .non,u=>u=Value.none
 | .bl b,u=>u=Value.bool b
 | .int i,u=>∃ t,u=Value.int i t
 | .str x,u=>∃ t,u=Value.str x t
 | .byt b,u=>∃ t,u=Value.bytes b t
 | .flt b,u=>∃ t,u=Value.float b t
 | .ref a,u=>u=Value.ref a
 | .ty n,u=>u=Value.type n
abbrev yw:zx->zB->Prop:=Paired xi
def yw.length {xs:zx}{a:zB}(r:yw xs a):xs.length=a.length:=u2O r
def yw.get:∀ {b:zx} {a:zB} {i:Nat} {x:V},yw b a->b[i]?=some x->∃ u,a[i]?=some u/\xi x u
 | _,_,_,_,.nil,e=>by simp at e
 | _,_,0,_,.cons r _,e=>by simp at e;subst e;exact⟨_,rfl,r⟩
 | _,_,i+1,x,.cons _ t,e=>by
  obtain⟨u,c,d⟩:=yw.get (i:=i) (x:=x) t (by simpa using e)
  exact⟨u,by simpa using c,d⟩
def yw.set (r:xi x u):∀ {b:zx} {a:zB} (i:Nat),yw b a->yw (b.set i x) (a.set i u)
 | _,_,_,.nil=>.nil
 | _,_,0,.cons _ t=>.cons r t
 | _,_,i+1,.cons q t=>.cons q (yw.set r i t)
def yw.append:∀ {d c:zx} {a b:zB},yw d a->yw c b->yw (d++c) (a++b):=by
 intro d c a b h s
 induction h with
 | nil=>exact s
 | cons r t e=>exact .cons r e
def yw.take:∀ {b:zx} {a:zB} (n:Nat),yw b a->yw (b.take n) (a.take n)
 | _,_,0,_=>.nil
 | _,_,_+1,.nil=>.nil
 | _,_,n+1,.cons r t=>.cons r (yw.take n t)
def yw.drop:∀ {b:zx} {a:zB} (n:Nat),yw b a->yw (b.drop n) (a.drop n)
 | _,_,0,r=>r
 | _,_,_+1,.nil=>.nil
 | _,_,n+1,.cons _ t=>yw.drop n t
def zdr:Option V->Option Value->Prop
 | some v,some u=>xi v u
 | none,none=>True
 | _,_=>False
def KV {κ:Type}:List (κ × V)->List (κ × Value)->Prop:=Paired λ(p:κ × V) (q:κ × Value)=>p.1=q.1/\xi p.2 q.2
def kV:Key->V
 | .inl i=>.int i
 | .inr x=>.str x
inductive HO where
 | lst (xs:zx)
 | tup (xs:zx)
 | dK (kvs:List (Key × V)) | dT (kvs:zaa)
 | set (S:Int->Bool) (n:Nat)
 | ins (C dx:Addr) (fs:List (Str × V))
 | own (x:Addr)
 | xd (fs:List (Str × V))
 | met (f x:Addr)
 | rng (lo hi:Int)
 | frz (o:Obj) (u:HO)
 | tbl (ps:wq)
 | ext (φ:Heap->Prop)
abbrev Hp:=Addr->Option HO
def upd (H:Hp)(a:Addr)(o:HO):Hp:=λb=>if b=a then some o else H b
def zl:upd H a o a=some o:=by unfold upd;rw[t7 rfl]
def zi {H:Hp}(h:b≠a):upd H a o b=H b:=by unfold upd;rw[j6 h]
def zhB:upd (upd H a o) a u=upd H a u:=by
 funext b;unfold upd;split <;> rfl
def ziV {H:Hp}(h:H a=some o)(c:H b=some u)(d:o≠u):a≠b:=by
 intro e;subst e;rw[h]at c;exact d (o4 c)
def ze {H:Hp}(h:H a=some o)(c:H b=none):a≠b:=by
 intro e;subst e;rw[h]at c;cases c
section
variable (P:zP)(w:World)
def yT (H:Hp)(h:Heap)(a:Addr):HO->Prop
 | .lst d=>d.length<=sizeLine/\∃ (c:zB) (n:Nat),yw d c/\h.get? a=some { cls:=.type "list",data:=.seq c.toArray n }
 | .tup d=>d.length<=sizeLine/\∃ c:zB,yw d c/\IsTup h a c.toArray
 | .dK b=>b.length<=sizeLine/\(a == sysModules)=false/\∃ j,KV b j/\h.DictOf (wu P w) a j
 | .dT b=>b.length<=sizeLine/\(a == sysModules)=false/\∃ d:List (List Key × Addr × Value),
  Paired (λ(p:List Key × V) (q:List Key × Addr × Value)=>p.1=q.1/\H q.2.1=some (.tup (p.1.map kV))/\xi p.2 q.2.2) b d /\
  ∃ o m r,h.get? a=some o/\o.ExactDict/\o.data=.dict m r/\m.toList=d.map (entryOfKey (tupleKind (wu P w)))/\(d.map (·.1)).Nodup
 | .set S n=>h.SetOf (intKind P w) a S n
 | .ins C i g=>H i=some (.own a)/\g.length<=1000/\i≠a/\h.get? a=some (W.instObj C i) /\
  ∃ e,h.Ns1 i e/\(∀ f,zdr (g.lookup f) (e f))/\PySem.Within e (g.map (·.1))
 | .own _=>∃ o,h.get? a=some o
 | .xd g=>∃ e,h.Ns1 a e/\∀ f,zdr (g.lookup f) (e f)
 | .rng z y=>∃ t u v,h.get? a=some { cls:=.type "range",data:=.fields #[.int z t,.int y u,.int 1 v] }
 | .frz o u=>h.get? a=some o/\yT H h a u
 | .tbl s=>h.get? a=some { cls:=.none,data:=.fields s }
 | .met f x=>h.get? a=some (W.methodObj (.ref f) (.ref x))
 | .ext φ=>φ h/\(∃ o,h.get? a=some o)/\∀ k l:Heap,φ k->(∀ o,k.get? a=some o->l.get? a=some o)->φ l
def HOk (H:Hp)(h:Heap):Prop:=∀ a o,H a=some o->yT P w H h a o
end
section
variable {P:zP}{w:World}{H H':Hp}{h h':Heap}{a:Addr}{o:HO}
def yT.lt (x:yT P w H h a o):a<h.objs.size:=by
 cases o with
 | lst c=>obtain⟨_,_,_,_,e⟩:=x;exact q4 e
 | tup c=>obtain⟨_,_,_,p⟩:=x;exact p.lt
 | dK b=>obtain⟨_,_,_,_,o,_,_,e,_⟩:=x;exact q4 e
 | dT b=>obtain⟨_,_,_,_,o,_,_,e,_⟩:=x;exact q4 e
 | set S n=>obtain⟨o,_,_,_,e,_⟩:=x;exact q4 e
 | ins C i d=>obtain⟨_,_,_,e,_⟩:=x;exact q4 e
 | own y=>obtain⟨_,e⟩:=x;exact q4 e
 | xd d=>obtain⟨_,⟨_,_,_,e,_⟩,_⟩:=x;exact q4 e
 | rng j l=>obtain⟨_,_,_,e⟩:=x;exact q4 e
 | frz k u=>obtain⟨e,_⟩:=x;exact q4 e
 | tbl g=>exact q4 (show h.get? a=some _ from x)
 | met f y=>exact q4 (show h.get? a=some _ from x)
 | ext φ=>obtain⟨_,⟨_,e⟩,_⟩:=x;exact q4 e
def Paired.mapP {α β:Type}{F G:α->β->Prop}:∀ {d:List α} {c:List β},Paired F d c->(∀ a b,F a b->G a b)->Paired G d c:=by
 intro g i h f
 induction h with
 | nil=>exact .nil
 | cons r t e=>exact .cons (f _ _ r) e
def yT.stay (x:yT P w H h a o)(k:∀ b u,(b=a\/H b=some (.own a))->h.get? b=some u->h'.get? b=some u)
 (M:∀ b,H b=some (.own a)->H' b=some (.own a)) (F:∀ b m,H b=some (.tup m)->H' b=some (.tup m)):yT P w H' h' a o:=by
 induction o with
 | lst m=>obtain⟨z,l,n,r,e⟩:=x;exact⟨z,l,n,r,k _ _ (.inl rfl) e⟩
 | tup m=>obtain⟨z,l,r,g,e,c⟩:=x;exact⟨z,l,r,g,k _ _ (.inl rfl) e,c⟩
 | dK s=>obtain⟨z,y,J,r,g,j,i,e,c⟩:=x;exact⟨z,y,J,r,g,j,i,k _ _ (.inl rfl) e,c⟩
 | dT s =>
  obtain⟨z,y,m,r,g,j,i,e,c⟩:=x
  exact⟨z,y,m,Paired.mapP r λp q z=>⟨z.1,F _ _ z.2.1,z.2.2⟩,g,j,i,k _ _ (.inl rfl) e,c⟩
 | set S n=>obtain⟨g,j,i,t,e,c⟩:=x;exact⟨g,j,i,t,k _ _ (.inl rfl) e,c⟩
 | ins C O K =>
  obtain⟨d,z,G,e,B,⟨A,j,i,L,c⟩,r⟩:=x
  exact⟨M _ d,z,G,k _ _ (.inl rfl) e,B,⟨A,j,i,k _ _ (.inr d) L,c⟩,r⟩
 | own y=>obtain⟨g,e⟩:=x;exact⟨g,k _ _ (.inl rfl) e⟩
 | xd K=>obtain⟨B,⟨A,j,i,e,c⟩,r⟩:=x;exact⟨B,⟨A,j,i,k _ _ (.inl rfl) e,c⟩,r⟩
 | rng Q N=>obtain⟨t,u,v,e⟩:=x;exact⟨t,u,v,k _ _ (.inl rfl) e⟩
 | frz g u I=>obtain⟨e,q⟩:=x;exact⟨k _ _ (.inl rfl) e,I q⟩
 | tbl D =>
  have e:h.get? a=some { cls:=.none,data:=.fields D }:=x
  show h'.get? a=some { cls:=.none,data:=.fields D }
  exact k a _ (.inl rfl) e
 | met f y =>
  have e:h.get? a=some (W.methodObj (.ref f) (.ref y)):=x
  show h'.get? a=some (W.methodObj (.ref f) (.ref y))
  exact k a _ (.inl rfl) e
 | ext φ=>obtain⟨p,⟨o,e⟩,E⟩:=x;exact⟨E _ _ p λo q=>k _ _ (.inl rfl) q,⟨o,k _ _ (.inl rfl) e⟩,E⟩
def HOk.lt (x:HOk P w H h)(e:H a=some o):a<h.objs.size:=(x a o e).lt
def HOk.fresh (x:HOk P w H h)(e:h.objs.size<=a):H a=none:=by
 cases q:H a with
 | none=>rfl
 | some u=>exact absurd (q5 (x.lt q) e) (u0h _)
def HOk.kept (x:HOk P w H h)(k:∀ b u,h.get? b=some u->h'.get? b=some u):HOk P w H h':=λa o e =>
 (x a o e).stay (λb u _ q=>k b u q) (λ_ q=>q) λ_ _ q=>q
def HOk.laid (x:HOk P w H h)(k:∀ b u,h.get? b=some u->h'.get? b=some u)(i:h.objs.size<=a)(d:yT P w (upd H a o) h' a o):HOk P w (upd H a o) h':=λb u e=>by
 have g:=x.fresh i
 by_cases f:b=a
 .subst f;rw[zl]at e;cases e;exact d
 .rw[zi f]at e
  exact(x b u e).stay (λc v _ q=>k c v q) (λc q=>by rw[zi (ze q g)];exact q) λc j q=>by rw[zi (ze q g)];exact q
end
def Rd (H:Hp)(a:Addr)(u:HO):Prop:=H a=some u\/∃ o,H a=some (.frz o u)
def Rd.ok {w:World}(r:Rd H a u)(x:HOk P w H h):yT P w H h a u:=by
 rcases r with r | ⟨o,r⟩
 .exact x a u r
 .obtain⟨_,q⟩:=x a _ r
  exact q
def Mut:Option HO->Prop
 | some (.lst _)=>True
 | some (.dK _)=>True
 | some (.dT _)=>True
 | some (.set _ _)=>True
 | some (.ins _ _ _)=>True
 | some (.ext _)=>True
 | _=>False
section
variable {P:zP}{w:World}{H:Hp}{h h':Heap}{x e:Addr}{o':HO}
def HOk.write (ok:HOk P w H h)(j:Mut (H x))(o:e=x\/H e=some (.own x))(k:∀ b u,b≠e->h.get? b=some u->h'.get? b=some u)(n:∃ u,h'.get? e=some u)
 (m:yT P w (upd H x o') h' x o'):HOk P w (upd H x o') h':=λb u q=>by
 have d:∀ c y,H c=some (.own y)->c≠x:=λc y r z=>by subst z;rw[r]at j;exact j
 have f:∀ c i,H c=some (.tup i)->c≠x:=λc i r z=>by subst z;rw[r]at j;exact j
 by_cases l:b=x
 .subst l;rw[zl]at q;cases q;exact m
 .rw[zi l]at q
  by_cases a:b=e
  .have p:H b=some (.own x):=by
    rcases o with z | z
    .exact absurd (a.trans z) l
    .rw[a];exact z
   rw[q]at p;cases p
   obtain⟨v,s⟩:=n
   exact⟨v,by rw[a];exact s⟩
  .refine(ok b u q).stay (λc v g r=>k c v ?_ r) (λc r=>by rw[zi (d c b r)];exact r) λc i r=>by rw[zi (f c i r)];exact r
   rcases g with rfl | g
   .exact a
   .rintro rfl
    rcases o with z | z
    .exact d c b g z
    .rw[g]at z;cases z;exact l rfl
end
structure Un (fs ex:xS) (H H':Hp) (h h':Heap):Prop where
 keep:∀ b o,h.get? b=some o->H b=none->b∉fs->b∉ex->h'.get? b=some o
 slot:∀ b o,h.get? b=some o->H b=none->b∈fs->b∉ex->∃ sl,h'.get? b=some { o with slots:=sl }
 free:∀ b o,h.get? b=some o->H b=none->b∉ex->H' b=none
 there:∀ b o,h.get? b=some o->b∉ex->∃ o',h'.get? b=some o'
 tups:∀ b xs,H b=some (.tup xs)->H' b=some (.tup xs)
 frzs:∀ b o u,H b=some (.frz o u)->H' b=some (.frz o u)
 tbls:∀ b ps,H b=some (.tbl ps)->∃ more,H' b=some (.tbl (ps++more))
section
variable {fs fs' ex ex':xS}{H H1 H2:Hp}{h h1 h2 h':Heap}{a x e:Addr}{o:HO}
def Un.any (u:Un fs ex H H1 h h1){a:Obj}(q:h.get? b=some a)(n:H b=none)(d:b∉ex):∃ e,h1.get? b=some { a with slots:=e }:=by
 by_cases c:b∈fs
 .exact u.slot b a q n c d
 .exact⟨a.slots,u.keep b a q n c d⟩
def Un.kept (k:∀ b u,h.get? b=some u->h'.get? b=some u):Un fs ex H H h h' :=
 ⟨λb a q _ _ _=>k b a q,λb a q _ _ _=>⟨a.slots,k b a q⟩,λ_ _ _ n _=>n,λb a q _=>⟨a,k b a q⟩,λ_ _ q=>q,λ_ _ _ q=>q,λ_ c q=>⟨#[],by rw[q];simp⟩⟩
def Un.refl:Un fs ex H H h h:=Un.kept λ_ _ q=>q
def Un.laid (k:∀ b u,h.get? b=some u->h'.get? b=some u)(hp:h.objs.size<=a)(hn:H a=none):Un fs ex H (upd H a o) h h' where
 keep:=λb u q _ _ _=>k b u q
 slot:=λb u q _ _ _=>⟨u.slots,k b u q⟩
 free:=λb u q n _=>by rw[zi (k6 (q5 (q4 q) hp))];exact n
 there:=λb u q _=>⟨u,k b u q⟩
 tups:=λb xs q=>by rw[zi (ze q hn)];exact q
 frzs:=λb u xs q=>by rw[zi (ze q hn)];exact q
 tbls:=λb ps q=>⟨#[],by rw[zi (ze q hn),q];simp⟩
def Un.write (c:Mut (H x))(j:e=x\/H e=some (.own x))(k:∀ b u,b≠e->h.get? b=some u->h'.get? b=some u)(f:∃ u,h'.get? e=some u):Un fs ex H (upd H x o) h h':=by
 have g:∀ b,H b=none->b≠x:=λb n z=>by subst z;rw[n]at c;exact c
 have i:∀ b,H b=none->b≠e:=λb n z=>by
  subst z
  rcases j with r | r
  .exact g b n r
  .rw[n]at r;cases r
 have d:∀ b u,H b=some u->¬ Mut (some u)->b≠x:=λb u q l z=>by subst z;rw[q]at c;exact l c
 refine⟨λb u q n _ _=>k b u (i b n) q,λb u q n _ _=>⟨u.slots,k b u (i b n) q⟩,λb u q n _=>by rw[zi (g b n)];exact n,λb u q _=>?_,
  λb m q=>by rw[zi (d b _ q λz=>z)];exact q,λb u m q=>by rw[zi (d b _ q λz=>z)];exact q,λb p q=>⟨#[],by rw[zi (d b _ q λz=>z),q];simp⟩⟩
 by_cases a:b=e
 .subst a;exact f
 .exact⟨u,k b u a q⟩
end
def trk (h:Heap)(H:Hp):xS:=(List.range h.objs.size).filter λa=>(H a).isSome
def zky (h:Heap)(H:Hp):Heap:=W.hideAll h (trk h H)
def zg8 (h:Heap)(H:Hp):(zky h H).objs.size=h.objs.size:=W.hideAll_size _ _
def zi6 {h:Heap}{H:Hp}(e:h.get? b=some o)(n:H b=none):(zky h H).get? b=some o :=
 u0q _ e λa=>by
  have q:(H b).isSome=true:=(u01.mp a).2
  rw[n]at q;simp at q
def znv {h:Heap}{H:Hp}(e:(zky h H).get? b=some o):h.get? b=some o/\H b=none:=by
 have a:h.get? b=some o:=u2y (trk h H) e
 refine⟨a,?_⟩
 cases q:H b with
 | none=>rfl
 | some x =>
  have c:b∈trk h H:=u01.mpr ⟨u0r.mpr (q4 a),by simp[q]⟩
  have z:(zky h H).get? b=none:=u11 (trk h H) c
  rw[z]at e;cases e
def zna (g h:Heap)(L:Addr):xC:=(List.range h.objs.size).filterMap λa=>if a=L\/(g.get? a).isSome=true then none else (h.get? a).map λo=>(a,o)
def rest (g h:Heap)(L d:Addr):xC:=(zna g h L).filter λp=>decide (p.1≠d)
structure Mod (K:zv) (mg:wn) (base:Heap):Prop where
 kin:K.In base
 glob:base.Ns mainGlobals mg
 blt:∃ mb,base.Ns builtinsNs mb/\∀ x:Str,x≠"__name__"->mb x=bootBuiltins x
 nolimit:base.NoLimit
structure Cx where
 prog:Program
 w:World
 K:W.Frag
 mg:wn
 base:Heap
 A:Around
 N:zH
 s₀:Shared
 H₀:Hp
 env:Env
 outer:List Env
 stack:List Env
 ex:xS
 fn:Str->Bool
 calm:Bool
 pn:xC
 xe:yU
def frs (l:List Env):xS:=l.filterMap (·.frame)
abbrev Cx.fs (X:Cx):xS:=frs X.outer
def Vis (sc:Scope)(x:Str):Prop:=sc.names.lookup x=some .local\/sc.names.lookup x=some .cell\/sc.names.lookup x=some .free
def Loc (sc:Scope)(x:Str):Prop:=sc.names.lookup x=some .local\/sc.names.lookup x=some .cell
def Look (env:Env)(h:Heap)(m:wn)(x:Str)(u:Value):Prop :=
 (env.kindOf x=some .local/\m x=some u)\/((env.kindOf x=some .cell\/env.kindOf x=some .free)/\∃ c,env.cells.lookup x=some c/\h.IsCell c (some u))
structure Cx.Ok (X:Cx):Prop where
 mod:Mod X.K X.mg X.base
 kind:X.env.scope.kind=.function
 glob:X.env.globals=mainGlobals
 blt:X.env.builtins=builtinsNs
 above:X.s₀.heap.objs.size<=X.env.locals
 inj:∀ x y c,X.env.cells.lookup x=some c->X.env.cells.lookup y=some c->x=y
 has:∀ x,(X.env.kindOf x=some .cell\/X.env.kindOf x=some .free)->∃ c,X.env.cells.lookup x=some c
 cab:∀ x c,X.fn x=true->X.env.cells.lookup x=some c->X.s₀.heap.objs.size<=c
 hd:X.calm=true->X.A.handled=none
 frames:X.A.frames=some X.stack
 stk:X.stack=X.outer\/(X.stack=X.env::X.outer/\X.env.frame=some X.env.locals)
 exf:∀ b∈X.ex,b≠X.env.locals/\∀ x c,X.env.cells.lookup x=some c->c≠b
 bs:∀ b o,X.base.get? b=some o->X.s₀.heap.get? b=some o/\X.H₀ b=none
 bsz:X.base.objs.size<=X.s₀.heap.objs.size
 noex:∀ b o,X.base.get? b=some o->b∉X.ex
 exfs:∀ b∈X.ex,b∉X.fs
 funs:X.s₀.heap.FunFrames X.base X.outer
 frf:∀ b∈X.fs,X.H₀ b=none
structure Inv (X:Cx) (pins:xC) (σ:List (Option V)) (H:Hp) (s:zn):Prop where
 ok:X.Ok
 os:s.os=X.s₀.os
 bare:AllBare s.gens
 base:Un X.fs X.ex X.H₀ H X.s₀.heap s.heap
 loc:∃ m,s.heap.Ns X.env.locals m/\∀ (i:Nat) (x:Str) (v:V),X.N[i]?=some x->σ[i]?=some (some v)->Vis X.env.scope x->∃ u,xi v u/\Look X.env s.heap m x u
 cell:∀ x c,X.env.cells.lookup x=some c->∃ v,s.heap.IsCell c v
 free:H X.env.locals=none
 freeC:∀ x c,X.env.cells.lookup x=some c->H c=none
 pin:∀ p∈X.pn++pins,s.heap.get? p.1=some p.2/\H p.1=none/\p.1≠X.env.locals/\p.1∉X.fs/\∀ v,p.2.data≠.cell v
 hok:HOk X.prog X.w H s.heap
 len:σ.length=X.N.length
section
variable {X:Cx}{pins:xC}{σ:List (Option V)}{H H':Hp}{s:zn}{h':Heap}
def Cx.Ok.nofr (ok:X.Ok)(e:X.base.get? b=some o):b∉X.fs:=λa=>by
 have:=(ok.funs.mem a).1
 rw[e]at this;cases this
def Inv.bs (I:Inv X pins σ H s):∀ b o,X.base.get? b=some o->s.heap.get? b=some o/\H b=none:=λb o e =>
 ⟨I.base.keep b o (I.ok.bs b o e).1 (I.ok.bs b o e).2 (I.ok.nofr e) (I.ok.noex b o e),I.base.free b o (I.ok.bs b o e).1 (I.ok.bs b o e).2 (I.ok.noex b o e)⟩
def Inv.bk (I:Inv X pins σ H s):∀ b o,X.base.get? b=some o->s.heap.get? b=some o:=λb o e=>(I.bs b o e).1
def Inv.mod (I:Inv X pins σ H s):Mod X.K X.mg X.base:=I.ok.mod
def Inv.kIn (I:Inv X pins σ H s):X.K.In s.heap:=I.ok.mod.kin.keeps I.bk
def Inv.lt (I:Inv X pins σ H s):X.env.locals<s.heap.objs.size:=let ⟨_,hn,_⟩:=I.loc;hn.lt
def Inv.sz (I:Inv X pins σ H s):X.s₀.heap.objs.size<=s.heap.objs.size:=r0 I.ok.above (i4 I.lt)
def Inv.nofs (I:Inv X pins σ H s)(h:s.heap.objs.size<=a):a∉X.fs:=λb=>by
 obtain⟨_,o,c,_⟩:=I.ok.funs.mem b
 exact absurd (q5 (q4 c) (r0 I.sz h)) (u0h _)
def Inv.cne (I:Inv X pins σ H s):∀ x c,X.env.cells.lookup x=some c->c≠X.env.locals:=λx c e z=>by
 obtain⟨v,o,f,d⟩:=I.cell x c e
 obtain⟨m,⟨h,i,g,a,b,_⟩,_⟩:=I.loc
 rw[z,a]at f;cases f;rw[b]at d;cases d
def Inv.funs (I:Inv X pins σ H s):s.heap.FunFrames X.base X.outer:=by
 have c:∀ (l:List Env),(∀ b∈frs l,b∈X.fs)->X.s₀.heap.FunFrames X.base l->s.heap.FunFrames X.base l:=by
  intro l
  induction l with
  | nil=>intro _ _;trivial
  | cons env r h =>
   intro g m
   obtain⟨k,⟨L,o,f,p,n,j⟩,i⟩:=m
   have a:L∈X.fs:=g L (by unfold frs;rw[u2b,f];exact f8)
   obtain⟨q,e⟩:=I.base.slot L o n (I.ok.frf L a) a λz=>I.ok.exfs L z a
   exact⟨k,⟨L,_,f,p,e,j⟩,h (λb d=>g b (by unfold frs;rw[u2b,f];exact r4 _ d)) i⟩
 exact c X.outer (λ_ d=>d) I.ok.funs
def Inv.stack (I:Inv X pins σ H s):s.heap.FunFrames X.base X.stack:=by
 rcases I.ok.stk with e | ⟨e,a⟩
 .rw[e];exact I.funs
 .rw[e]
  obtain⟨m,b,_⟩:=I.loc
  refine .cons (by rw[I.ok.kind];decide) a b ?_ I.funs
  exact Heap.get?_none_of_le (r0 I.ok.bsz I.ok.above)
def Inv.stkSub (I:Inv X pins σ H s):∀ b∈frs X.stack,b∈X.env.locals::X.fs:=λb a=>by
 rcases I.ok.stk with e | ⟨e,c⟩
 .rw[e]at a;exact r4 _ a
 .rw[e]at a
  unfold frs at a
  rw[u2b,c]at a
  exact a
def Inv.stkFree (I:Inv X pins σ H s):∀ b∈frs X.stack,H b=none:=λb a=>by
 rcases q7.mp (I.stkSub b a)with e | a
 .rw[e];exact I.free
 .obtain⟨_,o,c,_⟩:=I.ok.funs.mem a
  exact I.base.free b o c (I.ok.frf b a) λz=>I.ok.exfs b z a
def Inv.step {g':Array GenState}{t':Nat}{d':Drawn}{ch:xS}(I:Inv X pins σ H s)
 (g:∀ b∈ch,(b∈X.ex\/X.s₀.heap.objs.size<=b)/\b≠X.env.locals/\(∀ x c,X.env.cells.lookup x=some c->c≠b)/\∀ p∈X.pn++pins,p.1≠b)
 (keep:∀ b o,b≠X.env.locals->b∉X.fs->b∉ch->s.heap.get? b=some o->H b=none->h'.get? b=some o)
 (y:∀ b o,b≠X.env.locals->b∈X.fs->b∉ch->s.heap.get? b=some o->H b=none->∃ Q,h'.get? b=some { o with slots:=Q }) (f:∀ b o,b∉ch->s.heap.get? b=some o->H b=none->H' b=none)
 (C:∀ b o,b∉ch->s.heap.get? b=some o->∃ K,h'.get? b=some K)
 (G:∀ b A,H b=some (.tup A)->H' b=some (.tup A)) (M:∀ b o u,H b=some (.frz o u)->H' b=some (.frz o u)) (L:∀ b N,H b=some (.tbl N)->∃ E,H' b=some (.tbl (N++E)))
 (ns:∀ m,s.heap.Ns X.env.locals m->h'.Ns X.env.locals m) (R:HOk X.prog X.w H' h') (W:AllBare g') :
 Inv X pins σ H' { s with heap:=h',gens:=g',drawn:=d',toks:=t' }:=by
 have F:∀ b o,X.s₀.heap.get? b=some o->b≠X.env.locals:=λb o e=>k6 (q5 (q4 e) I.ok.above)
 have w:∀ b o,X.s₀.heap.get? b=some o->b∉X.ex->b∉ch:=λb o e a B=>by
  rcases(g b B).1 with z | z
  .exact a z
  .exact absurd (q5 (q4 e) z) (u0h _)
 have h:∀ x c,X.env.cells.lookup x=some c->∀ v,s.heap.IsCell c v->h'.IsCell c v:=λx c e v ⟨o,D,P⟩=>by
  have j:c∉ch:=λz=>(g c z).2.2.1 x c e rfl
  by_cases S:c∈X.fs
  .obtain⟨Q,q⟩:=y c o (I.cne x c e) S j D (I.freeC x c e)
   exact⟨_,q,P⟩
  .exact⟨o,keep c o (I.cne x c e) S j D (I.freeC x c e),P⟩
 refine⟨I.ok,I.os,W,⟨λb o e n B a=>?_,λb o e n B a=>?_,λb o e n a=>?_,λb o e a=>?_,λb A e=>G b A (I.base.tups b A e),λb o A e=>M b o A (I.base.frzs b o A e),λb N e=>?_⟩,?_,λx c e=>?_,?_,λx c e=>?_,λp V=>?_,R,I.len⟩
 .exact keep b o (F b o e) B (w b o e a) (I.base.keep b o e n B a) (I.base.free b o e n a)
 .obtain⟨Q,t⟩:=I.base.slot b o e n B a
  obtain⟨O,J⟩:=y b _ (F b o e) B (w b o e a) t (I.base.free b o e n a)
  exact⟨O,J⟩
 .obtain⟨K,t⟩:=I.base.there b o e a
  exact f b K (w b o e a) t (I.base.free b o e n a)
 .obtain⟨K,t⟩:=I.base.there b o e a
  exact C b K (w b o e a) t
 .obtain⟨Z,t⟩:=I.base.tbls b N e
  obtain⟨Y,J⟩:=L b _ t
  exact⟨Z++Y,by rw[J,Array.append_assoc]⟩
 .obtain⟨m,hn,hl⟩:=I.loc
  refine⟨m,ns m hn,λi x v t J e3=>?_⟩
  obtain⟨u,r,l⟩:=hl i x v t J e3
  refine⟨u,r,?_⟩
  rcases l with l | ⟨k,c,e,z⟩
  .exact .inl l
  .exact .inr ⟨k,c,e,h x c e _ z⟩
 .obtain⟨v,z⟩:=I.cell x c e
  exact⟨v,h x c e v z⟩
 .obtain⟨m,⟨o,_,_,D,_⟩,_⟩:=I.loc
  exact f _ o (λz=>(g _ z).2.1 rfl) D I.free
 .obtain⟨v,o,D,P⟩:=I.cell x c e
  exact f c o (λz=>(g c z).2.2.1 x c e rfl) D (I.freeC x c e)
 .obtain⟨e,n,T,U,d⟩:=I.pin p V
  have j:p.1∉ch:=λz=>(g p.1 z).2.2.2 p V rfl
  exact⟨keep p.1 p.2 T U j e n,f p.1 p.2 j e n,T,U,d⟩
def Inv.un {t':Nat}(I:Inv X pins σ H s)(u:Un X.fs [] H H' s.heap h')(d:HOk X.prog X.w H' h'):Inv X pins σ H' { s with heap:=h',toks:=t' }:=by
 obtain⟨m,⟨o,v,l,h,r⟩,_⟩:=id I.loc
 obtain⟨p,j⟩:=u.any h I.free (by simp)
 exact I.step (g':=s.gens) (d':=s.drawn) (ch:=[]) (λ_ z=>nomatch z) (λb o _ f _ e n=>u.keep b o e n f (by simp)) (λb o _ f _ e n=>u.slot b o e n f (by simp)) (λb o _ e n=>u.free b o e n (by simp)) (λb o _ e=>u.there b o e (by simp)) u.tups u.frzs u.tbls (λt i=>by
  obtain⟨q,g,c,a,k⟩:=i
  rw[h]at a;cases a
  exact⟨_,g,c,j,k⟩) d I.bare
def Inv.call {t':Nat}(I:Inv X pins σ H s)(u:Un (frs X.stack) ch H H' s.heap h')(i:HOk X.prog X.w H' h')(q:AllBare g')(d:∀ b∈ch,(b∈X.ex\/X.s₀.heap.objs.size<=b)/\b≠X.env.locals/\(∀ x c,X.env.cells.lookup x=some c->c≠b)/\∀ p∈X.pn++pins,p.1≠b) :
 Inv X pins σ H' { s with heap:=h',gens:=g',drawn:=d',toks:=t' }:=by
 obtain⟨m,⟨o,B,w,k,r⟩,_⟩:=id I.loc
 obtain⟨C,h⟩:=u.any k I.free λz=>(d _ z).2.1 rfl
 exact I.step (ch:=ch) d (λb o h t a e n=>u.keep b o e n (λz=>(q7.mp (I.stkSub b z)).elim h t) a) (λb o _ _ a e n=>u.any e n a) (λb o a e n=>u.free b o e n a) (λb o a e=>u.there b o e a) u.tups u.frzs u.tbls (λA l=>by
  obtain⟨y,j,g,f,v⟩:=l
  rw[k]at f;cases f
  exact⟨_,j,g,h,v⟩) i q
def Inv.turned {t':Nat}(I:Inv X pins σ H s)(k:∀ b o,b≠a->s.heap.get? b=some o->h'.get? b=some o)(B:H a=none)(g:a≠X.env.locals)(j:a∈X.ex\/X.s₀.heap.objs.size<=a)(l:∀ x c,X.env.cells.lookup x=some c->c≠a)(w:∀ p∈X.pn++pins,p.1≠a):Inv X pins σ H { s with heap:=h',toks:=t' }:=by
 have f:∀ b u,H b=some u->b≠a:=λb u e z=>by rw[z,B]at e;cases e
 refine I.step (g':=s.gens) (d':=s.drawn) (ch:=[a]) (λb y=>?_) (λb o _ _ d e _=>k b o (λz=>d (by simp[z])) e) (λb o _ _ d e _=>⟨o.slots,k b o (λz=>d (by simp[z])) e⟩) (λ_ _ _ _ n=>n)
  (λb o d e=>⟨o,k b o (λz=>d (by simp[z])) e⟩) (λ_ _ e=>e) (λ_ _ _ e=>e) (λb C e=>⟨#[],by rw[e];simp⟩) (λm i=>?_) (λb u e=>?_) I.bare
 .have e:b=a:=by simpa using y
  subst e
  exact⟨j,g,l,w⟩
 .obtain⟨o,t,h,A,r⟩:=i
  exact⟨o,t,h,k _ o (i7 g) A,r⟩
 .refine(I.hok b u e).stay (λc v d q=>k c v ?_ q) (λ_ q=>q) λ_ _ q=>q
  rcases d with z | z
  .rw[z];exact f b u e
  .exact f c _ z
def Inv.tok (I:Inv X pins σ H s)(t:Nat):Inv X pins σ H { s with toks:=t }:=I.un (h':=s.heap) (t':=t) Un.refl I.hok
def Inv.kept {t':Nat}(I:Inv X pins σ H s)(k:∀ b u,s.heap.get? b=some u->h'.get? b=some u):Inv X pins σ H { s with heap:=h',toks:=t' }:=I.un (Un.kept k) (I.hok.kept k)
def Inv.laid {t':Nat}(I:Inv X pins σ H s)(k:∀ b u,s.heap.get? b=some u->h'.get? b=some u)(d:s.heap.objs.size<=a)(c:yT X.prog X.w (upd H a o) h' a o) :
 Inv X pins σ (upd H a o) { s with heap:=h',toks:=t' }:=I.un (Un.laid k d (I.hok.fresh d)) (I.hok.laid k d c)
def Inv.write {t':Nat}(I:Inv X pins σ H s)(f:Mut (H x))(d:e=x\/H e=some (.own x))(k:∀ b u,b≠e->s.heap.get? b=some u->h'.get? b=some u)(a:∃ u,h'.get? e=some u)(c:yT X.prog X.w (upd H x o) h' x o):Inv X pins σ (upd H x o) { s with heap:=h',toks:=t' }:=I.un (Un.write f d k a) (I.hok.write f d k a c)
def Inv.weak {a:List (Option V)}(I:Inv X pins σ H s)(e:a.length=σ.length)(w:∀ (i:Nat) v,a[i]?=some (some v)->σ[i]?=some (some v)):Inv X pins a H s :=
 ⟨I.ok,I.os,I.bare,I.base,let ⟨m,hn,hl'⟩:=I.loc;⟨m,hn,λi x v b c d=>hl' i x v b (w i v c) d⟩,I.cell,I.free,I.freeC,I.pin,I.hok,e.trans I.len⟩
def Inv.pins_of (I:Inv X pins σ H s)(h:∀ p∈a,s.heap.get? p.1=some p.2/\H p.1=none/\p.1≠X.env.locals/\p.1∉X.fs/\∀ v,p.2.data≠.cell v):Inv X a σ H s :=
 ⟨I.ok,I.os,I.bare,I.base,I.loc,I.cell,I.free,I.freeC,λp b=>(u0t.mp b).elim (λz=>I.pin p (u06 _ z)) (h p),I.hok,I.len⟩
def zbb {N:zH}(d:N.Nodup){i j:Nat}(a:N[i]?=some x)(b:N[j]?=some x):i=j:=by
 obtain⟨f,e⟩:=j3.mp a
 obtain⟨g,c⟩:=j3.mp b
 exact(List.getElem_inj d).mp (e.trans c.symm)
def zii {i:Nat}{Q:Unit->Shared->Prop}(I:Inv X pins σ H s)(hN:X.N.Nodup)(O:X.N[i]?=some x)(w:Loc X.env.scope x)(r:xi v u)(h:∀ s',Inv X pins (σ.set i (some v)) H s'->(∃ a,Heap.SameBut a s.heap s'.heap/\(a=X.env.locals\/X.env.cells.lookup x=some a))->Q () s')(hf:X.fn x=true\/X.env.scope.names.lookup x=some .local:=by first | exact .inl rfl | exact .inr rfl | assumption):wpAny M A (storeName X.env x u) Q E s:=by
 obtain⟨m,hn,hl⟩:=id I.loc
 have S:(X.env.scope.kind == .class||(X.env.scope.kind == .module&&X.env.locals != X.env.globals))=false:=by rw[I.ok.kind];rfl
 have P:i<σ.length:=by rw[I.len];exact(j3.mp O).1
 have G:=I.cne
 have g:∀ {a:Addr} {h':Heap},(∃ o,s.heap.get? a=some o/\H a=none)->Heap.SameBut a s.heap h'->HOk X.prog X.w H h':=λ{a h'} ha f b ob e=>by
  obtain⟨_,_,B⟩:=ha
  refine(I.hok b ob e).stay (λc U t q=>(f.2 c ?_).trans q) (λ_ q=>q) λ_ _ q=>q
  rintro rfl
  rcases t with rfl | t
  .rw[B]at e;cases e
  .rw[B]at t;cases t
 rcases w with D | D
 .refine wpAny_storeName_local D hn (λh' a0 f=>?_) S
  obtain⟨oL,_,_,a1,_⟩:=id hn
  refine h _ ⟨I.ok,I.os,I.bare,⟨λb o e n J w=>?_,λb o e n J w=>?_,I.base.free,λb o e w=>?_,I.base.tups,I.base.frzs,I.base.tbls⟩,⟨_,a0,λj y v' l C e3=>?_⟩,λy c e=>?_,I.free,I.freeC,λp hp=>?_,g ⟨oL,a1,I.free⟩ f,by simpa using I.len⟩ ⟨_,f,.inl rfl⟩
  .exact(f.2 b (k6 (q5 (q4 e) I.ok.above))).trans (I.base.keep b o e n J w)
  .obtain⟨sl,l⟩:=I.base.slot b o e n J w
   exact⟨sl,(f.2 b (k6 (q5 (q4 e) I.ok.above))).trans l⟩
  .obtain⟨Z,l⟩:=I.base.there b o e w
   exact⟨Z,(f.2 b (k6 (q5 (q4 e) I.ok.above))).trans l⟩
  .by_cases F:j=i
   .subst F
    rw[O]at l;cases l
    rw[r6 P]at C
    cases C
    exact⟨u,r,.inl ⟨D,by simp⟩⟩
   .rw[u8 (i7 F)]at C
    obtain⟨u',r',q⟩:=hl j y v' l C e3
    refine⟨u',r',?_⟩
    rcases q with ⟨k,e⟩ | ⟨k,c,e,z⟩
    .refine .inl ⟨k,?_⟩
     have:y≠x:=λe=>F (zbb hN l (e ▸ O))
     simp[this,e]
    .exact .inr ⟨k,c,e,z.sameBut f (G y c e)⟩
  .obtain⟨U,z⟩:=I.cell y c e
   exact⟨U,z.sameBut f (G y c e)⟩
  .obtain⟨e,n,W,nf,d⟩:=I.pin p hp
   exact⟨(f.2 p.1 W).trans e,n,W,nf,d⟩
 .have K:X.fn x=true:=by
   rcases hf with z | z
   .exact z
   .rw[z]at D;cases D
  obtain⟨c,t⟩:=I.ok.has x (.inl D)
  obtain⟨U,z⟩:=I.cell x c t
  refine wpAny_storeName_cell I.ok.kind D t z (λh' R f=>?_)
  obtain⟨oc,T,L⟩:=id z
  refine h { s with heap:=h' } ⟨I.ok,I.os,I.bare,⟨λb o e n J w=>?_,λb o e n J w=>?_,I.base.free,λb o e w=>?_,I.base.tups,I.base.frzs,I.base.tbls⟩,⟨m,hn.sameBut f (i7 (G x c t)),λj y v' l C e3=>?_⟩,λy Y e=>?_,I.free,I.freeC,λp hp=>?_,g ⟨oc,T,I.freeC x c t⟩ f,by simpa using I.len⟩ ⟨c,f,.inr t⟩
  .exact(f.2 b (k6 (q5 (q4 e) (I.ok.cab x c K t)))).trans (I.base.keep b o e n J w)
  .obtain⟨sl,l⟩:=I.base.slot b o e n J w
   exact⟨sl,(f.2 b (k6 (q5 (q4 e) (I.ok.cab x c K t)))).trans l⟩
  .obtain⟨Z,l⟩:=I.base.there b o e w
   exact⟨Z,(f.2 b (k6 (q5 (q4 e) (I.ok.cab x c K t)))).trans l⟩
  .by_cases F:j=i
   .subst F
    rw[O]at l;cases l
    rw[r6 P]at C
    cases C
    exact⟨u,r,.inr ⟨.inl D,c,t,R⟩⟩
   .rw[u8 (i7 F)]at C
    obtain⟨u',r',q⟩:=hl j y v' l C e3
    refine⟨u',r',?_⟩
    rcases q with q | ⟨k,Y,e,z'⟩
    .exact .inl q
    .refine .inr ⟨k,Y,e,z'.sameBut f ?_⟩
     rintro rfl
     exact F (zbb hN l (I.ok.inj _ _ _ e t ▸ O))
  .by_cases N:Y=c
   .subst N;exact⟨_,R⟩
   .obtain⟨w2,z2⟩:=I.cell y Y e
    exact⟨w2,z2.sameBut f N⟩
  .obtain⟨e,n,W,nf,d⟩:=I.pin p hp
   refine⟨(f.2 p.1 ?_).trans e,n,W,nf,d⟩
   intro q
   rw[q,T]at e
   have q':oc=p.2:=o4 e
   exact d U (by rw[<-q'];exact L)
def zaX {i:Nat}{Q:Unit->Shared->Prop}(I:Inv X pins σ H s)(c:X.N.Nodup)(b:X.N[i]?=some x)(d:Loc X.env.scope x)(r:xi v u)(h:∀ a,Inv X pins (σ.set i (some v)) H a->Q () a)(e:X.fn x=true\/X.env.scope.names.lookup x=some .local:=by first | exact .inl rfl | exact .inr rfl | assumption):wpAny M A (storeName X.env x u) Q E s :=
 zii I c b d r (λa I' _=>h a I') e
def Inv.call' {s':zn}(I:Inv X pins σ H s)(j:s'.os=s.os)(u:Un (frs X.stack) ch H H' s.heap s'.heap)(d:HOk X.prog X.w H' s'.heap)(k:AllBare s'.gens)(a:∀ b∈ch,(b∈X.ex\/X.s₀.heap.objs.size<=b)/\b≠X.env.locals/\(∀ x c,X.env.cells.lookup x=some c->c≠b)/\∀ p∈X.pn++pins,p.1≠b):Inv X pins σ H' s':=by
 obtain⟨h',f,h,g,i⟩:=s'
 have e:i=s.os:=j
 subst e
 exact I.call (g':=f) (t':=g) (d':=h) u d k a
end
abbrev XK:=Value->y6->Hp->Prop
abbrev St:=List (Option V)
abbrev v7:=St->Hp->Prop
abbrev VK:=V->Hp->Prop
abbrev zfr:=List V->Hp->VK->Prop
abbrev TE:=St->Hp->VK->Prop
abbrev TT:=St->Hp->(Bool->Hp->Prop)->Prop
abbrev TA:=St->Hp->(zx->Hp->Prop)->Prop
structure Vp where
 nx:v7
 rt:VK
 bk:v7:=λ_ _=>False
 ct:v7:=λ_ _=>False
abbrev TS:=Vp->St->Hp->Prop
def EP (X:Cx)(a:xC)(σ:St)(Q:VK)(u:Value)(b:zn):Prop:=∃ v H',Inv X a σ H' b/\xi v u/\Q v H'
def TP (X:Cx)(a:xC)(σ:St)(Q:Bool->Hp->Prop)(b:Bool)(c:zn):Prop:=∃ H',Inv X a σ H' c/\Q b H'
def AP (X:Cx)(a:xC)(σ:St)(Q:zx->Hp->Prop)(d:zB)(c:zn):Prop:=∃ b H',Inv X a σ H' c/\yw b d/\Q b H'
def SP (X:Cx)(a:xC)(D:Vp)(f:Flow)(c:zn):Prop :=
 match f with
 | .next=>∃ b H',Inv X a b H' c/\D.nx b H'
 | .brk=>∃ b H',Inv X a b H' c/\D.bk b H'
 | .cont=>∃ b H',Inv X a b H' c/\D.ct b H'
 | .ret u=>∃ v b H',Inv X a b H' c/\xi v u/\D.rt v H'
def PE (X:Cx)(e:Expr)(t:TE):Prop :=
 ∀ (a:xC) (s:zn) (σ:St) (H:Hp) (Q:VK),Inv X a σ H s->t σ H Q->wpAny (model X.prog X.w) X.A (eval e X.env) (EP X a σ Q) X.xe s
def PT (X:Cx)(e:Expr)(t:TT):Prop :=
 ∀ (a:xC) (s:zn) (σ:St) (H:Hp) (Q:Bool->Hp->Prop),Inv X a σ H s->t σ H Q->wpAny (model X.prog X.w) X.A (isTrue e X.env (eval e X.env)) (TP X a σ Q) X.xe s
def PW (X:Cx)(e:Expr)(t:TT):Prop :=
 ∀ (b:Sem Value) (a:xC) (s:zn) (σ:St) (H:Hp) (Q:Bool->Hp->Prop),Inv X a σ H s->t σ H Q->wpAny (model X.prog X.w) X.A (isTrue e X.env b) (TP X a σ Q) X.xe s
def PW.pt {t:TT}(h:PW X e t):PT X e t:=h _
def PA (X:Cx)(c:y9)(t:TA):Prop :=
 ∀ (b:Pos) (a:xC) (s:zn) (σ:St) (H:Hp) (Q:zx->Hp->Prop),Inv X a σ H s->t σ H Q->wpAny (model X.prog X.w) X.A (spliced (backTo b (starEach c X.env))) (AP X a σ Q) X.xe s
def PS (X:Cx)(b:Stmt)(t:TS):Prop :=
 ∀ (a:xC) (s:zn) (σ:St) (H:Hp) (D:Vp),Inv X a σ H s->t D σ H->wpAny (model X.prog X.w) X.A (exec b X.env) (SP X a D) X.xe s
def PSs (X:Cx)(b:wU)(t:TS):Prop :=
 ∀ (a:xC) (s:zn) (σ:St) (H:Hp) (D:Vp),Inv X a σ H s->t D σ H->wpAny (model X.prog X.w) X.A (execs b X.env) (SP X a D) X.xe s
def thn {α:Type}{t:Sem α}{Q Q':α->Shared->Prop}(h:wpAny M A t Q E s)(b:∀ a s,Q a s->Q' a s):wpAny M A t Q' E s:=g6 h b λ_ _ x=>x
section
variable {X:Cx}
def Y2 (i:Nat):TE:=fun σ H Q=>∃ v,σ[i]?=some (some v)/\Q v H
def tC (v:V):TE:=λ_ H Q=>Q v H
def zqd {i:Nat} {g:Pos} (p:X.N[i]?=some x) (o:Vis X.env.scope x) (j:(x == ("__debug__":Str))=false:=by decide) (f:(x == ("__classdict__":Str))=false:=by decide):PE X (.Name x g) (Y2 i):=by
 intro d s σ H Q I h
 obtain⟨v,e,h⟩:=h
 obtain⟨m,t,q⟩:=I.loc
 obtain⟨u,r,l⟩:=q i x v p e o
 have fin:EP X d σ Q u s:=⟨v,H,I,r,h⟩
 rcases l with ⟨b,n⟩ | ⟨b,c,k,a⟩
 .exact wpAny_Name (wpAny_loadName_local I.ok.kind b t n fin) j
 .rcases b with b | b
  .exact wpAny_Name (wpAny_loadName_cell I.ok.kind b k a fin) j
  .exact wpAny_Name (wpAny_loadName_free I.ok.kind b k a fin f) j
def zr {i j pos}:PE X (.Constant (.int i) j pos) (tC (.int i)):=λ_ _ _ H _ I h=>wpAny_Constant_int ⟨.int i,H,I.tok _,⟨_,rfl⟩,h⟩
def zbm {b j pos}:PE X (.Constant (.bool b) j pos) (tC (.bl b)):=λ_ _ _ H _ I h=>Constant_bool ⟨.bl b,H,I,rfl,h⟩
def VP {j pos}:PE X (.Constant .none j pos) (tC .non):=λ_ _ _ H _ I h=>Constant_none ⟨.non,H,I,rfl,h⟩
def zO {x j pos}:PE X (.Constant (.str x) j pos) (tC (.str x)):=λ_ _ _ H _ I h=>Calls.Constant_str ⟨.str x,H,I.tok _,⟨_,rfl⟩,h⟩
def Gl (X:Cx)(x:Str):Prop:=X.env.kindOf x=some .globalImplicit
def vC {Q:yU} (I:Inv X a σ H s) (e:Gl X x) (c:X.mg x=some u) (h:Q u s) (d:(x == ("__debug__":Str))=false:=by decide):wpAny (model X.prog X.w) X.A (eval (.Name x b) X.env) Q E s :=
 Calls.Name_function_global I.ok.kind e (Calls.loadGlobal_global (by rw[I.ok.glob];exact I.mod.glob.keeps I.bk) c h) d
def WN {Q:yU} (I:Inv X a σ H s) (d:Gl X x) (c:X.mg x=none) (i:bootBuiltins x=some u) (h:Q u s) (j:x≠"__name__":=by decide) (g:(x == ("__debug__":Str))=false:=by decide):wpAny (model X.prog X.w) X.A (eval (.Name x b) X.env) Q E s:=by
 obtain⟨k,e,f⟩:=I.mod.blt
 exact Calls.Name_function_global I.ok.kind d (Calls.loadGlobal_builtin (by rw[I.ok.glob];exact I.mod.glob.keeps I.bk) c (by rw[I.ok.blt];exact e.keeps I.bk) ((f x j).trans i) h) g
def xc (d:Gl X x) (b:X.mg x=some u) (r:xi v u) (c:(x == ("__debug__":Str))=false:=by decide):PE X (.Name x a) (tC v) :=
 λ_ _ _ H _ I h=>vC I d b ⟨v,H,I,r,h⟩ c
def vH (e:Gl X x) (b:X.mg x=none) (d:bootBuiltins x=some u) (r:xi v u) (f:x≠"__name__":=by decide) (c:(x == ("__debug__":Str))=false:=by decide):PE X (.Name x a) (tC v) :=
 λ_ _ _ H _ I h=>WN I e b d ⟨v,H,I,r,h⟩ f c
variable {a b:Expr}{ta tb:TE}{pos:Pos}
def tB (t:TE):TT:=fun σ H Q=>t σ H λx H1=>∃ c,x=.bl c/\Q c H1
def zk5 {e:Expr}{t:TE}(h:PE X e t)(g:∀ a,isTrue e X.env a=(do let v<-a;standAt e.pos;holding [v] (truthy v)):=by intro _;rfl):PT X e (tB t):=by
 intro b s σ H Q I hw
 refine isTrue_plain (thn (h b s σ H _ I hw) λv i hh9=>?_) (g _)
 obtain⟨x,H1,I1,c,f⟩:=hh9
 obtain⟨d,rfl,q⟩:=f
 cases c
 exact u0e ⟨H1,I1,q⟩
variable {tA tB':TT}{rest:y9}
def tAnd (t u:TT):TT:=fun σ H Q=>t σ H λc H1=>if c=true then u σ H1 Q else Q false H1
def tOr (t u:TT):TT:=fun σ H Q=>t σ H λc H1=>if c=true then Q true H1 else u σ H1 Q
def tNot (t:TT):TT:=fun σ H Q=>t σ H λc H1=>Q (!c) H1
def zm8 (d:PT X a tA):PW X (.BoolOp .And [a] pos) tA:=by
 intro f b s σ H Q I h
 refine isTrue_and (thn (d b s σ H Q I h) λc g e=>?_)
 cases c with
 | true=>exact isTrue_and_nil e
 | false=>exact e
def zk7 (d:PT X a tA):PW X (.BoolOp .Or [a] pos) tA:=by
 intro f b s σ H Q I h
 refine isTrue_or (thn (d b s σ H Q I h) λc g e=>?_)
 cases c with
 | false=>exact isTrue_or_nil e
 | true=>exact e
def zpg (f:PT X a tA)(i:PW X (.BoolOp .And (b::rest) pos) tB'):PW X (.BoolOp .And (a::b::rest) pos) (tAnd tA tB'):=by
 intro g d s σ H Q I h
 refine isTrue_and (thn (f d s σ H _ I h) λc j hh9=>?_)
 obtain⟨H1,I1,e⟩:=hh9
 cases c with
 | true=>exact i g d j σ H1 Q I1 e
 | false=>exact⟨H1,I1,e⟩
def zp2 (f:PT X a tA)(i:PW X (.BoolOp .Or (b::rest) pos) tB'):PW X (.BoolOp .Or (a::b::rest) pos) (tOr tA tB'):=by
 intro g d s σ H Q I h
 refine isTrue_or (thn (f d s σ H _ I h) λc j hh9=>?_)
 obtain⟨H1,I1,e⟩:=hh9
 cases c with
 | true=>exact⟨H1,I1,e⟩
 | false=>exact i g d j σ H1 Q I1 e
def zlm (d:PT X a tA):PT X (.UnaryOp .Not a pos) (tNot tA):=by
 intro b s σ H Q I h
 exact isTrue_not (d b s σ H (λc H1=>Q (!c) H1) I h)
def zrz (ta tb:TE):TE:=fun σ H Q=>ta σ H λx H1=>∃ c,x=.bl c/\if c=true then tb σ H1 Q else Q (.bl false) H1
def zrO (ta:TE):TE:=fun σ H Q=>ta σ H λx H1=>∃ c,x=.bl c/\Q (.bl (!c)) H1
def zoo {op}{t:TE}(h:PE X a t):PE X (.BoolOp op [a] pos) t:=λb s σ H Q I hw=>BoolOp_one (h b s σ H Q I hw)
def zpX (g:PE X a ta)(i:PE X (.BoolOp .And (b::rest) pos) tb):PE X (.BoolOp .And (a::b::rest) pos) (zrz ta tb):=by
 intro d s σ H Q I h
 refine BoolOp_and (thn (g d s σ H _ I h) λv j hh9=>?_)
 obtain⟨x,H1,I1,f,e⟩:=hh9
 obtain⟨c,rfl,e⟩:=e
 cases f
 refine u0e ?_
 cases c with
 | true=>exact i d j σ H1 Q I1 e
 | false=>exact⟨.bl false,H1,I1,rfl,e⟩
def zpi (f:PE X a ta):PE X (.UnaryOp .Not a pos) (zrO ta):=by
 intro b s σ H Q I h
 refine UnaryOp_ (thn (f b s σ H _ I h) λv g hh9=>?_)
 obtain⟨x,H1,I1,e,d⟩:=hh9
 obtain⟨c,rfl,d⟩:=d
 cases e
 exact not_of (u0e ⟨.bl (!c),H1,I1,rfl,d⟩)
def tIf (t:TT)(ta tb:TE):TE:=fun σ H Q=>t σ H λc H1=>if c=true then ta σ H1 Q else tb σ H1 Q
def zkm (j:PT X c tA)(i:PE X a ta)(k:PE X b tb):PE X (.IfExp c a b pos) (tIf tA ta tb):=by
 intro e s σ H Q I h
 refine wpAny_IfExp (thn (j e s σ H _ I h) λd f hh9=>?_)
 obtain⟨H1,I1,g⟩:=hh9
 cases d with
 | true=>exact i e f σ H1 Q I1 g
 | false=>exact k e f σ H1 Q I1 g
end
def SqL (K:zv)(H:Hp)(a:Addr)(c:zx):Prop :=
 Rd H a (.lst c) \/
  ∃ (o:Obj) (b:wq) (n:Nat),K.lookup a=some o/\o.cls=.type "list"/\o.dict=none/\o.data=.seq b n/\b.size<=sizeLine/\yw c b.toList
def SqT (K:zv)(H:Hp)(a:Addr)(c:zx):Prop :=
 Rd H a (.tup c) \/
  ∃ (o:Obj) (b:wq) (n:Nat),K.lookup a=some o/\o.cls=.type "tuple"/\o.data=.seq b n/\b.size<=sizeLine/\yw c b.toList
def absV:Value->Option V
 | .none=>some .non
 | .bool b=>some (.bl b)
 | .int i _=>some (.int i)
 | .str x _=>some (.str x)
 | .bytes b _=>some (.byt b)
 | .float b _=>some (.flt b)
 | .ref a=>some (.ref a)
 | .type n=>some (.ty n)
 | _=>none
def xi.abs (r:xi x u):absV u=some x:=by
 cases x with
 | non=>cases r;rfl
 | bl _=>cases r;rfl
 | int _=>obtain⟨t,rfl⟩:=r;rfl
 | str _=>obtain⟨t,rfl⟩:=r;rfl
 | byt _=>obtain⟨t,rfl⟩:=r;rfl
 | flt _=>obtain⟨t,rfl⟩:=r;rfl
 | ref _=>cases r;rfl
 | ty _=>cases r;rfl
def xi.inj (r:xi x u)(q:xi y u):x=y:=o4 (r.abs.symm.trans q.abs)
def yw.inj:∀ {d a:zx} {b:zB},yw d b->yw a b->d=a:=by
 intro d a b h
 induction h generalizing a with
 | nil=>intro c;cases c;rfl
 | cons r t e=>intro c;cases c with | cons g f=>rw[r.inj g,e f]
section
variable {X:Cx}{pins:xC}{σ:St}{H:Hp}{s:zn}{a:Addr}{xs ys:zx}
def SqL.of {K:zv}(h:H a=some (.lst xs)):SqL K H a xs:=.inl (.inl h)
def SqT.of {K:zv}(h:H a=some (.tup xs)):SqT K H a xs:=.inl (.inl h)
def Inv.list (I:Inv X pins σ H s)(h:SqL X.K H a xs):∃ b:zB,yw xs b/\PlainL s.heap a b.toArray/\xs.length<=sizeLine:=by
 rcases h with h | ⟨o,b,n,g,d,f,c,i,r⟩
 .obtain⟨z,b,n,r,e⟩:=h.ok I.hok
  exact⟨b,r,⟨_,n,e,rfl,rfl,rfl⟩,z⟩
 .refine⟨b.toList,r,⟨o,n,I.kIn a o g,d,f,by simpa using c⟩,?_⟩
  have e:=r.length
  simp only[l9]at e
  omega
def Inv.tuple (I:Inv X pins σ H s)(h:SqT X.K H a xs):∃ b:zB,yw xs b/\IsTup s.heap a b.toArray/\xs.length<=sizeLine:=by
 rcases h with h | ⟨o,b,n,f,d,c,g,r⟩
 .obtain⟨z,b,r,p⟩:=h.ok I.hok
  exact⟨b,r,p,z⟩
 .refine⟨b.toList,r,⟨o,I.kIn a o f,d,n,by simpa using c⟩,?_⟩
  have e:=r.length
  simp only[l9]at e
  omega
def Inv.list_inj (I:Inv X pins σ H s)(h:SqL X.K H a xs)(i:SqL X.K H a ys):xs=ys:=by
 obtain⟨c,r,⟨o,n,e,_,_,d⟩,_⟩:=I.list h
 obtain⟨b,j,⟨k,l,g,_,_,f⟩,_⟩:=I.list i
 rw[e]at g;cases g
 rw[d]at f
 injection f with d1 _
 have:c=b:=by simpa using u0x Array.toList d1
 subst this
 exact r.inj j
def Inv.tuple_inj (I:Inv X pins σ H s)(h:SqT X.K H a xs)(i:SqT X.K H a ys):xs=ys:=by
 obtain⟨c,r,⟨o,e,_,n,d⟩,_⟩:=I.tuple h
 obtain⟨b,j,⟨k,g,_,l,f⟩,_⟩:=I.tuple i
 rw[e]at g;cases g
 rw[d]at f
 injection f with d1 _
 have:c=b:=by simpa using u0x Array.toList d1
 subst this
 exact r.inj j
end
abbrev Cx.wish (X:Cx)(E:yU):Cx:={ X with xe:=E }
abbrev Cx.nox (X:Cx):Cx:=X.wish λ_ _=>False
def Cx.Ok.wish {X:Cx}(ok:X.Ok)(E:yU):(X.wish E).Ok :=
 ⟨ok.mod,ok.kind,ok.glob,ok.blt,ok.above,ok.inj,ok.has,ok.cab,ok.hd,ok.frames,ok.stk,ok.exf,ok.bs,ok.bsz,ok.noex,ok.exfs,ok.funs,ok.frf⟩
def Cx.Ok.unwish {X:Cx}(ok:(X.wish E).Ok):X.Ok :=
 ⟨ok.mod,ok.kind,ok.glob,ok.blt,ok.above,ok.inj,ok.has,ok.cab,ok.hd,ok.frames,ok.stk,ok.exf,ok.bs,ok.bsz,ok.noex,ok.exfs,ok.funs,ok.frf⟩
section
variable {X:Cx}{pins:xC}{σ:St}{H:Hp}{s:zn}{E:yU}
def Inv.wish (I:Inv X pins σ H s)(E:yU):Inv (X.wish E) pins σ H s:=⟨I.ok.wish E,I.os,I.bare,I.base,I.loc,I.cell,I.free,I.freeC,I.pin,I.hok,I.len⟩
def Inv.unwish (I:Inv (X.wish E) pins σ H s):Inv X pins σ H s:=⟨I.ok.unwish,I.os,I.bare,I.base,I.loc,I.cell,I.free,I.freeC,I.pin,I.hok,I.len⟩
def SP.unwish {D:Vp}{f:Flow}(h:SP (X.wish E) pins D f b):SP X pins D f b:=by
 cases f with
 | next=>obtain⟨a,H',I,q⟩:=h;exact⟨a,H',I.unwish,q⟩
 | brk=>obtain⟨a,H',I,q⟩:=h;exact⟨a,H',I.unwish,q⟩
 | cont=>obtain⟨a,H',I,q⟩:=h;exact⟨a,H',I.unwish,q⟩
 | ret u=>obtain⟨v,a,H',I,r,q⟩:=h;exact⟨v,a,H',I.unwish,r,q⟩
def PSs.nox {t:TS}(h:PSs X.nox a t):PSs X a t:=λpins s σ H D I hw =>
 g6 (h pins s σ H D (I.wish _) hw) (λ_ _ q=>q.unwish) λ_ _ z=>False.elim z
end
section
variable {X:Cx}{st:Stmt}{rest:wU}{t u:TS}{e:Expr}{te:TE}{pos:Pos}
def zqc:TS:=λD σ H=>D.nx σ H
def zqT (t u:TS):TS:=λD σ H=>t { D with nx:=u D } σ H
def zcL:PSs X [] zqc:=λ_ _ σ H _ I h=>u2h ⟨σ,H,I,h⟩
def xu (c:PS X st t)(d:PSs X rest u):PSs X (st::rest) (zqT t u):=by
 intro a s σ H D I h
 refine wpAny_execs_cons (thn (c a s σ H { D with nx:=u D } I h) λf e q=>?_)
 cases f with
 | next =>
  obtain⟨b,H',I',q⟩:=q
  exact d a e b H' D I' q
 | ret v=>exact q
 | brk=>exact q
 | cont=>exact q
def wO (b:PS X st t):PSs X [st] t:=by
 intro a s σ H D I h
 refine wpAny_execs_cons (thn (b a s σ H D I h) λf c q=>?_)
 cases f with
 | next=>exact u2h q
 | ret v=>exact q
 | brk=>exact q
 | cont=>exact q
def Inv.quiet (I:Inv X a σ H s):interactive X.env=false:=by simp[interactive,I.ok.kind]
def zro (te:TE):TS:=λD σ H=>te σ H λ_ H1=>D.nx σ H1
def Zj (c:PE X e te)(b:swapsWith e none pos.line X.env=pure false:=by rfl):PS X (.Expr e pos) (zro te):=by
 intro a s σ H D I h
 exact wpAny_Expr_any (thn (c a s σ H _ I h) λv g ⟨x,H1,I1,f,d⟩=>⟨σ,H1,I1,d⟩) I.quiet b
def zrK (te:TE):TS:=λD σ H=>te σ H D.rt
def Y7 (b:PE X e te):PS X (.Return (some e) pos) (zrK te):=by
 intro a s σ H D I h
 exact wpAny_Return_some (thn (b a s σ H _ I h) λv f ⟨x,H1,I1,c,d⟩=>⟨x,σ,H1,I1,c,d⟩)
def tIfS (c:TT)(t u:TS):TS:=λD σ H=>c σ H λb H1=>if b=true then t D σ H1 else u D σ H1
def zgf {g:TT}(j:PT X c g)(k:PSs X a t)(l:PSs X b u):PS X (.If c a b pos) (tIfS g t u):=by
 intro e s σ H D I h
 refine wpAny_If (thn (j e s σ H _ I h) λd i hh9=>?_)
 obtain⟨H1,I1,f⟩:=hh9
 cases d with
 | true=>exact k e i σ H1 D I1 f
 | false=>exact l e i σ H1 D I1 f
def zlI:TS:=λ_ _ _=>False
def zdW:PS X st zlI:=λ_ _ _ _ _ _ h=>h.elim
def zgJ:PSs X a zlI:=λ_ _ _ _ _ _ h=>h.elim
end
abbrev TG:=V->St->Hp->v7->Prop
abbrev TGs:=zx->St->Hp->v7->Prop
def PG (X:Cx)(a:Expr)(t:TG):Prop :=
 ∀ (b:xC) (s:zn) (σ:St) (H:Hp) (v:V) (u:Value) (Q:v7),Inv X b σ H s->xi v u->t v σ H Q ->
  wpAny (model X.prog X.w) X.A (assign a X.env u) (λ_ d=>∃ c H',Inv X b c H' d/\Q c H') X.xe s
def PGs (X:Cx)(f:y9)(t:TGs):Prop :=
 ∀ (a:xC) (s:zn) (σ:St) (H:Hp) (d:zx) (c:zB) (Q:v7),Inv X a σ H s->yw d c->t d σ H Q ->
  wpAny (model X.prog X.w) X.A (assignInOrder ((assignEach f X.env).map (·.2)) c) (λ_ e=>∃ b H',Inv X a b H' e/\Q b H') X.xe s
abbrev zrm:=V->V->V->Hp->(Hp->Prop)->Prop
def PSet (X:Cx)(t:zrm):Prop :=
 ∀ (a:xC) (s:zn) (σ:St) (H:Hp) (o i v:V) (c b u:Value) (Q:Hp->Prop),Inv X a σ H s->xi o c->xi i b->xi v u->t o i v H Q ->
  wpAny (model X.prog X.w) X.A (setItem c b u) (λ_ d=>∃ H',Inv X a σ H' d/\Q H') X.xe s
section
variable {X:Cx}{pos:Pos}
def Vv (i:Nat):TG:=λv σ H Q=>Q (σ.set i (some v)) H
def xF {i:Nat}(d:X.N.Nodup)(c:X.N[i]?=some x)(b:Loc X.env.scope x)(e:X.fn x=true\/X.env.scope.names.lookup x=some .local:=by first | exact .inl rfl | exact .inr rfl | assumption):PG X (.Name x pos) (Vv i):=by
 intro a s σ H v u Q I r h
 exact wpAny_assign_Name (zaX I d c b r (λf I'=>⟨_,H,I',h⟩) e)
def gNil:TGs:=λa σ H Q=>a=[]/\Q σ H
def zrJ (t:TG)(u:TGs):TGs:=λb σ H Q=>∃ v r,b=v::r/\t v σ H λa H'=>u r a H' Q
def zmv:PGs X [] gNil:=by
 intro a s σ H c b Q I r h
 obtain⟨e,h⟩:=h
 subst e
 cases r
 exact assignInOrder_nil ⟨σ,H,I,h⟩
def ziW {t:TG}(j:PG X e t)(k:PGs X b u)(c:(assignEach (e::b) X.env).map (·.2)=assign e X.env::(assignEach b X.env).map (·.2):=by rfl):PGs X (e::b) (zrJ t u):=by
 intro a s σ H n o Q I r h
 obtain⟨v,m,f,h⟩:=h
 subst f
 cases r with
 | cons r d =>
  rw[c]
  refine assignInOrder_cons (thn (j a s σ H _ _ _ I r h) λ_ l hh9=>?_)
  obtain⟨g,H1,I1,i⟩:=hh9
  exact k a l g H1 _ _ Q I1 d i
def gTup (K:zv)(n:Nat)(t:TGs):TG:=λv σ H Q=>∃ a b,v=.ref a/\SqT K H a b/\b.length=n/\t b σ H Q
def zqi {d:y9}{k:Nat}{t:TGs}{n:Nat}(j:X.calm=true)(h:PGs X d t)
 (w:(assignEach d X.env).length=n:=by rfl) (f:(assignEach d X.env).findIdx? (·.1)=none:=by rfl):PG X (.Tuple d k pos) (gTup X.K n t):=by
 intro c s σ H v u Q I r hw
 obtain⟨a,z,p,m,y,hw⟩:=hw
 subst p
 cases r
 obtain⟨q,g,i,A⟩:=I.tuple m
 refine assign_Tuple_tuple (I.ok.hd j) i (by simp[w,<- y,g.length]) f λx l=>?_
 have I1:Inv X c σ H { s with heap:=x }:=I.kept (t':=s.toks) λb o e=>l b o (k6 (q4 e)) e
 exact h c _ σ H z _ Q I1 (by simpa using g) hw
def gSub (b a:TE)(t:zrm):TG:=λv σ H Q=>b σ H λo H1=>a σ H1 λi H2=>t o i v H2 λH3=>Q σ H3
def zpO {d:TE}{t:zrm}(z:PE X o d)(j:PE X i e)(m:PSet X t) (w:∀ v,assign (.Subscript o i pos) X.env v=(do
 let b<-holding [v] (eval o X.env)
 let c<-holding [v,b] (eval i X.env)
 standAt pos
 holding [v,b,c] (setItem b c v)
 release [v,b,c] []):=by intro _;rfl):PG X (.Subscript o i pos) (gSub d e t):=by
 intro a s σ H v u Q I r h
 rw[w]
 refine u5 (l8 (thn (z a s σ H _ I h) λb k hh9=>?_))
 obtain⟨x,H1,I1,n,p⟩:=hh9
 refine u5 (l8 (thn (j a k σ H1 _ I1 p) λc l hh9=>?_))
 obtain⟨y,H2,I2,g,f⟩:=hh9
 refine u5 (u1y (u5 (l8 (thn (m a l σ H2 x y v b c u _ I2 n g r f) λ_ A hh9=>?_))))
 obtain⟨H3,I3,q⟩:=hh9
 exact wpAny_release ⟨σ,H3,I3,q⟩
def zn5 (a:TE)(g:TG):TS:=λD σ H=>a σ H λx H1=>g x σ H1 D.nx
def zo2 {g:TG}(k:PE X e c)(i:PG X b g)(d:swapsWithSole [b] e pos.line X.env=pure false:=by rfl)(hw:swappedStores [b] e X.env=pure none:=by rfl)(l:(assignEach [b] X.env).map (·.2)=[assign b X.env]:=by rfl):PS X (.Assign [b] e pos) (zn5 c g):=by
 intro a s σ H D I h
 refine wpAny_Assign_stores (thn (k a s σ H _ I h) λv m hh9=>?_) d hw
 obtain⟨x,H1,I1,f,j⟩:=hh9
 rw[l]
 exact thn (i a m σ H1 x v _ I1 f j) λ_ n q=>q
def vK {i:Nat}(m:X.N.Nodup)(j:X.N[i]?=some x)(f:Loc X.env.scope x)(l:PE X e c)(d:swapsWith e (some (.Name x a)) pos.line X.env=pure false:=by rfl)(n:X.fn x=true\/X.env.scope.names.lookup x=some .local:=by first | exact .inl rfl | exact .inr rfl | assumption) :
 PS X (.Assign [.Name x a] e pos) (zn5 c (Vv i)):=by
 intro b s σ H D I h
 refine wpAny_Assign_Name (thn (l b s σ H _ I h) λv o hh9=>?_) d
 obtain⟨y,H1,I1,g,k⟩:=hh9
 exact zaX I1 m j f g (λp I2=>⟨_,H1,I2,k⟩) n
end
structure It where
 go:Nat->Hp->Prop
 yld:Nat->Hp->V->Hp->Prop
 stop:Nat->Hp->Prop
def zdG (X:Cx)(a:xC)(H:Hp)(b:Addr):Prop :=
 H b=none/\b≠X.env.locals/\b∉X.fs/\(b∈X.ex\/X.s₀.heap.objs.size<=b)/\(∀ x c,X.env.cells.lookup x=some c->c≠b)/\∀ p∈X.pn++a,p.1≠b
def Inv.fpOk {H':Hp}{s:zn}(I:Inv X a σ H s)(d:s.heap.objs.size<=b)(g:H' b=none):zdG X a H' b:=by
 refine⟨g,u0O (q5 I.lt d),I.nofs d,.inr (r0 I.sz d),λx c e z=>?_,λp f z=>?_⟩
 .obtain⟨v,q⟩:=I.cell x c e
  exact absurd (q5 q.lt (by rw[z];exact d)) (u0h _)
 .exact absurd (q5 (q4 (I.pin p f).1) (by rw[z];exact d)) (u0h _)
structure zlB (P:zP) (w:World) (K:zv) (tg:Expr) (J:It) (fp:xS) (it:Addr) (tn:Nat->Heap->Prop):Prop where
 mem:it∈fp
 obj:∀ i h,tn i h->∀ b∈fp,∃ o,h.get? b=some o/\∀ v,o.data≠.cell v
 keep:∀ i h h',tn i h->(∀ b∈fp,∀ o,h.get? b=some o->h'.get? b=some o)->tn i h'
 item:∀ (X:Cx),X.prog=P->X.w=w->X.K=K->X.calm=true->∀ (i:Nat) (pins:xC) (s:zn) (σ:St) (H:Hp) (E:yU),Inv X pins σ H s->(∀ b∈fp,zdG X pins H b)->tn i s.heap->J.go i H ->
  wpAny (model P w) X.A (pyNext (.ref it)) (λr s1=>∃ u,r=some u /\
   wpAny (model P w) X.A (letOwnedTupleGo tg (.ref it) u) (λ_ s2=>∃ x H',Inv X pins σ H' s2/\xi x u/\J.yld i H x H'/\tn (i+1) s2.heap/\∀ b∈fp,H' b=none) E s1) E s
 done:∀ (X:Cx),X.prog=P->X.w=w->X.K=K->X.calm=true->∀ (i:Nat) (pins:xC) (s:zn) (σ:St) (H:Hp) (E:yU),Inv X pins σ H s->(∀ b∈fp,zdG X pins H b)->tn i s.heap->J.stop i H ->
  wpAny (model P w) X.A (pyNext (.ref it)) (λr s1=>r=none/\Inv X pins σ H s1) E s
 self:∀ (A:zR) (i:Nat) (s:zn) (Q:yU) (E:yU),tn i s.heap->Q (.ref it) s->wpAny (model P w) A (pyIter (.ref it)) Q E s
abbrev TI:=St->Hp->(It->Hp->Prop)->Prop
def PIE (X:Cx)(a:xC)(σ:St)(h:Expr)(R:It->Hp->Prop)(c:Value)(f:zn):Prop :=
 ∃ (g:Addr) (e:xS) (d:Nat->Heap->Prop) (J:It) (H':Hp),c=.ref g/\Inv X a σ H' f/\zlB X.prog X.w X.K h J e g d/\d 0 f.heap/\(∀ b∈e,zdG X a H' b)/\R J H'
def PI (X:Cx)(c b:Expr)(d:TI):Prop :=
 ∀ (a:xC) (s:zn) (σ:St) (H:Hp) (R:It->Hp->Prop),Inv X a σ H s->d σ H R ->
  wpAny (model X.prog X.w) X.A (eval b X.env) (λv e=>wpAny (model X.prog X.w) X.A (pyIter v) (PIE X a σ c R) X.xe e) X.xe s
theorem zjp {s:zn} {o:Obj} {Q:Unit→Shared→Prop} (ho:s.heap.get? it=some o) (hc:o.cls=.type n) (hd:o.data=.fields vs) (hn:["enumerate","zip","dict_itemiterator","dict_reverseitemiterator","odict_iterator","itertools.zip_longest","itertools.pairwise"].contains n=false) (hQ:Q () s):wpAny M A (letOwnedTupleGo tg (.ref it) u) Q E s:=by
  unfold letOwnedTupleGo
  cases tg <;> first
    | exact t5 hQ
    | (cases u <;> first
        | exact t5 hQ
        | (refine u5 (wpAny_load ho ?_)
           rw [hc,hd]
           show wpAny M A (if (["enumerate","zip","dict_itemiterator","dict_reverseitemiterator","odict_iterator","itertools.zip_longest","itertools.pairwise"].contains n&&vs[0]? == some (rawInt _))=true then _ else _) Q E s
           rw [j6 (by intro h;rw [hn,u29] at h;cases h)]
           exact t5 hQ))
def Itl (K:zv)(a:Addr):It :=
 ⟨λi H=>∃ b x,SqL K H a b/\b[i]?=some x,λi H x H'=>H'=H/\∀ b,SqL K H a b->b[i]?=some x,λi H=>∃ b,SqL K H a b/\b.length<=i⟩
def Itt (K:zv)(a:Addr):It :=
 ⟨λi H=>∃ b x,SqT K H a b/\b[i]?=some x,λi H x H'=>H'=H/\∀ b,SqT K H a b->b[i]?=some x,λi H=>∃ b,SqT K H a b/\b.length<=i⟩
def Itr (a:Int)(n:Nat):It:=⟨λi _=>i<n,λi H x H'=>H'=H/\x=.int (a+i),λi _=>n<=i⟩
def ziI {P:zP}{w:World}{K:zv}{tg:Expr}(a it:Addr):zlB P w K tg (Itl K a) [it] it (λi h=>h.IsListIter it a i) where
 mem:=by simp
 obj:=λi h st b hb=>by
  have e:b=it:=by simpa using hb
  subst e
  obtain⟨o,e,c,d⟩:=st
  exact⟨o,e,λv z=>by rw[d]at z;cases z⟩
 keep:=λi h h' st k=>st.at λo e=>k it (by simp) o e
 item:=by
  intro X hP hw hK hc i pins s σ H E I hf st hg
  subst hP hw hK
  obtain⟨xs,x,hq,hx⟩:=hg
  obtain⟨its,rv,p,hz⟩:=I.list hq
  obtain⟨u,hu,ru⟩:=rv.get hx
  obtain⟨f0,f1,f2,f3,f4,f5⟩:=hf it (by simp)
  refine wpAny_pyNext_list_item st p.isList (x:=u) (by simpa using hu) λh' st' sb=>?_
  have I1:Inv X pins σ H { s with heap:=h' }:=I.turned (t':=s.toks) (λb o hb e=>(sb.2 b hb).trans e) f0 f1 f3 f4 f5
  obtain⟨o,e,c,d⟩:=id st'
  exact⟨u,rfl,zjp (s:={ s with heap:=h' }) e c d (by decide) ⟨x,H,I1,ru,⟨rfl,λys hy=>by rw[I.list_inj hy hq];exact hx⟩,st',λb hb=>(hf b hb).1⟩⟩
 done:=by
  intro X hP hw hK hc i pins s σ H E I hf st hg
  subst hP hw hK
  obtain⟨xs,hq,hx⟩:=hg
  obtain⟨its,rv,p,hz⟩:=I.list hq
  obtain⟨f0,f1,f2,f3,f4,f5⟩:=hf it (by simp)
  have hl:=rv.length
  exact wpAny_pyNext_list_end (I.ok.hd hc) st p.isList (by simp;omega) λh' eb=>⟨rfl,I.turned (t':=s.toks) (λb o hb e=>eb b o hb e) f0 f1 f3 f4 f5⟩
 self:=λ_ _ _ _ _ st h=>wpAny_pyIter_listiter st h
def zeM {P:zP}{w:World}{K:zv}{tg:Expr}(a it:Addr):zlB P w K tg (Itt K a) [it] it (λi h=>h.IsTupleIter it a i) where
 mem:=by simp
 obj:=λi h st b hb=>by
  have e:b=it:=by simpa using hb
  subst e
  obtain⟨o,e,c,d⟩:=st
  exact⟨o,e,λv z=>by rw[d]at z;cases z⟩
 keep:=λi h h' st k=>st.at λo e=>k it (by simp) o e
 item:=by
  intro X hP hw hK hc i pins s σ H E I hf st hg
  subst hP hw hK
  obtain⟨xs,x,hq,hx⟩:=hg
  obtain⟨its,rv,p,hz⟩:=I.tuple hq
  obtain⟨u,hu,ru⟩:=rv.get hx
  obtain⟨f0,f1,f2,f3,f4,f5⟩:=hf it (by simp)
  refine wpAny_pyNext_tuple_item st (show s.heap.IsTuple a its.toArray from p) (x:=u) (by simpa using hu) λh' st' sb=>?_
  have I1:Inv X pins σ H { s with heap:=h' }:=I.turned (t':=s.toks) (λb o hb e=>(sb.2 b hb).trans e) f0 f1 f3 f4 f5
  obtain⟨o,e,c,d⟩:=id st'
  exact⟨u,rfl,zjp (s:={ s with heap:=h' }) e c d (by decide) ⟨x,H,I1,ru,⟨rfl,λys hy=>by rw[I.tuple_inj hy hq];exact hx⟩,st',λb hb=>(hf b hb).1⟩⟩
 done:=by
  intro X hP hw hK hc i pins s σ H E I hf st hg
  subst hP hw hK
  obtain⟨xs,hq,hx⟩:=hg
  obtain⟨its,rv,p,hz⟩:=I.tuple hq
  obtain⟨f0,f1,f2,f3,f4,f5⟩:=hf it (by simp)
  have hl:=rv.length
  exact wpAny_pyNext_tuple_end (I.ok.hd hc) st (show s.heap.IsTuple a its.toArray from p) (by simp;omega) λh' eb=>⟨rfl,I.turned (t':=s.toks) (λb o hb e=>eb b o hb e) f0 f1 f3 f4 f5⟩
 self:=λ_ _ _ _ _ st h=>wpAny_pyIter_tupleiter st h
def zeN {P:zP}{w:World}{K:zv}{tg:Expr}(it:Addr)(lo:Int)(n:Nat):zlB P w K tg (Itr lo n) [it] it (λi h=>IsRangeIter h it (lo+(i:Nat)*1) ((n:Int)-(i:Nat)) 1) where
 mem:=by simp
 obj:=λi h st b hb=>by
  have e:b=it:=by simpa using hb
  subst e
  exact⟨_,st,λv z=>by
   have z':Data.fields _=Data.cell v:=z
   cases z'⟩
 keep:=λi h h' st k=>k it (by simp) _ st
 item:=by
  intro X hP hw hK hc i pins s σ H E I hf st hg
  subst hP hw hK
  obtain⟨f0,f1,f2,f3,f4,f5⟩:=hf it (by simp)
  have W:=Walks.range (prog:=X.prog) (w:=X.w) (I.ok.hd hc) it lo 1 n
  refine W.item i s _ _ hg st λv h' tk hv st' kk=>?_
  obtain⟨t,rfl⟩:=hv
  have I1:Inv X pins σ H { s with heap:=h',toks:=tk }:=I.turned (λb o hb e=>kk b o (by simpa using hb) e) f0 f1 f3 f4 f5
  refine⟨_,rfl,zjp (s:={ s with heap:=h',toks:=tk }) (n:="range_iterator") st' rfl rfl (by decide) ⟨.int (lo+i),H,I1,⟨t,?_⟩,⟨rfl,rfl⟩,st',λb hb=>(hf b hb).1⟩⟩
  rw[Int.mul_one]
 done:=by
  intro X hP hw hK hc i pins s σ H E I hf st hg
  subst hP hw hK
  obtain⟨f0,f1,f2,f3,f4,f5⟩:=hf it (by simp)
  exact wpAny_pyNext_range_end (I.ok.hd hc) st (by have:n<=i:=hg;omega) λh' eb=>⟨rfl,I.turned (t':=s.toks) (λb o hb e=>eb b o hb e) f0 f1 f3 f4 f5⟩
 self:=λ_ _ _ _ _ st h=>wpAny_pyIter_rangeiter st h
section
variable {X:Cx}{tg:Expr}
def zdL {d:xC} {s:zn} {R:It->Hp->Prop} {a c:Int} {t:Tok} {f:Nat} (I:Inv X d σ H s) (i:-(2^62)<=a) (l:a<2^62) (g:-(2^62)<=c) (k:c<2^62) (q:R (Itr a (c-a).toNat) H):wpAny (model X.prog X.w) X.A (pyIter (.ref s.heap.objs.size)) (PIE X d σ tg R) E { s with heap:=s.heap.push { cls:=.type "range",data:=.fields #[.int a t,.int c u,.int 1 v] },toks:=f }:=by
 refine wpAny_pyIter_range (IsRange.new ..) (small_one i l g k) ?_
 have I1:Inv X d σ H { s with heap:=s.heap.push { cls:=.type "range",data:=.fields #[.int a t,.int c u,.int 1 v] },toks:=f }:=I.kept λb o e=>u6 _ e
 refine⟨(s.heap.push { cls:=.type "range",data:=.fields #[.int a t,.int c u,.int 1 v] }).objs.size,[(s.heap.push { cls:=.type "range",data:=.fields #[.int a t,.int c u,.int 1 v] }).objs.size],_,_,H,rfl,
  I1.kept (t':=f) λb o e=>u6 _ e,zeN _ a (c-a).toNat,?_,λb m=>?_,q⟩
 .have h:a+((0:Nat):Int)*1=a:=by simp
  have j:(((c-a).toNat:Nat):Int)-((0:Nat):Int)=Builtin.Range.rangeSize a c 1:=by rw[rangeSize_one];split <;> omega
  show IsRangeIter _ _ (a+((0:Nat):Int)*1) ((((c-a).toNat:Nat):Int)-((0:Nat):Int)) 1
  rw[h,j]
  exact j8 _ rfl
 .have e:b=(s.heap.push { cls:=.type "range",data:=.fields #[.int a t,.int c u,.int 1 v] }).objs.size:=by simpa using m
  subst e
  exact I1.fpOk (t6 _) (I1.hok.fresh (t6 _))
def zrB (a:TA):TI:=fun σ H R=>a σ H λb H1=>∃ j:Int,b=[.int j]/\-(2^62)<=j/\j<2^62/\R (Itr 0 j.toNat) H1
def zrt (a:TA):TI:=fun σ H R=>a σ H λb H1=>∃ i j:Int,b=[.int i,.int j]/\(-(2^62)<=i/\i<2^62/\-(2^62)<=j/\j<2^62)/\R (Itr i (j-i).toNat) H1
def zbN {f:TA} {p:Pos} (n:Gl X "range") (g:X.mg "range"=none) (o:PA X [a] f) (i:starEach [a] X.env=[(false,eval a X.env)]:=by rfl):PI X tg (.Call (.Name "range" p) [a] [] b) (zrB f):=by
 intro c s σ H R I h
 refine Call_ (WN I n g boot_range (u0i (thn (o b c s σ H _ I h) λv w hh9=>?_) i rfl))
 obtain⟨u,H1,I1,l,d⟩:=hh9
 obtain⟨j,e,d,k,q⟩:=d
 subst e
 cases l with
 | cons r m =>
  cases m
  obtain⟨t,rfl⟩:=r
  exact call_range_1 (zdL I1 (by omega) (by omega) d k (by simpa using q))
def zig {p:Pos} (o:Gl X "range") (m:X.mg "range"=none) (x:PA X [a,b] l) (u:starEach [a,b] X.env=[(false,eval a X.env),(false,eval b X.env)]:=by rfl) (f:starEach [b] X.env=[(false,eval b X.env)]:=by rfl) :
 PI X tg (.Call (.Name "range" p) [a,b] [] c) (zrt l):=by
 intro d s σ H R I h
 refine Call_ (WN I o m boot_range (u0i (thn (x c d s σ H _ I h) λB C hh9=>?_) (by rw[u,f]) (by rw[f];rfl)))
 obtain⟨A,H1,I1,v,k⟩:=hh9
 obtain⟨i,j,e,⟨k,n,w,y⟩,q⟩:=k
 subst e
 cases v with
 | cons r g =>
  cases g with
  | cons z g =>
   cases g
   obtain⟨t,rfl⟩:=r
   obtain⟨D,rfl⟩:=z
   exact call_range_2 (zdL I1 k n w y q)
def tFor (d:TI)(g:TG)(e:TS):TS:=λD σ H=>d σ H λJ H1=>∃ W:Nat->Nat->St->Hp->Prop,(∃ m,W 0 m σ H1)/\∀ i m σ H,W i m σ H ->
 (J.stop i H/\D.nx σ H)\/(J.go i H/\∃ N:v7,(∀ a H',N a H'->∃ b,b<m/\W (i+1) b a H')/\∀ x H',J.yld i H x H'->g x σ H' λc H2=>e { D with nx:=N,ct:=N,bk:=D.nx } c H2)
def VE (a:xS)(h:Heap):xC:=a.filterMap λb=>(h.get? b).map λo=>(b,o)
def vM {h:Heap}(c:b∈a)(e:h.get? b=some o):(b,o)∈VE a h:=u1q.mpr ⟨b,c,by rw[e];rfl⟩
def zhc {h:Heap}{p:Addr × Obj}(f:p∈VE a h):p.1∈a/\h.get? p.1=some p.2:=by
 obtain⟨b,c,e⟩:=u1q.mp f
 cases q:h.get? b with
 | none=>rw[q]at e;cases e
 | some o =>
  rw[q]at e
  have d:(b,o)=p:=o4 e
  subst d
  exact⟨c,q⟩
def Inv.pinned {s:zn}(I:Inv X a σ H s)(l:∀ b∈fp,zdG X a H b)(k:∀ b∈fp,∃ o,s.heap.get? b=some o/\∀ v,o.data≠.cell v):Inv X (a++VE fp s.heap) σ H s :=
 I.pins_of λp j=>(u0t.mp j).elim (λz=>I.pin p (o0 _ z)) λz=>by
  obtain⟨f,e⟩:=zhc z
  obtain⟨h,g,i,_⟩:=l p.1 f
  obtain⟨o,c,d⟩:=k p.1 f
  rw[e]at c;cases c
  exact⟨e,h,g,i,d⟩
def Inv.unpinned {pl:xC}(I:Inv X (a++pl) σ H s):Inv X a σ H s:=I.pins_of λp b=>I.pin p (o0 _ (u06 _ b))
def zd0 {l:Expr}{q:wU}{R:TI}{g:TG}{tb:TS}{K:Pos}(G:PassesOwn (model X.prog X.w) X.A X.env X.xe)(Q:X.calm=true)(hi:PI X tg l R)(hg:PG X tg g)(k:PSs X q tb)
 (hs:∀ x,foldedSetIterable l X.env x=pure x:=by intro _;rfl):PS X (.For tg l q [] K) (tFor R g tb):=by
 intro a s σ H D I h
 refine wpAny_For (thn (hi a s σ H _ I h) λv s1 h1=>thn h1 λa0 s2 h2=>?_) hs
 obtain⟨it,C,U,J,H2,e,I2,T,P,Y,W,⟨m0,w0⟩,turn⟩:=h2
 subst e
 -- what stays true of the iterator's objects through the loop
 have j:∀ {H':Hp},(∀ b∈C,H' b=none)->∀ b∈C,zdG X a H' b:=λhn b k=>⟨hn b k,(Y b k).2⟩
 refine codeAny_forLoop_any (λn S=>∃ i w H',Inv X a w H' S/\U i S.heap/\(∀ b∈C,H' b=none)/\W i n w H') ?_ m0 ⟨0,σ,H2,I2,P,λb k=>(Y b k).1,w0⟩
 rintro n V ⟨i,B,H3,I3,A,E,w3⟩
 rcases turn i n B H3 w3 with ⟨F,qn⟩ | ⟨go,N,hN,y⟩
 .refine u1x G (thn (T.done X rfl rfl rfl Q i a V B H3 X.xe I3 (j E) A F) λr s4 hh9=>?_)
  obtain⟨M,I4⟩:=hh9
  subst M
  exact u2h ⟨B,H3,I4,qn⟩
 .refine u1x G (thn (T.item X rfl rfl rfl Q i a V B H3 X.xe I3 (j E) A go) λr s4 hh9=>?_)
  obtain⟨u,M,h4⟩:=hh9
  subst M
  refine u1x G (thn h4 λ_ Z hh9=>?_)
  obtain⟨x,H5,I5,r5,y5,t,O⟩:=hh9
  have I5':=I5.pinned (j O) (T.obj _ _ t)
  refine u1x G (thn (hg _ Z B H5 x u _ I5' r5 (y x H5 y5)) λ_ s6 hh9=>?_)
  obtain⟨σ6,H6,I6,q6⟩:=hh9
  refine u1x G (thn (k _ s6 σ6 H6 _ I6 q6) λf L p=>?_)
  have again:∀ {c:St} {H7:Hp},Inv X (a++VE C Z.heap) c H7 L->N c H7->∃ m,m<n/\∃ i w H',Inv X a w H' L/\U i L.heap/\(∀ b∈C,H' b=none)/\W i m w H':=λ{c H7} I7 z=>by
   obtain⟨m',hm,w7⟩:=hN c H7 z
   refine⟨m',hm,i+1,c,H7,I7.unpinned,T.keep _ _ _ t λb k o e=>(I7.pin (b,o) (o0 _ (o0 _ (vM k e)))).1,λb k=>?_,w7⟩
   obtain⟨o,e,d⟩:=T.obj _ _ t b k
   exact(I7.pin (b,o) (o0 _ (o0 _ (vM k e)))).2.1
  cases f with
  | next=>obtain⟨c,H7,I7,z⟩:=p;exact again I7 z
  | cont=>obtain⟨c,H7,I7,z⟩:=p;exact again I7 z
  | brk=>obtain⟨c,H7,I7,p⟩:=p;exact⟨c,H7,I7.unpinned,p⟩
  | ret v=>obtain⟨x7,c,H7,I7,r7,p⟩:=p;exact⟨x7,c,H7,I7.unpinned,r7,p⟩
end
abbrev R2:=V->V->Hp->VK->Prop
def OpR (X:Cx)(f:Value->Value->Sem Value)(r:R2):Prop :=
 ∀ (a:xC) (s:zn) (σ:St) (H:Hp) (x y:V) (v u:Value) (Q:VK),Inv X a σ H s->xi x v->xi y u->r x y H Q ->
  wpAny (model X.prog X.w) X.A (f v u) (EP X a σ Q) X.xe s
def UnR (X:Cx)(f:Value->Sem Value)(r:V->Hp->VK->Prop):Prop :=
 ∀ (a:xC) (s:zn) (σ:St) (H:Hp) (x:V) (v:Value) (Q:VK),Inv X a σ H s->xi x v->r x H Q ->
  wpAny (model X.prog X.w) X.A (f v) (EP X a σ Q) X.xe s
def v5 (X:Cx)(f:Value)(r:zfr):Prop :=
 ∀ (a:xC) (s:zn) (σ:St) (H:Hp) (c:zx) (b:zB) (Q:VK),Inv X a σ H s->yw c b->r c H Q ->
  wpAny (model X.prog X.w) X.A (call f b) (EP X a σ Q) X.xe s
def tOp (r:R2)(a b:TE):TE:=fun σ H Q=>a σ H λx H1=>b σ H1 λy H2=>r x y H2 Q
def tUn (r:V->Hp->VK->Prop)(a:TE):TE:=fun σ H Q=>a σ H λx H1=>r x H1 Q
def rI (C:Int->Int->Prop)(g:Int->Int->V):R2:=λx y H Q=>∃ i j,x=.int i/\y=.int j/\C i j/\Q (g i j) H
def rI0 (g:Int->Int->V):R2:=λx y H Q=>∃ i j,x=.int i/\y=.int j/\Q (g i j) H
def rU (g:Int->V):V->Hp->VK->Prop:=λx H Q=>∃ i,x=.int i/\Q (g i) H
section
variable {X:Cx}{a b c:Expr}{ta tb tc:TE}{pos:Pos}
def zrP (o:PE X a ta)(p:PE X b tb){c:xC}{R:V->V->Hp->Prop}(I:Inv X c σ H s)(h:ta σ H λx H1=>tb σ H1 λy H2=>R x y H2){f:Value->Value->Sem Value}(g:∀ v u d x y H2,Inv X c σ H2 d->xi x v->xi y u->R x y H2->wpAny (model X.prog X.w) X.A (f v u) Q X.xe d) :
 wpAny (model X.prog X.w) X.A (eval a X.env) (λv n=>wpAny (model X.prog X.w) X.A (eval b X.env) (λu k=>wpAny (model X.prog X.w) X.A (f v u) Q X.xe k) X.xe n) X.xe s:=by
 refine thn (o c s σ H _ I h) λv j hh9=>?_
 obtain⟨x,H1,I1,l,m⟩:=hh9
 refine thn (p c j σ H1 _ I1 m) λu d hh9=>?_
 obtain⟨y,H2,I2,i,e⟩:=hh9
 exact g v u d x y H2 I2 l i e
def zgr {d:Operator}(k:OpR X (binaryOp d) r)(f:PE X a ta)(g:PE X b tb):PE X (.BinOp a d b pos) (tOp r ta tb):=by
 intro c s σ H Q I h
 exact wpAny_BinOp (zrP f g I h λv u j x y H2 I2 e i q=>k c j σ H2 x y v u Q I2 e i q)
def zpS {c:UnaryOp}(g:UnR X (unaryOp c) r)(d:PE X a ta):PE X (.UnaryOp c a pos) (tUn r ta):=by
 intro b s σ H Q I h
 exact UnaryOp_ (thn (d b s σ H _ I h) λv f ⟨x,H1,I1,e,i⟩=>g b f σ H1 x v Q I1 e i)
def opI {f:Value->Value->Sem Value}{C:Int->Int->Prop}{g:Int->Int->Int}
 (rule:∀ (i j:Int) (t u:Tok) (s:zn) (Q:yU) (E:yU),C i j->Q (.int (g i j) s.toks) { s with toks:=s.toks+1 }->wpAny (model X.prog X.w) X.A (f (.int i t) (.int j u)) Q E s) :
 OpR X f (rI C λi j=>.int (g i j)):=by
 intro a s σ H x y v u Q I b e h
 obtain⟨i,j,rfl,rfl,c,q⟩:=h
 obtain⟨t,rfl⟩:=b
 obtain⟨d,rfl⟩:=e
 exact rule i j t d s _ _ c ⟨.int (g i j),H,I.tok _,⟨_,rfl⟩,q⟩
def opI0 {f:Value->Value->Sem Value}{g:Int->Int->Int}
 (rule:∀ (i j:Int) (t u:Tok) (s:zn) (Q:yU) (E:yU),Q (.int (g i j) s.toks) { s with toks:=s.toks+1 }->wpAny (model X.prog X.w) X.A (f (.int i t) (.int j u)) Q E s) :
 OpR X f (rI0 λi j=>.int (g i j)):=by
 intro a s σ H x y v u Q I b d h
 obtain⟨i,j,rfl,rfl,q⟩:=h
 obtain⟨t,rfl⟩:=b
 obtain⟨c,rfl⟩:=d
 exact rule i j t c s _ _ ⟨.int (g i j),H,I.tok _,⟨_,rfl⟩,q⟩
def zqI {f:Value->Value->Sem Value}{g:Int->Int->Bool}
 (rule:∀ (i j:Int) (t u:Tok) (s:zn) (Q:yU) (E:yU),Q (.bool (g i j)) s->wpAny (model X.prog X.w) X.A (f (.int i t) (.int j u)) Q E s) :
 OpR X f (rI0 λi j=>.bl (g i j)):=by
 intro a s σ H x y v u Q I b d h
 obtain⟨i,j,rfl,rfl,q⟩:=h
 obtain⟨t,rfl⟩:=b
 obtain⟨c,rfl⟩:=d
 exact rule i j t c s _ _ ⟨.bl (g i j),H,I,rfl,q⟩
def zq6 (i j:Int):Prop:=(-(2^64)<i/\i<2^64)\/(-(2^64)<j/\j<2^64)
def zq6.ok (h:zq6 i j):IntMulOk i j:=by
 rcases h with ⟨a,b⟩ | ⟨a,b⟩
 .exact .of_left (intBits_le_64 a b)
 .exact .of_right (intBits_le_64 a b)
def zp4:OpR X (binaryOp .Add) (rI0 λi j=>.int (i+j)):=opI0 λ_ _ _ _ _ _ _ q=>add_int q
def zoj:OpR X (binaryOp .Sub) (rI0 λi j=>.int (i-j)):=opI0 λ_ _ _ _ _ _ _ q=>sub_int q
def zop:OpR X (binaryOp .Mult) (rI zq6 λi j=>.int (i*j)):=opI λ_ _ _ _ _ _ _ a q=>mul_int q a.ok
def zol:OpR X (binaryOp .Mod) (rI (λ_ j=>0<j) λi j=>.int (i%j)):=opI λi j _ _ _ _ _ a q=>by
 have b:(0:Int)<j:=a
 exact mod_int' (by omega) (by rw[Int.fmod_eq_emod_of_nonneg i (by omega)];exact q)
def unI {f:Value->Sem Value}{g:Int->Int}
 (rule:∀ (i:Int) (t:Tok) (s:zn) (Q:yU) (E:yU),Q (.int (g i) s.toks) { s with toks:=s.toks+1 }->wpAny (model X.prog X.w) X.A (f (.int i t)) Q E s) :
 UnR X f (rU λi=>.int (g i)):=by
 intro a s σ H x v Q I b h
 obtain⟨i,rfl,q⟩:=h
 obtain⟨t,rfl⟩:=b
 exact rule i t s _ _ ⟨.int (g i),H,I.tok _,⟨_,rfl⟩,q⟩
def zll:UnR X (unaryOp .USub) (rU λi=>.int (-i)):=unI λ_ _ _ _ _ q=>neg_int q
end
def scal:V->V->Bool
 | .non,.non=>true | .non,.int _=>true | .int _,.non=>true | .non,.bl _=>true | .bl _,.non=>true | .non,.str _=>true | .str _,.non=>true
 | .int _,.int _=>true | .bl _,.bl _=>true | .str _,.str _=>true | .byt _,.byt _=>true
 | .int _,.str _=>true | .str _,.int _=>true | .bl _,.str _=>true | .str _,.bl _=>true
 | _,_=>false
def rEq:R2:=λx y H Q=>scal x y=true/\Q (.bl (decide (x=y))) H
def rNe:R2:=λx y H Q=>scal x y=true/\Q (.bl (!decide (x=y))) H
def zcz:decide (V.int i=V.int j)=(i == j):=by
 rw[u1m]
 simp
def zlr:decide (V.bl i=V.bl j)=(i == j):=by
 rw[u1m]
 simp
def zh9:decide (V.str i=V.str j)=(i == j):=by
 rw[u1m]
 simp
def zgp {i j:Array UInt8}:decide (V.byt i=V.byt j)=(i.toList == j.toList):=by
 rw[u1m]
 cases i
 cases j
 simp
section
variable {X:Cx}{a b c:Expr}{ta tb tc:TE}{pos:Pos}
def yo {a:xC}{Q:VK}{k b:Bool}(I:Inv X a σ H s)(q:Q (.bl k) H)(e:k=b):EP X a σ Q (.bool b) s:=by
 subst e
 exact⟨.bl k,H,I,rfl,q⟩
def zq4:OpR X (compareOp .Eq) rEq:=by
 intro e s σ H x y v u Q I d a h
 obtain⟨c,q⟩:=h
 cases x with
 | non =>
  cases d
  cases y with
  | non=>cases a;exact PySem.EqNone.eq_none_none (yo I q (by simp))
  | bl j=>cases a;exact PySem.EqNone.eq_none_bool (yo I q (by simp))
  | int j=>obtain⟨b,rfl⟩:=a;exact PySem.EqNone.eq_none_int (yo I q (by simp))
  | str j=>obtain⟨b,rfl⟩:=a;exact PySem.EqNone.eq_none_str (yo I q (by simp))
  | _=>exact absurd (show false=true from c) u7
 | bl i =>
  cases d
  cases y with
  | non=>cases a;exact PySem.EqNone.eq_bool_none (yo I q (by simp))
  | bl j=>cases a;exact eq_bool (yo I q zlr)
  | str j=>obtain⟨b,rfl⟩:=a;exact PySem.EqMixed.eq_bool_str (yo I q (by simp))
  | _=>exact absurd (show false=true from c) u7
 | int i =>
  obtain⟨t,rfl⟩:=d
  cases y with
  | non=>cases a;exact PySem.EqNone.eq_int_none (yo I q (by simp))
  | int j=>obtain⟨b,rfl⟩:=a;exact eq_int (yo I q zcz)
  | str j=>obtain⟨b,rfl⟩:=a;exact PySem.EqMixed.eq_int_str (yo I q (by simp))
  | _=>exact absurd (show false=true from c) u7
 | str i =>
  obtain⟨t,rfl⟩:=d
  cases y with
  | non=>cases a;exact PySem.EqNone.eq_str_none (yo I q (by simp))
  | bl j=>cases a;exact PySem.EqMixed.eq_str_bool (yo I q (by simp))
  | int j=>obtain⟨b,rfl⟩:=a;exact PySem.EqMixed.eq_str_int (yo I q (by simp))
  | str j=>obtain⟨b,rfl⟩:=a;exact eq_str (yo I q zh9)
  | _=>exact absurd (show false=true from c) u7
 | byt i =>
  obtain⟨t,rfl⟩:=d
  cases y with
  | byt j=>obtain⟨b,rfl⟩:=a;exact W.eq_bytes (yo I q zgp)
  | _=>exact absurd (show false=true from c) u7
 | _=>cases y <;> exact absurd (show false=true from c) u7
def zbK:OpR X (compareOp .NotEq) rNe:=by
 intro e s σ H x y v u Q I d a h
 obtain⟨c,q⟩:=h
 cases x with
 | non =>
  cases d
  cases y with
  | non=>cases a;exact PySem.EqNone.ne_none_none (yo I q (by simp))
  | bl j=>cases a;exact PySem.EqNone.ne_none_bool (yo I q (by simp))
  | int j=>obtain⟨b,rfl⟩:=a;exact PySem.EqNone.ne_none_int (yo I q (by simp))
  | str j=>obtain⟨b,rfl⟩:=a;exact PySem.EqNone.ne_none_str (yo I q (by simp))
  | _=>exact absurd (show false=true from c) u7
 | bl i =>
  cases d
  cases y with
  | non=>cases a;exact PySem.EqNone.ne_bool_none (yo I q (by simp))
  | bl j=>cases a;exact ne_bool (yo I q (u0x not zlr))
  | str j=>obtain⟨b,rfl⟩:=a;exact PySem.EqMixed.ne_bool_str (yo I q (by simp))
  | _=>exact absurd (show false=true from c) u7
 | int i =>
  obtain⟨t,rfl⟩:=d
  cases y with
  | non=>cases a;exact PySem.EqNone.ne_int_none (yo I q (by simp))
  | int j=>obtain⟨b,rfl⟩:=a;exact ne_int (yo I q (u0x not zcz))
  | str j=>obtain⟨b,rfl⟩:=a;exact PySem.EqMixed.ne_int_str (yo I q (by simp))
  | _=>exact absurd (show false=true from c) u7
 | str i =>
  obtain⟨t,rfl⟩:=d
  cases y with
  | non=>cases a;exact PySem.EqNone.ne_str_none (yo I q (by simp))
  | bl j=>cases a;exact PySem.EqMixed.ne_str_bool (yo I q (by simp))
  | int j=>obtain⟨b,rfl⟩:=a;exact PySem.EqMixed.ne_str_int (yo I q (by simp))
  | str j=>obtain⟨b,rfl⟩:=a;exact ne_str (yo I q (u0x not zh9))
  | _=>exact absurd (show false=true from c) u7
 | byt i =>
  obtain⟨t,rfl⟩:=d
  cases y with
  | byt j=>obtain⟨b,rfl⟩:=a;exact W.ne_bytes (yo I q (u0x not zgp))
  | _=>exact absurd (show false=true from c) u7
 | _=>cases y <;> exact absurd (show false=true from c) u7
def zrv:OpR X (compareOp .Lt) (rI0 λi j=>.bl (decide (i<j))):=zqI λ_ _ _ _ _ _ _ q=>lt_int q
def zau:OpR X (compareOp .LtE) (rI0 λi j=>.bl (decide (i<=j))):=zqI λ_ _ _ _ _ _ _ q=>le_int q
def znd:OpR X (compareOp .Gt) (rI0 λi j=>.bl (decide (j<i))):=zqI λ_ _ _ _ _ _ _ q=>gt_int q
def zpU:OpR X (compareOp .GtE) (rI0 λi j=>.bl (decide (j<=i))):=zqI λ_ _ _ _ _ _ _ q=>ge_int q
def zgO:OpR X (compareOp .In) (λx y H Q=>∃ i j,x=.str i/\y=.str j/\Q (.bl (!(Builtin.Str.occurrences j i 0 j.length 1).isEmpty)) H):=by
 intro a s σ H x y v u Q I b c h
 obtain⟨i,j,rfl,rfl,q⟩:=h
 obtain⟨t,rfl⟩:=b
 obtain⟨d,rfl⟩:=c
 exact in_str (yo I q rfl)
def zqe:OpR X (compareOp .Is) (λx y H Q=>y=.non/\Q (.bl (decide (x=.non))) H):=by
 intro b s σ H x y v u Q I a c h
 obtain⟨rfl,q⟩:=h
 cases c
 refine is_none_gen (yo I q ?_)
 cases x <;> first
  | (cases a;rfl)
  | (obtain⟨t,rfl⟩:=a;rfl)
def zl8:OpR X (compareOp .IsNot) (λx y H Q=>y=.non/\Q (.bl (!decide (x=.non))) H):=by
 intro b s σ H x y v u Q I a c h
 obtain⟨rfl,q⟩:=h
 cases c
 refine isnot_none_gen (yo I q ?_)
 cases x <;> first
  | (cases a;rfl)
  | (obtain⟨t,rfl⟩:=a;rfl)
def OpR.or {f:Value->Value->Sem Value}{r c:R2}(h:OpR X f r)(e:OpR X f c):OpR X f (λx y H Q=>r x y H Q\/c x y H Q):=by
 intro a s σ H x y v u Q I b d q
 rcases q with q | q
 .exact h a s σ H x y v u Q I b d q
 .exact e a s σ H x y v u Q I b d q
def z5 (b:Expr){a:CmpOp}(h:a≠.In:=by decide)(d:a≠.NotIn:=by decide):behindInMarks a b=false:=by
 have e:(a == CmpOp.In)=false:=by cases a <;> first | rfl | exact absurd rfl h
 have c:(a == CmpOp.NotIn)=false:=by cases a <;> first | rfl | exact absurd rfl d
 cases b <;> simp[behindInMarks,e,c]
def zgD {d:CmpOp}(l:OpR X (compareOp d) r)(g:PE X a ta)(i:PE X b tb)(e:behindInMarks d b=false):PE X (.Compare a [d] [b] pos) (tOp r ta tb):=by
 intro c s σ H Q I h
 exact wpAny_Compare1 (zrP g i I h λv u k x y H2 I2 f j q=>l c k σ H2 x y v u Q I2 f j q) e
def zeP (t:TE):TT:=fun σ H Q=>t σ H λx H'=>∃ k,x=.bl k/\Q k H'
def zaB {f:CmpOp}(A:OpR X (compareOp f) r)(o:PE X a ta)(q:PE X b tb)(g:behindInMarks f b=false):PT X (.Compare a [f] [b] pos) (zeP (tOp r ta tb)):=by
 intro d s σ H Q I h
 refine wpAny_isTrue_Compare1 (thn (o d s σ H _ I h) λv t ⟨x,H1,I1,j,m⟩=>thn (q d t σ H1 _ I1 m) λu w ⟨y,H2,I2,l,i⟩ =>
  thn (A d w σ H2 x y v u _ I2 j l i) λc B ⟨z,H3,I3,p,k,e,n⟩=>?_) g
 subst e
 cases p
 exact u0e ⟨H3,I3,n⟩
def zb8 (r b:R2)(ta tb tc:TE):TE:=fun σ H Q=>ta σ H λx H1=>tb σ H1 λy H2=>r x y H2 λz H3=>∃ k,z=.bl k /\
 (if k=true then tc σ H3 λa H4=>b y a H4 Q else Q (.bl false) H3)
def zjr {g:CmpOp}(N:OpR X (compareOp j) r)(i:OpR X (compareOp g) n)(J:PE X a ta)(M:PE X b tb)(t:PE X c tc)(p:lastMarks [j,g] [b,c]=false:=by with_unfolding_all rfl):PE X (.Compare a [j,g] [b,c] pos) (zb8 r n ta tb tc):=by
 intro f s σ H Q I h
 refine Compare_chain (thn (J f s σ H _ I h) λv B ⟨x,H1,I1,E,F⟩=>chain_link (thn (M f B σ H1 _ I1 F) λu C ⟨y,H2,I2,l,q⟩ =>
  thn (N f C σ H2 x y v u _ I2 E l q) λd w ⟨z,H3,I3,K,k,e,m⟩=>?_)) p
 subst e
 cases K
 refine u0e ?_
 cases k with
 | false=>exact ite_ff ⟨.bl false,H3,I3,rfl,m⟩
 | true=>exact ite_tt (chain_last (thn (t f w σ H3 _ I3 m) λo A ⟨D,H4,I4,G,L⟩=>i f A σ H4 y D u o Q I4 l G L))
def zjD {g:CmpOp}(T:OpR X (compareOp j) r)(i:OpR X (compareOp g) n)(M:PE X a ta)(S:PE X b tb)(w:PE X c tc)(p:lastMarks [j,g] [b,c]=false:=by with_unfolding_all rfl):PT X (.Compare a [j,g] [b,c] pos) (zeP (zb8 r n ta tb tc)):=by
 intro f s σ H Q I h
 refine isTrue_chain (thn (M f s σ H _ I h) λv E ⟨x,H1,I1,J,K⟩=>test_link (thn (S f E σ H1 _ I1 K) λu F ⟨y,H2,I2,l,t⟩ =>
  thn (T f F σ H2 x y v u _ I2 J l t) λd B ⟨z,H3,I3,P,k,e,m⟩=>?_)) p
 subst e
 cases P
 refine u0e ?_
 cases k with
 | false =>
  obtain⟨Y,A,N⟩:=m
  cases A
  exact ite_ff ⟨H3,I3,N⟩
 | true =>
  refine ite_tt (test_last (thn (w f B σ H3 _ I3 m) λo D ⟨G,H4,I4,L,R⟩=>thn (i f D σ H4 y G u o _ I4 l L R) λW Z hh9=>?_))
  obtain⟨U,H5,I5,C,V,O,q⟩:=hh9
  subst O
  cases C
  exact u0e ⟨H5,I5,q⟩
def Xs:(sizeLine:Nat)<2^63:=by rw[u0I];decide
def zeZ:OpR X (binaryOp .Add) (λx y H Q=>∃ i j,x=.str i/\y=.str j/\i.length+j.length<=sizeLine/\Q (.str (i++j)) H):=by
 intro a s σ H x y v u Q I b e h
 obtain⟨i,j,rfl,rfl,c,q⟩:=h
 obtain⟨t,rfl⟩:=b
 obtain⟨d,rfl⟩:=e
 exact add_str (λd f=>⟨.str (i++j),H,I.tok _,⟨_,rfl⟩,q⟩) c
def XF {a:zB}(r:yw [x] a):∃ u,a=[u]/\xi x u:=by
 cases r with
 | cons b c=>cases c;exact⟨_,rfl,b⟩
def zj1 {b:zB}(r:yw [x,y] b):∃ u a,b=[u,a]/\xi x u/\xi y a:=by
 cases r with
 | cons e f =>
  cases f with
  | cons d c=>cases c;exact⟨_,_,rfl,e,d⟩
def zij (d:X.calm=true):v5 X (.builtin "max") (λc H Q=>∃ i j,c=[.int i,.int j]/\Q (.int (if j>i then j else i)) H):=by
 intro b s σ H c g Q I r h
 obtain⟨i,j,rfl,q⟩:=h
 obtain⟨u,e,rfl,⟨t,rfl⟩,⟨l,rfl⟩⟩:=zj1 r
 refine max_two_ints (I.ok.hd d) λm f k=>⟨_,H,I.kept k,?_,q⟩
 by_cases a:j>i
 .rw[t7 a,t7 a];exact⟨_,rfl⟩
 .rw[j6 a,j6 a];exact⟨_,rfl⟩
def zhk (d:X.calm=true):v5 X (.builtin "min") (λc H Q=>∃ i j,c=[.int i,.int j]/\Q (.int (if j<i then j else i)) H):=by
 intro b s σ H c g Q I r h
 obtain⟨i,j,rfl,q⟩:=h
 obtain⟨u,e,rfl,⟨t,rfl⟩,⟨l,rfl⟩⟩:=zj1 r
 refine min_two_ints (I.ok.hd d) λm f k=>⟨_,H,I.kept k,?_,q⟩
 by_cases a:j<i
 .rw[t7 a,t7 a];exact⟨_,rfl⟩
 .rw[j6 a,j6 a];exact⟨_,rfl⟩
def zf9:v5 X (.type "int") (λa H Q=>(∃ i,a=[.int i]/\Q (.int i) H)\/∃ k,a=[.bl k]/\Q (.int (if k then 1 else 0)) H):=by
 intro b s σ H a d Q I r h
 rcases h with ⟨i,rfl,q⟩ | ⟨k,rfl,q⟩
 .obtain⟨u,rfl,t,rfl⟩:=XF r
  exact call_int_int ⟨.int i,H,I,⟨_,rfl⟩,q⟩
 .obtain⟨u,rfl,c⟩:=XF r
  cases c
  exact call_int_bool ⟨.int (if k then 1 else 0),H,I.tok _,⟨_,rfl⟩,q⟩
def Yq:v5 X (.type "str") (λb H Q=>∃ i,b=[.int i]/\i.natAbs.log2<1920/\Q (.str (toString i)) H):=by
 intro a s σ H b d Q I r h
 obtain⟨i,rfl,c,q⟩:=h
 obtain⟨u,rfl,t,rfl⟩:=XF r
 exact PySem.P.str_of_int c ⟨.str _,H,I.tok _,⟨_,rfl⟩,q⟩
end
structure znk (h:Heap) (x dx C:Addr) (mA:wn):Prop where
 obj:h.get? x=some (W.instObj C dx)
 ns:h.Ns1 dx mA
 ne:dx≠x
def zfX {h:Heap}{d:Addr}{f:wn}(n:h.Ns1 d f):∃ g,h.get? d=some g/\∀ b,W.lookIn b g=some (f b):=by
 obtain⟨o,i,s,r,m,p,_,j⟩:=n
 refine⟨o,r,λb=>?_⟩
 have e:=j b
 unfold nsFind findBy at e
 rw[<-Array.find?_toList]at e
 unfold W.lookIn
 rw[m]
 dsimp only
 split
 .rename_i y q
  rw[q]at e
  exact u0x some e
 .rename_i q
  rw[q]at e
  have a:i.toList.any (·.refKey)=false:=by
   rw[List.any_eq_false]
   intro y k
   obtain⟨z,t,c⟩:=p y (Array.mem_toList_iff.mp k)
   simp[DictEntry.refKey,c]
  have l:¬ i.toList.any (·.refKey)=true:=by rw[a];exact u7
  rw[j6 l]
  exact u0x some e
def znk.look {d:wn}(I:znk h x c C d):∃ b,PySem.W.InstAt h x (W.instObj C c) C (some b)/\∀ a,W.lookIn a b=some (d a) :=
 let ⟨b,ho,hl⟩:=zfX I.ns
 ⟨b,⟨I.obj,rfl,rfl,ho⟩,hl⟩
section
variable {prog:zP}{w:World}{A:zR}{E:yU}{s:zn}{K:zv}{x dx C f:Addr}{mA:wn}{name:Str}{v:Value}
def zma {Q:yU}(X:K.In s.heap)(I:znk s.heap x dx C mA)(g:W.plainGet K C name=true)(e:W.hasDictIn K C=true)(d:W.findIn K (.ref C) name=some none)(f:mA name=some v)(b:W.handedIn v=true)(h:Q v { s with toks:=s.toks+1 }) :
 wpAny (model prog w) A (getAttr (.ref x) name a) Q E s:=by
 obtain⟨i,J,c⟩:=I.look
 exact W.get_value X J (u2g g).1 (W.findObj_own e d rfl (by rw[c,f])) b h
def zjY {pl:Sem Bool}{Q:Value × zB->Shared->Prop}(X:K.In s.heap)(I:znk s.heap x dx C mA)(a:W.plainGet K C name=true)
 (g:W.findIn K (.ref C) name=some (some (.ref f))) (b:W.isFn K (.ref f)=true) (c:mA name=none) (h:Q (.ref f,[.ref x]) s) :
 wpAny (model prog w) A (getMethod (.ref x) name pl) Q E s:=by
 obtain⟨d,J,e⟩:=I.look
 exact W.method_fn X J (u2g a).1 (u2g a).2 g (u0k.mp b) (by show(W.lookIn name d).map (·.isSome)=some false;rw[e,c];rfl) h
def zm3 {ns:zH}{Q:Unit->Shared->Prop}(X:K.In s.heap)(I:znk s.heap x dx C mA)
 (k:W.findIn K (.ref C) "__setattr__"=some (some (.builtin "object.__setattr__"))) (q:W.plainOver K C=true) (l:W.takerIn K C name=some none) (t:W.hasDictIn K C=true)
 (hw:PySem.Within mA ns) (u:ns.length<=sizeLine)
 (h:∀ e,znk e x dx C (λy=>if y=name then some v else mA y)->Heap.SameBut dx s.heap e->Q () { s with heap:=e,toks:=s.toks+2 }) :
 wpAny (model prog w) A (setAttr (.ref x) name v) Q E s:=by
 obtain⟨z,J,D⟩:=I.look
 refine W.set_plain X J k (W.osa_open (s:={ s with toks:=s.toks+1 }) (r:=none) X J q l λb=>?_)
 obtain⟨F,m,j⟩:=W.any_some t
 have p:s.heap.get? x=some ⟨.ref C,some dx,.plain,#[]⟩:=I.obj
 refine u5 (t5 (u5 (u5 (wpAny_loadPart p (u5 (PySem.W.Looks.here (s:={ s with toks:=s.toks+1 }) (u2f X m) ?_))))))
 rw[j]
 refine t5 (a:=some dx) (u5 (t5 (u5 ?_)))
 refine wpAny_nsSet1 (s:={ s with toks:=s.toks+1 }) I.ns λe d c=>?_
 obtain⟨B,o,n,i,g,f⟩:=d.count (PySem.Within.cons name v hw)
 refine u5 (wpAny_lookBehind i (by rw[g];exact pastItsLine_dict (r0 f (by rw[k7];omega))) ?_)
 exact t5 (h _ ⟨(c.2 _ (i7 I.ne)).trans I.obj,d,I.ne⟩ c)
def zko (X:K.In s.heap) (e:W.makesIn K C=true) (j:W.findIn K (.ref C) "__init__"=some (some (.ref f))) (i:W.typeIn K (.ref f)=some (.type "function")) (h:codeAny (model prog w) (A.under (.builtin "type.__call__" ⟨.ref C::c,b⟩)) (.call (.ref f) ⟨.ref (s.heap.objs.size+1)::c,b⟩) (PySem.W.InitBack (s.heap.objs.size+1) R)
 { s with heap:=(s.heap.push W.emptyDict).push (W.instObj C s.heap.objs.size) }) :
 codeAny (model prog w) A (.call (.ref C) ⟨c,b⟩) R s:=by
 obtain⟨k,g,d,t,os⟩:=s
 exact W.make_core (W.makes_of X e) (W.looks_findIn X j) (λa=>W.bind_fn X a i) (.inl rfl) h
end
def zaR (f:Str)(v:V):List (Str × V)->List (Str × V)
 | []=>[(f,v)]
 | (g,x)::r=>if g=f then (g,v)::r else (g,x)::zaR f v r
def W1 (f g:Str)(v:V):∀ c:List (Str × V),(zaR f v c).lookup g=if g=f then some v else c.lookup g
 | []=>by
  show List.lookup g [(f,v)]=_
  by_cases h:g=f
  .have a:(g == f)=true:=u0k.mpr h
   simp only[List.lookup,a,t7 h]
  .have a:(g == f)=false:=g0.mpr h
   simp only[List.lookup,a,j6 h]
 | (k,x)::r=>by
  have d:=W1 f g v r
  rw[show zaR f v ((k,x)::r)=(if k=f then (k,v)::r else (k,x)::zaR f v r)from rfl]
  by_cases b:k=f
  .rw[t7 b]
   by_cases h:g=k
   .have a:(g == k)=true:=u0k.mpr h
    simp only[List.lookup,a,t7 (h.trans b)]
   .have a:(g == k)=false:=g0.mpr h
    simp only[List.lookup,a,j6 (λe:g=f=>h (e.trans b.symm))]
  .rw[j6 b]
   by_cases h:g=k
   .have a:(g == k)=true:=u0k.mpr h
    simp only[List.lookup,a,j6 (λe:g=f=>b (h.symm.trans e))]
   .have a:(g == k)=false:=g0.mpr h
    simp only[List.lookup,a]
    exact d
def WQ (f:Str)(v:V):∀ a:List (Str × V),f∈(zaR f v a).map (·.1)/\∀ g,g∈a.map (·.1)->g∈(zaR f v a).map (·.1)
 | []=>⟨by simp[zaR],λg h=>by simp at h⟩
 | (k,x)::r=>by
  obtain⟨d,c⟩:=WQ f v r
  rw[show zaR f v ((k,x)::r)=(if k=f then (k,v)::r else (k,x)::zaR f v r)from rfl]
  by_cases b:k=f
  .rw[t7 b]
   subst b
   exact⟨by simp,λg h=>by simpa using h⟩
  .rw[j6 b]
   refine⟨?_,λg h=>?_⟩
   .rw[n0]
    exact r4 _ d
   .rw[n0]at h ⊢
    rcases q7.mp h with e | e
    .exact q7.mpr (.inl e)
    .exact r4 _ (c g e)
def Vg (f:Str)(v:V):∀ a:List (Str × V),(zaR f v a).length<=a.length+1
 | []=>by simp[zaR]
 | (k,x)::r=>by
  have c:=Vg f v r
  rw[show zaR f v ((k,x)::r)=(if k=f then (k,v)::r else (k,x)::zaR f v r)from rfl]
  by_cases b:k=f
  .rw[t7 b,k7,k7];omega
  .rw[j6 b,k7,k7];omega
def zdr.some_of (r:zdr (some v) o):∃ u,o=some u/\xi v u:=by
 cases o with
 | none=>exact(show False from r).elim
 | some u=>exact⟨u,rfl,r⟩
def zdr.none_of (r:zdr none o):o=none:=by
 cases o with
 | none=>rfl
 | some u=>exact(show False from r).elim
def ziB (r:xi v u):W.handedIn u=true:=by
 cases v with
 | non=>cases (show u=Value.none from r);rfl
 | bl b=>cases (show u=Value.bool b from r);rfl
 | int i=>obtain⟨t,e⟩:=(show ∃ t,u=Value.int i t from r);cases e;rfl
 | str x=>obtain⟨t,e⟩:=(show ∃ t,u=Value.str x t from r);cases e;rfl
 | byt b=>obtain⟨t,e⟩:=(show ∃ t,u=Value.bytes b t from r);cases e;rfl
 | flt b=>obtain⟨t,e⟩:=(show ∃ t,u=Value.float b t from r);cases e;rfl
 | ref a=>cases (show u=Value.ref a from r);rfl
 | ty n=>cases (show u=Value.type n from r);rfl
section
variable {P:zP}{w:World}{H H':Hp}{h h':Heap}{a C dx:Addr}{fs fs':List (Str × V)}
def zak (c:HOk P w H h)(e:H a=some (.ins C dx fs)):∃ b,znk h a dx C b/\(∀ f,zdr (fs.lookup f) (b f))/\PySem.Within b (fs.map (·.1))/\fs.length<=1000/\H dx=some (.own a):=by
 obtain⟨d,z,i,g,b,n,r,q⟩:=(show yT P w H h a (.ins C dx fs)from c a _ e)
 exact⟨b,⟨g,n,i⟩,r,q,z,d⟩
end
structure Cls (K:zv) (C:Addr):Prop where
 pg:W.plainGet K C Str.empty=true
 hd:W.hasDictIn K C=true
 po:W.plainOver K C=true
 sa:W.findIn K (.ref C) "__setattr__"=some (some (.builtin "object.__setattr__"))
def Cls.get {K:zv}{C:Addr}(c:Cls K C)(f:Str):W.plainGet K C f=true:=c.pg
def Yh (K:zv)(C:Addr)(f:Str):Prop:=W.findIn K (.ref C) f=some none
def Yh.taker {K:zv}{C:Addr}{f:Str}(n:Yh K C f):W.takerIn K C f=some none:=by
 unfold W.takerIn
 rw[show W.findIn K (.ref C) f=some none from n]
 rfl
structure zfx (K:zv) (C:Addr) (m:Str) (f:Addr):Prop where
 at_:W.findIn K (.ref C) m=some (some (.ref f))
 fn:W.isFn K (.ref f)=true
 kp:W.keepIn K (.ref f)=true
section
variable {X:Cx}{pins:xC}{σ:St}{H:Hp}{s:zn}{a C dx:Addr}{fs:List (Str × V)}{f:Str}{v:V}{A:zR}{E:yU}
def zeK {Q:yU}(I:Inv X pins σ H s)(e:H a=some (.ins C dx fs))(c:Cls X.K C)(n:Yh X.K C f)(l:fs.lookup f=some v)(h:∀ u g,Inv X pins σ H g->xi v u->Q u g):wpAny (model X.prog X.w) A (getAttr (.ref a) f b) Q E s:=by
 obtain⟨i,O,r,_,_,_⟩:=zak I.hok e
 obtain⟨u,j,d⟩:=zdr.some_of (v:=v) (o:=i f) (by rw[<-l];exact r f)
 exact zma I.kIn O (c.get f) c.hd n j (ziB d) (h u _ (I.tok _) d)
def VW {g:Addr}{pl:Sem Bool}{Q:Value × zB->Shared->Prop}(I:Inv X pins σ H s)(e:H a=some (.ins C dx fs))(c:Cls X.K C)(k:zfx X.K C m g)(l:fs.lookup m=none)(h:Q (.ref g,[.ref a]) s):wpAny (model X.prog X.w) A (getMethod (.ref a) m pl) Q E s:=by
 obtain⟨b,O,r,_,_,_⟩:=zak I.hok e
 have d:b m=none:=zdr.none_of (by rw[<-l];exact r m)
 exact zjY I.kIn O (c.get m) k.at_ k.fn d h
def zfl {Q:Unit->Shared->Prop}(I:Inv X pins σ H s)(e:H a=some (.ins C dx fs))(c:Cls X.K C)(n:Yh X.K C f)(D:fs.length<1000)(w:xi y u)(h:∀ j,Inv X pins σ (upd H a (.ins C dx (zaR f y fs))) j->Q () j):wpAny (model X.prog X.w) A (setAttr (.ref a) f u) Q E s:=by
 obtain⟨i,O,r,d,_,k⟩:=zak I.hok e
 have p:(fs.map (·.1)).length<=sizeLine:=by rw[u9,u0I];omega
 refine zm3 I.kIn O c.sa c.po n.taker c.hd d p λB O' l=>h _ ?_
 have t:∃ o,B.get? dx=some o:=let ⟨o,_,_,e',_⟩:=O'.ns;⟨o,e'⟩
 refine I.write (x:=a) (e:=dx) (by rw[e];exact True.intro) (.inr k) (λb q v z=>(l.2 b v).trans z) t ?_
 refine⟨by rw[zi O.ne];exact k,?_,O.ne,O'.obj,_,O'.ns,λg=>?_,λg m=>?_⟩
 .have:=Vg f y fs;omega
 .show zdr ((zaR f y fs).lookup g) (if g=f then some u else i g)
  rw[W1]
  by_cases q:g=f
  .rw[t7 q,t7 q];exact w
  .rw[j6 q,j6 q];exact r g
 .by_cases q:g=f
  .rw[q];exact(WQ f y fs).1
  .refine(WQ f y fs).2 g (d g λz=>m ?_)
   show(if g=f then some u else i g)=none
   rw[j6 q];exact z
def Inv.made (I:Inv X pins σ H s):Inv X pins σ (upd (upd H s.heap.objs.size (.own (s.heap.objs.size+1))) (s.heap.objs.size+1) (.ins C s.heap.objs.size []))
 { s with heap:=(s.heap.push W.emptyDict).push (W.instObj C s.heap.objs.size) }:=by
 have d:(s.heap.push W.emptyDict).get? s.heap.objs.size=some W.emptyDict:=j8 s.heap rfl
 have g:((s.heap.push W.emptyDict).push (W.instObj C s.heap.objs.size)).get? (s.heap.objs.size+1)=some (W.instObj C s.heap.objs.size):=by
  have:=j8 (s.heap.push W.emptyDict) (o:=W.instObj C s.heap.objs.size) rfl
  rwa[p6]at this
 have i:(s.heap.push W.emptyDict).Ns s.heap.objs.size (λ_=>none):=⟨W.emptyDict,#[],_,d,rfl,(λe f=>absurd f (by simp)),λ_=>rfl⟩
 have I1:=I.laid (a:=s.heap.objs.size) (o:=.own (s.heap.objs.size+1)) (h':=s.heap.push W.emptyDict) (t':=s.toks) (λb u q=>u6 _ q) (t6 _) ⟨_,d⟩
 refine I1.laid (a:=s.heap.objs.size+1) (o:=.ins C s.heap.objs.size []) (t':=s.toks) (λb u q=>u6 _ q) (Nat.le_of_eq (p6 _ _)) ?_
 have c:s.heap.objs.size≠s.heap.objs.size+1:=k6 (u1c _)
 refine⟨by rw[zi c,zl],u0b _,c,g,λ_=>none,(Heap.Ns1.of_empty i).at λo q=>u6 _ q,λ_=>True.intro,λy h=>absurd rfl h⟩
def zmS {a:zP}{w:World}{f:Str}{s:zn}(d:attributeBase e f env (eval e env)=eval e env)(h:wpAny (model a w) A (eval e env) (λo c=>wpAny (model a w) A (getAttr o f true) Q E c) E s):wpAny (model a w) A (eval (.Attribute e f b) env) Q E s :=
 Attribute_any_ h (by rw[arm_eval_Attribute,d])
end
def tFld (K:zv)(c:TE)(f:Str):TE:=fun σ H Q=>c σ H λx H1=>∃ a C d b v,x=.ref a/\H1 a=some (.ins C d b)/\Cls K C/\Yh K C f/\b.lookup f=some v/\Q v H1
def zqH (K:zv)(d e:TE)(f:Str):TS:=λD σ H=>e σ H λy H1=>d σ H1 λx H2=>∃ a C c b,x=.ref a/\H2 a=some (.ins C c b)/\Cls K C/\Yh K C f/\b.length<1000 /\
 D.nx σ (upd H2 a (.ins C c (zaR f y b)))
section
variable {X:Cx}{o e value:Expr}{f:Str}{pos pos' tpos:Pos}{ta tv:TE}
def zbT (i:PE X e ta)(k:attributeBase e f X.env (eval e X.env)=eval e X.env):PE X (.Attribute e f pos) (tFld X.K ta f):=by
 intro b s σ H Q I h
 refine zmS k (thn (i b s σ H _ I h) λu t hh9=>?_)
 obtain⟨x,H1,I1,d,a,C,m,r,v,ex,j,c,n,l,q⟩:=hh9
 subst ex
 obtain rfl:u=Value.ref a:=d
 exact zeK I1 j c n l λp o I2 g=>⟨v,H1,I2,g,q⟩
def zbL (j:PE X o ta)(m:PE X value tv)(d:swapsWith value (some (.Attribute o f pos')) pos.line X.env=pure false):PS X (.Assign [.Attribute o f pos'] value pos) (zqH X.K ta tv f):=by
 intro b s σ H D I h
 refine u1H (thn (m b s σ H _ I h) λu p ⟨y,H1,I1,r,q⟩=>thn (j b p σ H1 _ I1 q) λi z hh9=>?_) d
 obtain⟨x,H2,I2,e,a,C,t,w,ex,k,c,n,l,g⟩:=hh9
 subst ex
 obtain rfl:i=Value.ref a:=e
 exact zfl I2 k c n l r λv I3=>⟨σ,_,I3,g⟩
end
section
variable {X:Cx}{pins:xC}{σ:St}{H:Hp}{s:zn}{A:zR}{E:yU}{Q:yU}{c:Value}{b:Bool}
inductive zeg (K:zv) (H:Hp):V->Value->Prop where
 | non:zeg K H .non (.type "NoneType")
 | bl (x:Bool):zeg K H (.bl x) (.type "bool")
 | int (i:Int):zeg K H (.int i) (.type "int")
 | str (x:Str):zeg K H (.str x) (.type "str")
 | flt (x:UInt64):zeg K H (.flt x) (.type "float")
 | lst {a:Addr} {xs:zx} (e:H a=some (.lst xs)):zeg K H (.ref a) (.type "list")
 | frz {a:Addr} {o:Obj} {xs:zx} (e:H a=some (.frz o (.lst xs))):zeg K H (.ref a) (.type "list")
 | tup {a:Addr} {xs:zx} (e:H a=some (.tup xs)):zeg K H (.ref a) (.type "tuple")
 | dK {a:Addr} {kvs:List (Key × V)} (e:H a=some (.dK kvs)):zeg K H (.ref a) (.type "dict")
 | dT {a:Addr} {kvs:zaa} (e:H a=some (.dT kvs)):zeg K H (.ref a) (.type "dict")
 | ins {a C dx:Addr} {fs:List (Str × V)} (e:H a=some (.ins C dx fs)) (cl:Cls K C) (ha:W.findIn K (.ref C) "__class__"=some (some (.builtin "object.__class__")))
  (hn:W.specialIn K (.builtin "object.__class__") "__get__"=some (some (.builtin "getset_descriptor.__get__"))) (htk:W.takesIn K (.builtin "object.__class__")=some true)
  (hm:W.mroIn K C (.type "object")=some true):zeg K H (.ref a) (.ref C)
def zfV {t:Value}(I:Inv X pins σ H s)(d:xi x u)(ty:zeg X.K H x t)(e:W.kitOne X.K t c=some b)(h:∀ F,Q (.bool b) { s with toks:=F }) :
 wpAny (model X.prog X.w) A (call (.builtin "isinstance") [u,c]) Q E s:=by
 cases ty with
 | non=>cases (show u=Value.none from d);exact l0 W.kitx_none I.kIn True.intro e (λz=>nomatch z) h
 | bl y=>cases (show u=Value.bool y from d);exact l0 W.kitx_bool I.kIn True.intro e (λz=>nomatch z) h
 | int i=>obtain⟨t,q⟩:=(show ∃ t,u=Value.int i t from d);cases q;exact l0 W.kitx_int I.kIn True.intro e (λz=>nomatch z) h
 | str y=>obtain⟨t,q⟩:=(show ∃ t,u=Value.str y t from d);cases q;exact l0 W.kitx_str I.kIn True.intro e (λz=>nomatch z) h
 | flt y=>obtain⟨t,q⟩:=(show ∃ t,u=Value.float y t from d);cases q;exact l0 W.kitx_float I.kIn True.intro e (λz=>nomatch z) h
 | @lst a k f =>
  cases (show u=Value.ref a from d)
  obtain⟨_,_,n,_,g⟩:=(show yT X.prog X.w H s.heap a (.lst k)from I.hok a _ f)
  exact l0 W.kitx_list I.kIn ⟨_,g,rfl⟩ e (λz=>nomatch z) h
 | @frz a D k f =>
  cases (show u=Value.ref a from d)
  obtain⟨_,_,_,n,_,g⟩:=(show yT X.prog X.w H s.heap a (.frz D (.lst k))from I.hok a _ f)
  exact l0 W.kitx_list I.kIn ⟨_,g,rfl⟩ e (λz=>nomatch z) h
 | @tup a k f =>
  cases (show u=Value.ref a from d)
  obtain⟨_,_,_,p⟩:=(show yT X.prog X.w H s.heap a (.tup k)from I.hok a _ f)
  obtain⟨o,g,l,_⟩:=p
  exact l0 W.kitx_tuple I.kIn ⟨o,g,l⟩ e (λz=>nomatch z) h
 | @dK a j f =>
  cases (show u=Value.ref a from d)
  obtain⟨_,_,M,_,p⟩:=(show yT X.prog X.w H s.heap a (.dK j)from I.hok a _ f)
  obtain⟨o,B,v,g,l,_⟩:=p
  exact l0 u1F I.kIn ⟨o,g,l.1⟩ e (λz=>nomatch z) h
 | @dT a j f =>
  cases (show u=Value.ref a from d)
  obtain⟨_,_,k,_,o,B,v,g,l,_⟩:=(show yT X.prog X.w H s.heap a (.dT j)from I.hok a _ f)
  exact l0 u1F I.kIn ⟨o,g,l.1⟩ e (λz=>nomatch z) h
 | @ins a C P N f r G K m w =>
  cases (show u=Value.ref a from d)
  obtain⟨R,O,_⟩:=zak I.hok f
  obtain⟨L,J,_⟩:=O.look
  exact l0 (W.kitx_own (r.get _) r.hd G K m w) I.kIn J e (λz=>nomatch z) h
end
structure xk (k:Nat) (A:zR):Prop where
 hd:A.handled=none
 dp:A.depth+3*k+5<recursionLimit
 un:A.units+16*k+200<cLine
def xk.mono {j k:Nat}(r:xk k A)(h:j<=k):xk j A:=⟨r.hd,by have:=r.dp;omega,by have:=r.un;omega⟩
def xk.deeper {k:Nat}{A:zR}(r:xk (k+1) A)(env:Env):xk k (A.deeper env) :=
 ⟨r.hd,by have:=r.dp;show A.depth+1+3*k+5<_;omega,by have:=r.un;show A.units+3+16*k+200<_;omega⟩
def zfn {A:zR}:(A.under (.builtin "type.__call__" ⟨.ref C::b,a⟩)).depth=A.depth+1:=by
 first | rfl | simp[Around.under,Code.weight,Code.isCreation,Code.isGuard,Code.isCaller,Code.frames,Code.isFrame,guardIds]
def ze0 {A:zR}:(A.under (.builtin "type.__call__" ⟨.ref C::b,a⟩)).units=A.units+1:=by
 first | rfl | simp[Around.under,Code.cUnits,Code.frames,Code.isFrame]
def xk.make {k:Nat} {A:zR} (r:xk (k+1) A) (C:Addr) (a:zB) (b:List (Str × Value)):xk k (A.under (.builtin "type.__call__" ⟨.ref C::a,b⟩)) :=
 ⟨r.hd,by have:=r.dp;rw[zfn];omega,by have:=r.un;rw[ze0];omega⟩
def xk.depth {k:Nat}{A:zR}(r:xk k A):A.depth<recursionLimit:=by have:=r.dp;omega
def xk.units {k:Nat}{A:zR}(r:xk k A):A.units+64<cLine:=by have:=r.un;omega
def xk.units0 {k:Nat}{A:zR}(r:xk k A):A.units<cLine:=by have:=r.un;omega
def zhl:TA:=λ_ H Q=>Q [] H
def WJ (b:TE)(a:TA):TA:=fun σ H Q=>b σ H λx H1=>a σ H1 λc H2=>Q (x::c) H2
section
variable {X:Cx}{e:Expr}{es:y9}{te:TE}{t:TA}{pos:Pos}
def yF:PA X [] zhl:=λ_ _ _ _ H Q I h=>Calls.spliced_nil ⟨[],H,I,.nil,h⟩
def zu (j:PE X e te)(g:PA X es t)(b:starEach (e::es) X.env=(false,eval e X.env)::starEach es X.env:=by rfl):PA X (e::es) (WJ te t):=by
 intro pos a s σ H Q I h
 rw[b]
 show wpAny _ _ (spliced ((false,eval e X.env)::backTo pos (starEach es X.env))) _ _ s
 refine u2n (thn (j a s σ H _ I h) λu k hh9=>?_)
 obtain⟨x,H1,I1,d,i⟩:=hh9
 exact thn (g pos a k σ H1 _ I1 i) λm n ⟨l,H2,I2,f,c⟩=>⟨x::l,H2,I2,.cons d f,c⟩
def tTup (t:TA):TE:=fun σ H Q=>t σ H λa H1=>a.length<=sizeLine/\∀ p,H1 p=none->Q (.ref p) (upd H1 p (.tup a))
def zru (t:TA):TE:=fun σ H Q=>t σ H λa H1=>a.length<=sizeLine/\∀ p,H1 p=none->Q (.ref p) (upd H1 p (.lst a))
def zdQ {x1}(h:PA X es t):PE X (.Tuple es x1 pos) (tTup t):=by
 intro a s σ H Q I f
 refine wpAny_Tuple_spliced (thn (h pos a s σ H _ I f) λg c ⟨i,H1,I1,r,z,q⟩=>⟨by rw[<-r.length];exact z,?_⟩)
 have d:H1 c.heap.objs.size=none:=I1.hok.fresh (t6 _)
 refine⟨.ref c.heap.objs.size,upd H1 c.heap.objs.size (.tup i),I1.laid (t':=c.toks) (λb u e=>u6 _ e) (t6 _) ?_,rfl,q _ d⟩
 exact⟨z,g,r,⟨_,j8 _ rfl,rfl,_,rfl⟩⟩
def zb4 (h:PA X es t):PE X (.List es pos) (zru t):=by
 intro a s σ H Q I f
 refine wpAny_List_spliced (thn (h pos a s σ H _ I f) λg c ⟨i,H1,I1,r,z,q⟩=>⟨by rw[<-r.length];exact z,?_⟩)
 have d:H1 c.heap.objs.size=none:=I1.hok.fresh (t6 _)
 refine⟨.ref c.heap.objs.size,upd H1 c.heap.objs.size (.lst i),I1.laid (t':=c.toks) (λb u e=>u6 _ e) (t6 _) ?_,rfl,q _ d⟩
 exact⟨z,g,0,r,j8 _ rfl⟩
end
abbrev Sp:=zx->Hp->VK->XK->Prop
abbrev CXT:=List Env->Hp->Shared->XK->Value->Shared->Prop
structure zkC (P:zP) (w:World) (K:zv) (mg:wn) (base:Heap) (A:zR) (outer:List Env) (s:zn) (H:Hp):Prop where
 frames:A.frames=some outer
 mod:Mod K mg base
 bs:∀ b o,base.get? b=some o->s.heap.get? b=some o/\H b=none
 bsz:base.objs.size<=s.heap.objs.size
 funs:s.heap.FunFrames base outer
 frf:∀ b∈frs outer,H b=none
 hok:HOk P w H s.heap
 bare:AllBare s.gens
def CE (outer:List Env)(P:zP)(w:World)(H:Hp)(s:zn)(Q:VK)(u:Value)(a:zn):Prop :=
 ∃ v H',a.os=s.os/\AllBare a.gens/\Un (frs outer) [] H H' s.heap a.heap/\HOk P w H' a.heap/\xi v u/\Q v H'
def CR (CX:CXT)(outer:List Env)(P:zP)(w:World)(H:Hp)(s:zn)(Q:VK)(E:XK)(r:Result)(a:zn):Prop :=
 match r with
 | .ok (.ret u)=>CE outer P w H s Q u a
 | .ok _=>False
 | .error e=>CX outer H s E e a
structure xB (P:zP) (w:World) (K:zv) (mg:wn) (base:Heap) (CX:CXT) (k:Nat) (f:Addr) (fd:wh) (ps:zH) (sp:Sp):Prop where
 len:∀ vs H Q E,sp vs H Q E->vs.length=ps.length
 run:∀ (A:zR) (outer:List Env) (s:zn) (H:Hp) (args:Args) (us:zB) (vs:zx) (Q:VK) (E:XK),xk k A->zkC P w K mg base A outer s H->BindsTo s fd args (ps.zip us)->yw vs us->sp vs H Q E ->
  codeAny (model P w) A (.call (.ref f) args) (CR CX outer P w H s Q E) s
def xB.mono {P:zP}{w:World}{K:zv}{d:wn}{a:Heap}{CX:CXT}{j k:Nat}{f:Addr}{b:wh}{ps:zH}{c:Sp}(F:xB P w K d a CX j f b ps c)(h:j<=k) :
 xB P w K d a CX k f b ps c:=⟨F.len,λA outer s H args i e Q E g=>F.run A outer s H args i e Q E (g.mono h)⟩
def xB.imp {P:zP}{w:World}{K:zv}{i:wn}{a:Heap}{CX:CXT}{k:Nat}{f:Addr}{e:wh}{d:zH}{g c:Sp}(F:xB P w K i a CX k f e d g)
 (h:∀ b H Q E,c b H Q E->g b H Q E):xB P w K i a CX k f e d c :=
 ⟨λb H Q E q=>F.len b H Q E (h _ _ _ _ q),λA outer s H args l b Q E j n o p m=>F.run A outer s H args l b Q E j n o p (h _ _ _ _ m)⟩
def zkC.make {P:zP}{w:World}{K:zv}{b:wn}{a:Heap}{A:zR}{outer:List Env}{s:zn}{H:Hp}(e:zkC P w K b a A outer s H)(C:Addr)(c:zB)(d:List (Str × Value)) :
 zkC P w K b a (A.under (.builtin "type.__call__" ⟨.ref C::c,d⟩)) outer s H:=⟨by first | exact e.frames | (simpa [Around.under,Code.envs,Code.isFrame,pushEnvs]using e.frames),e.mod,e.bs,e.bsz,e.funs,e.frf,e.hok,e.bare⟩
section
variable {X:Cx}{pins:xC}{σ:St}{H:Hp}{s s':zn}
def Inv.env0 (I:Inv X pins σ H s):zkC X.prog X.w X.K X.mg X.base X.A X.stack s H :=
 ⟨I.ok.frames,I.ok.mod,I.bs,r0 I.ok.bsz I.sz,I.stack,I.stkFree,I.hok,I.bare⟩
def Inv.after (I:Inv X pins σ H s)(h:CE X.stack X.prog X.w H s Q u s'):EP X pins σ Q u s':=by
 obtain⟨v,H',os,a,f,c,r,q⟩:=h
 obtain⟨i,g,d,t,e⟩:=s'
 obtain rfl:e=s.os:=os
 exact⟨v,H',I.call (h':=i) (g':=g) (d':=d) (t':=t) (ch:=[]) f c a (λb z=>absurd z (by simp)),r,q⟩
end
def zl2 (b:Sp)(a:zx)(E:XK)(t:TA):TE:=fun σ H Q=>t σ H λc H1=>b (c++a) H1 Q E
def znI (C:Addr)(m:Str)(e:Sp)(b:zx)(E:XK)(g:TE)(t:TA):TE:=fun σ H Q=>g σ H λx H1=>∃ a d c,x=.ref a/\H1 a=some (.ins C d c)/\c.lookup m=none /\
 t σ H1 λf H2=>e (x::(f++b)) H2 Q E
def zq3 (C:Addr)(c:Sp)(b:zx)(E:XK)(t:TA):TE:=fun σ H Q=>t σ H λd H1=>∀ x a,H1 x=none->H1 a=none->a≠x ->
 c (.ref x::(d++b)) (upd (upd H1 a (.own x)) x (.ins C a [])) (λv H2=>v=.non/\Q (.ref x) H2) E
def xG (K:zv)(d:wh)(b:zH)(c:zB):Prop :=
 ∀ (s:zn) (a:zB),K.In s.heap->(a++c).length=b.length->BindsTo s d ⟨a,[]⟩ (b.zip (a++c))
def xG.all {K:zv}{c:wh}{b:zH}(h:∀ a:zB,a.length=b.length->bindArgs c ⟨a,[]⟩=pure (b.zip a)):xG K c b []:=λs a _ d=>by
 rw[r8]at d ⊢
 exact .of_eq (h a d)
def wK (CX:CXT)(X:Cx)(E:XK):Prop:=∀ (a:xC) (σ:St) (H:Hp) (s:zn) (e:Value) (b:zn),Inv X a σ H s->CX X.stack H s E e b->X.xe e b
section
variable {X:Cx}{CX:CXT}{k:Nat}{f C:Addr}{fd:wh}{ps:zH}{sp:Sp}{dvs:zx}{ds:zB}{E:XK}{x m:Str}{p pos apos:Pos}{e o:Expr}{es:y9}{ta:TE}{t:TA}
def zhb (F:xB X.prog X.w X.K X.mg X.base CX k f fd ps sp)(i:xk k X.A)(m:xG X.K fd ps ds)(l:yw dvs ds)(g:wK CX X E)(I:Inv X a σ H s)(r:yw vs us)(h:sp (vs++dvs) H Q E):wpAny (model X.prog X.w) X.A (call (.ref f) us) (EP X a σ Q) X.xe s:=by
 have c:yw (vs++dvs) (us++ds):=r.append l
 have n:(us++ds).length=ps.length:=by rw[<-c.length];exact F.len _ _ _ _ h
 refine u1I (u1l (F.run X.A X.stack s H ⟨us,[]⟩ (us++ds) (vs++dvs) Q E i I.env0 (m s us I.kIn n) c h) λr d b=>?_)
 cases r with
 | error e=>exact g a σ H s e d I b
 | ok j =>
  cases j with
  | ret u=>exact I.after b
  | next=>exact False.elim b
  | brk=>exact False.elim b
  | cont=>exact False.elim b
def zah (F:xB X.prog X.w X.K X.mg X.base CX k f fd ps sp)(j:xk k X.A)(i:Gl X x)(d:X.mg x=some (.ref f))(u:W.keepIn X.K (.ref f)=true)(o:xG X.K fd ps ds)(n:yw dvs ds)(g:wK CX X E)
 (m:PA X (e::es) t) (c:(x == ("__debug__":Str))=false:=by decide) (l:starEach (e::es) X.env=(false,eval e X.env)::starEach es X.env:=by rfl) (b:(backTo pos (starEach es X.env)).any (·.1)=false:=by rfl) :
 PE X (.Call (.Name x p) (e::es) [] pos) (zl2 sp dvs E t):=by
 intro a s σ H Q I h
 refine u0G (vC I i d ?_ c)
 refine u1w (h₀:=X.base) I.ok.mod.kin u (thn (m pos a s σ H _ I h) λw y ⟨v,H1,I1,r,q⟩=>⟨I1.kIn,?_⟩) l b
 exact zhb F j o n g I1 r q
theorem V8 {pl:Sem Bool}(D:PE X o ta)(c:Cls X.K C)(i:zfx X.K C m f)(F:xB X.prog X.w X.K X.mg X.base CX k f fd ps sp)(y:xk k X.A)(J:xG X.K fd ps ds)(z:yw dvs ds)(w:wK CX X E)(G:PA X (e::es) t)
 (g:starEach (e::es) X.env=(false,eval e X.env)::starEach es X.env:=by rfl) (d:(backTo pos (starEach es X.env)).any (·.1)=false:=by rfl)
 (p:eval (.Call (.Attribute o m apos) (e::es) [] pos) X.env=(do
  let ov<-eval o X.env
  standAt apos.atName
  let (f,first)<-holding [ov] (getMethod ov m pl)
  callWith pos f first (backTo pos (starEach (e::es) X.env)) (backToKw pos (keywordEach [] X.env))):=by rfl) :
 PE X (.Call (.Attribute o m apos) (e::es) [] pos) (znI C m sp dvs E ta t):=by
 intro b s σ H Q I h
 refine W.methodCall_KW (pl:=pl) (thn (D b s σ H _ I h) λu A hh9=>?_) p
 obtain⟨x,H1,I1,B,a,N,L,ex,K,l,q⟩:=hh9
 subst ex
 obtain rfl:u=Value.ref a:=B
 refine VW I1 K c i l ?_
 refine u1w (first:=[.ref a]) (h₀:=X.base) I.ok.mod.kin i.kp (thn (G pos b A σ H1 _ I1 q) λn M ⟨j,H2,I2,r,v⟩=>⟨I2.kIn,?_⟩) g d
 exact zhb (us:=.ref a::n) (vs:=.ref a::j) F y J z w I2 (.cons rfl r) v
theorem zdZ {pl:Sem Bool}(n:PE X o ta)(c:Cls X.K C)(d:zfx X.K C m f)(F:xB X.prog X.w X.K X.mg X.base CX k f fd ps sp)(j:xk k X.A)(t:xG X.K fd ps ds)(r:yw dvs ds)(i:wK CX X E)
 (g:eval (.Call (.Attribute o m apos) [] [] pos) X.env=(do
  let ov<-eval o X.env
  standAt apos.atName
  let (f,first)<-holding [ov] (getMethod ov m pl)
  callWith pos f first (backTo pos (starEach [] X.env)) (backToKw pos (keywordEach [] X.env))):=by rfl) :
 PE X (.Call (.Attribute o m apos) [] [] pos) (znI C m sp dvs E ta zhl):=by
 intro b s σ H Q I h
 refine W.methodCall_KW (pl:=pl) (thn (n b s σ H _ I h) λu y hh9=>?_) g
 obtain⟨x,H1,I1,e,a,v,w,ex,p,l,q⟩:=hh9
 subst ex
 obtain rfl:u=Value.ref a:=e
 refine VW I1 p c d l ?_
 exact W.callWith_K0 (first:=[.ref a]) I1.kIn d.kp (zhb (us:=[.ref a]) (vs:=[.ref a]) F j t r i I1 (.cons rfl .nil) q)
structure Mk (K:zv) (C f:Addr):Prop where
 makes:W.makesIn K C=true
 init:W.findIn K (.ref C) "__init__"=some (some (.ref f))
 fn:W.isFn K (.ref f)=true
 kp:W.keepIn K (.ref C)=true
def ziX {H:Hp}{Q:VK}{d:zx}(M:Mk X.K C f)(F:xB X.prog X.w X.K X.mg X.base CX k f fd ps sp)(m:xk (k+1) X.A)(q:xG X.K fd ps ds)(p:yw dvs ds)(l:wK CX X E)(I:Inv X a σ H s)(r:yw d us)(h:∀ x c,H x=none->H c=none->c≠x->sp (.ref x::(d++dvs)) (upd (upd H c (.own x)) x (.ins C c [])) (λv H2=>v=.non/\Q (.ref x) H2) E) :
 wpAny (model X.prog X.w) X.A (call (.ref C) us) (EP X a σ Q) X.xe s:=by
 have i:=h (s.heap.objs.size+1) s.heap.objs.size (I.hok.fresh (u1g _)) (I.hok.fresh (t6 _)) (k6 (u1c _))
 have I2:=Inv.made (C:=C) I
 have g:yw (V.ref (s.heap.objs.size+1)::(d++dvs)) (Value.ref (s.heap.objs.size+1)::(us++ds)):=.cons rfl (r.append p)
 have w:(Value.ref (s.heap.objs.size+1)::us++ds).length=ps.length:=by
  have e:=g.length
  rw[F.len _ _ _ _ i]at e
  exact e.symm
 refine u1I (zko (f:=f) I.kIn M.makes M.init (u0k.mp M.fn) (u1l (F.run _ X.stack _ _ ⟨Value.ref (s.heap.objs.size+1)::us,[]⟩ (Value.ref (s.heap.objs.size+1)::(us++ds)) _ _ E (m.make C us [])
  (I2.env0.make C us []) (q _ (Value.ref (s.heap.objs.size+1)::us) I2.kIn w) g i) λr j b=>?_))
 cases r with
 | error e=>exact l a σ _ _ e j I2 b
 | ok o =>
  cases o with
  | ret u =>
   obtain⟨v,H',I3,y,t,n⟩:=I2.after b
   subst t
   exact⟨y,⟨V.ref (s.heap.objs.size+1),H',I3,rfl,n⟩⟩
  | next=>exact False.elim b
  | brk=>exact False.elim b
  | cont=>exact False.elim b
def zjJ (M:Mk X.K C f)(F:xB X.prog X.w X.K X.mg X.base CX k f fd ps sp)(j:xk (k+1) X.A)(i:Gl X x)(c:X.mg x=some (.ref C))(e:xG X.K fd ps ds)(d:yw dvs ds)(g:wK CX X E)
 (a:(x == ("__debug__":Str))=false:=by decide):PE X (.Call (.Name x p) [] [] pos) (zq3 C sp dvs E zhl):=by
 intro b s σ H Q I h
 refine u0G (vC I i c ?_ a)
 exact W.callWith_K0 I.kIn M.kp (ziX (us:=[]) M F j e d g I .nil h)
end
structure yz (N P:zH) (sc:Scope):Prop where
 kind:sc.kind=.function
 co:sc.isCoroutine=false
 gen:sc.isGenerator=false
 nd:N.Nodup
 pre:N.take P.length=P
 par:∀ x∈P,sc.names.lookup x=some .local\/sc.names.lookup x=some .cell
 nofree:∀ y∈sc.names,y.2≠.free
def zcu:∀ {a:List (Str × Value)} {m:wn},(∀ v,(x,v)∉a)->bindL b a m x=m x
 | [],_,_=>rfl
 | (n,v)::r,m,h=>by
  unfold bindL
  rw[zcu λw hw=>h w (r4 _ hw)]
  split
  .have:x≠n:=by rintro rfl;exact h v f8
   simp[this]
  .rfl
def zbo:∀ {a:List (Str × Value)} {m:wn},(∀ v,(x,v)∉a)->bindC b a m x=m x
 | [],_,_=>rfl
 | (n,v)::r,m,h=>by
  unfold bindC
  rw[zbo λw hw=>h w (r4 _ hw)]
  split
  .rfl
  .have:x≠n:=by rintro rfl;exact h v f8
   simp[this]
def zcd {a:Str->Option NameKind}:∀ {P:zH} {b:zB} {i:Nat} {m:wn},P.Nodup->P[i]?=some x->b[i]?=some v->a x=some .local ->
 bindL a (P.zip b) m x=some v
 | [],_,_,_,_,h,_,_=>by simp at h
 | _::_,[],_,_,_,_,h,_=>by simp at h
 | p::P,w::b,0,m,nd,h1,h2,hk=>by
  simp at h1 h2;subst h1;subst h2
  show bindL a ((p,w)::P.zip b) m p=_
  unfold bindL
  rw[zcu λv c=>(u0B.mp nd).1 (u1r c).1,t7 hk]
  simp
 | p::P,w::b,i+1,m,nd,h1,h2,hk=>by
  show bindL a ((p,w)::P.zip b) m x=_
  unfold bindL
  exact zcd (i:=i) (u0B.mp nd).2 (by simpa using h1) (by simpa using h2) hk
def zco {a:Str->Option NameKind}:∀ {P:zH} {b:zB} {i:Nat} {m:wn},P.Nodup->P[i]?=some x->b[i]?=some v->a x≠some .local ->
 bindC a (P.zip b) m x=some v
 | [],_,_,_,_,h,_,_=>by simp at h
 | _::_,[],_,_,_,_,h,_=>by simp at h
 | p::P,w::b,0,m,nd,h1,h2,hk=>by
  simp at h1 h2;subst h1;subst h2
  show bindC a ((p,w)::P.zip b) m p=_
  unfold bindC
  rw[zbo λv c=>(u0B.mp nd).1 (u1r c).1,j6 hk]
  simp
 | p::P,w::b,i+1,m,nd,h1,h2,hk=>by
  show bindC a ((p,w)::P.zip b) m x=_
  unfold bindC
  exact zco (i:=i) (u0B.mp nd).2 (by simpa using h1) (by simpa using h2) hk
def start (N:zH)(a:zx):St:=a.map some++List.replicate (N.length-a.length) none
def wZ (CX:CXT)(P:zP)(w:World)(K:zv)(mg:wn)(base:Heap)(N:zH)(qual:Str)(scope:Scope)(f:Addr)(cd:Value)(A:zR)(outer:List Env)(s:zn)(H:Hp)(E:XK):Cx where
 prog:=P
 w:=w
 K:=K
 mg:=mg
 base:=base
 A:=A.deeper (envOfC qual scope s.heap.objs.size f cd)
 N:=N
 s₀:=s
 H₀:=H
 env:=envOfC qual scope s.heap.objs.size f cd
 outer:=outer
 stack:=envOfC qual scope s.heap.objs.size f cd::outer
 ex:=[]
 calm:=true
 fn:=λ_=>true
 pn:=[]
 xe:=λe s'=>wpAny (model P w) (A.deeper (envOfC qual scope s.heap.objs.size f cd)) (leaving (envOfC qual scope s.heap.objs.size f cd) e) (λ_ s''=>CX outer H s E e s'') (λe' s''=>CX outer H s E e' s'') s'
def zeq {sc:Scope}(h:sc.names.lookup x=some .cell):∃ c,(cellsFrom n sc.names []).lookup x=some c:=by
 have q:=u0X sc.names n [] (.inl h)
 exact u2K.mp q
def Ww {CX:CXT}{P:zP}{w:World}{K:zv}{L:wn}{l:Heap}{N o:zH}{g:Str}{d:Scope}{f:Addr}{J:Value}{A:zR}{outer:List Env}{s R:zn}{H:Hp}{E:XK}{M:zB}{B:zx}
 (S:yz N o d) (T:A.handled=none) (m:zkC P w K L l A outer s H) (Y:B.length=o.length) (r:yw B M)
 (x:InCallC s s.heap.objs.size (bindL (envOfC g d s.heap.objs.size f J).kindOf (o.zip M) λ_=>none) (cellsFrom (s.heap.objs.size+1) d.names []) (bindC (envOfC g d s.heap.objs.size f J).kindOf (o.zip M) λ_=>none) R) :
 Inv (wZ CX P w K L l N g d f J A outer s H E) [] (start N B) H R:=by
 have W:o.length<=N.length:=by have:=u0x List.length S.pre;rw[u0v]at this;omega
 obtain⟨I,Z,rfl,O⟩:=x.done
 have C:∀ b:Addr,b∉(wZ CX P w K L l N g d f J A outer s H E).ex:=λb z=>absurd (show b∈([]:xS)from z) (by simp)
 refine⟨⟨m.mod,S.kind,rfl,rfl,t6 _,λy z c I j=>?_,λy t=>?_,λy c _ h=>?_,λ_=>T,Around.frames_deeper m.frames,.inr ⟨rfl,rfl⟩,λb z=>absurd z (C b),m.bs,m.bsz,λb _ _=>C b,λb z=>absurd z (C b),m.funs,m.frf⟩,
  rfl,m.bare,Un.kept O,⟨_,x.toInCall.ns,λi y v I j h3=>?_⟩,λy c h=>⟨_,x.cell y c h⟩,m.hok.fresh (t6 _),λy c h=>?_,λp F=>absurd (show p∈([]:xC)from F) (by simp),m.hok.kept O,?_⟩
 .exact name_of_addr x.apart (u0c I) (u0c j)
 .have t:d.names.lookup y=some .cell\/d.names.lookup y=some .free:=t
  rcases t with t | t
  .exact zeq t
  .exact absurd rfl (S.nofree _ (u0c t))
 .exact i4 (x.above y c (u0c h))
 .have G:i<B.length:=by
   unfold start at j
   by_cases G:i<B.length
   .exact G
   .rw[o7 (by simpa using G)]at j
    rw[u0f]at j
    split at j <;> cases j
  have X:B[i]?=some v:=by
   unfold start at j
   rw[o9 (by simpa using G),k9]at j
   cases e:B[i]? with
   | none=>rw[e]at j;cases j
   | some a=>rw[e]at j;cases j;rfl
  obtain⟨u,Q,U⟩:=r.get X
  have F:o[i]?=some y:=by
   rw[<-S.pre,List.getElem?_take_of_lt (by omega)];exact I
  have D:o.Nodup:=by rw[<-S.pre];exact S.nd.sublist (List.take_sublist _ _)
  refine⟨u,U,?_⟩
  rcases S.par y (o8 F)with k | k
  .exact .inl ⟨k,zcd D F Q k⟩
  .obtain⟨c,e⟩:=zeq (n:=s.heap.objs.size+1) k
   refine .inr ⟨.inl k,c,e,?_⟩
   have q:=x.cell y c e
   rw[zco D F Q (by show d.names.lookup y≠_;rw[k];decide)]at q
   exact q
 .exact m.hok.fresh (i4 (x.above y c (u0c h)))
 .unfold start
  show _=N.length
  rw[j4,u9,List.length_replicate]
  omega
def zpY {w:World}{K:zv}{g:Heap}{k:Nat}{f:Addr}{kV d:Value}{N L:zH}{W:Sp}(lk:K.lookup f=some ⟨oc,od,.func (PySem.W.fnOf l c h i a dV kV B Z an d ct),R⟩)(U:PySem.W.codeIn K d c=true)(S:yz N L a)(C:∀ j H Q E,W j H Q E->j.length=L.length) (p:∀ (A:zR) (outer:List Env) (s:zn) (H:Hp) (j:zx) (Q:VK) (E:XK),xk k (A.deeper (envOfC c a s.heap.objs.size f d))->W j H Q E ->
 ∃ t,PSs (wZ CX P w K M g N c a f d A outer s H E) i t/\t { nx:=λ_ H'=>Q .non H',rt:=Q } (start N j) H) :
 xB P w K M g CX (k+1) f (PySem.W.fnOf l c h i a dV kV B Z an d ct) L W:=by
 refine⟨C,λA outer s H args us j Q E O D hb r F=>?_⟩
 have hl:=C _ _ _ _ F
 have KX:K.In s.heap:=D.mod.kin.keeps λb o e=>(D.bs b o e).1
 have lim:s.heap.NoLimit:=D.mod.nolimit.keeps λb o e=>(D.bs b o e).1
 have m:∀ y∈L.zip us,a.names.lookup y.1=some .local\/(a.names.lookup y.1=some .cell/\((cellsFrom (s.heap.objs.size+1) a.names []).lookup y.1).isSome=true):=λ⟨n,v⟩ hy=>by
  rcases S.par n (u1r hy).1 with q | q
  .exact .inl q
  .exact .inr ⟨q,u0X _ _ _ (.inl q)⟩
 refine u1R O.depth (KX _ _ lk) rfl S.co S.gen rfl (u2w KX U) (hb _ _ _ _ ?_)
 refine wpAny_newFunctionEnv_cells S.kind m λenv he Y x=>?_
 subst he
 refine⟨lim.keeps x.toInCall.keep,codeAny_func ?_⟩
 obtain⟨t,ht,hq⟩:=p A outer s H j Q E (O.deeper _) F
 have I:Inv (wZ CX P w K M g N c a f d A outer s H E) [] (start N j) H Y:=Ww S O.hd D hl r x
 refine g6 (ht [] Y (start N j) H _ I hq) (λfl X z=>?_) λe X z=>z
 have fin:∀ {G:St} {H':Hp} {v:V} {u:Value},Inv (wZ CX P w K M g N c a f d A outer s H E) [] G H' X->xi v u->Q v H'->CE outer P w H s Q u X :=
  λ{G H' v u} J T q=>⟨v,H',J.os,J.bare,J.base,J.hok,T,q⟩
 cases fl with
 | ret u =>
  obtain⟨v,G,H',J,T,q⟩:=z
  exact fin J T q
 | next =>
  obtain⟨G,H',J,q⟩:=z
  exact fin (v:=V.non) (u:=Value.none) J rfl q
 | brk =>
  obtain⟨_,_,_,q⟩:=z
  exact False.elim q
 | cont =>
  obtain⟨_,_,_,q⟩:=z
  exact False.elim q
section
variable {X:Cx}{x:Str}{p pos:Pos}{e:Expr}{es:y9}{t:TA}{id T:String}{r:zfr}
def tCB (r:zfr)(t:TA):TE:=fun σ H Q=>t σ H λa H1=>r a H1 Q
def yD (f:v5 X (.builtin id) r) (j:Gl X x) (d:X.mg x=none) (o:bootBuiltins x=some (.builtin id)) (n:PA X (e::es) t) (u:x≠"__name__":=by decide) (c:(x == ("__debug__":Str))=false:=by decide)
 (l:starEach (e::es) X.env=(false,eval e X.env)::starEach es X.env:=by rfl) (b:(backTo pos (starEach es X.env)).any (·.1)=false:=by rfl):PE X (.Call (.Name x p) (e::es) [] pos) (tCB r t):=by
 intro a s σ H Q I h
 refine u0G (WN I j d o ?_ u c)
 exact PyProof.Rows.callWith_builtin1 (thn (n pos a s σ H _ I h) λm q ⟨i,H1,I1,g,k⟩=>f a q σ H1 i m Q I1 g k) l b
def zbt (f:v5 X (.type T) r) (j:Gl X x) (d:X.mg x=none) (o:bootBuiltins x=some (.type T)) (n:PA X (e::es) t) (u:x≠"__name__":=by decide) (c:(x == ("__debug__":Str))=false:=by decide)
 (l:starEach (e::es) X.env=(false,eval e X.env)::starEach es X.env:=by rfl) (b:(backTo pos (starEach es X.env)).any (·.1)=false:=by rfl):PE X (.Call (.Name x p) (e::es) [] pos) (tCB r t):=by
 intro a s σ H Q I h
 refine u0G (WN I j d o ?_ u c)
 exact u0i (thn (n pos a s σ H _ I h) λm q ⟨i,H1,I1,g,k⟩=>f a q σ H1 i m Q I1 g k) l b
end
end L2
namespace HT
open PySem PyProof.Rows
def lexLt:zC->zC->Bool
 | [],[]=>false
 | [],_::_=>true
 | _::_,[]=>false
 | x::xs,y::ys=>if x=y then lexLt xs ys else decide (x<y)
def lexLt_cons (x y:Int)(b a:zC):lexLt (x::b) (y::a)=if x=y then lexLt b a else decide (x<y):=rfl
def zj2 (A:zR)(s:zn)(a:Int)(t:Tok)(c:Int)(u:Tok):∃ e,SeqAt.EqAt A s (.int a t) (.int c u) e/\(e=true↔a=c) :=
 ⟨(a == c),u2z a t c u,by simp⟩
section
variable {prog:zP}{w:World}{A:zR}{E:yU}{s:zn}
def cat_tup {t:Addr} {d a:zB} {Q:yU} (x:IsTup s.heap t d.toArray) (B:IsTup s.heap b a.toArray) (v:d≠[]) (y:a=[]->Q (.ref t) s) (z:a≠[]->Q (.ref s.heap.objs.size) { s with heap:=s.heap.push { cls:=.type "tuple",data:=.seq (d++a).toArray } }) (l:d.length+a.length<=sizeLine):wpAny (model prog w) A (binaryOp .Add (.ref t) (.ref b)) Q E s:=by
 obtain⟨⟨cls,r,data,p⟩,j,m,n,u⟩:=id x
 obtain⟨⟨o,g,k,f⟩,c,h,q,i⟩:=id B
 simp only at m u h i
 subst m u h i
 have e:d.toArray++a.toArray=(d++a).toArray:=by simp
 by_cases hw:a=[]
 .exact concat_meets ⟨_,j,rfl⟩ ⟨_,c,rfl⟩ noFill_tuple_add seq_tuple_add u1A u1v (u1i _ _)
   (tuple_addW1 t b d.toArray a.toArray n q r g p f (by simpa using v) (by simp[hw])) ⟨j,c,y hw⟩
 .refine concat_meets ⟨_,j,rfl⟩ ⟨_,c,rfl⟩ noFill_tuple_add seq_tuple_add u1A u1v (u1i _ _)
   (tuple_addW2 t b d.toArray a.toArray n q r g p f (by simpa using v) (by simpa using hw) (by rw[t9,t9];exact l)) ⟨j,c,?_⟩
  rw[e]
  exact z hw
def sIx (n d:Nat):yG->Nat
 | none=>d
 | some v=>if v<0 then (v+(n:Int)).toNat else min v.toNat n
def sIx_none (n d:Nat):sIx n d none=d:=rfl
def sIx_nat (n d k:Nat):sIx n d (some (k:Int))=min k n:=by
 show(if (k:Int)<0 then ((k:Int)+(n:Int)).toNat else min (k:Int).toNat n)=min k n
 rw[j6 (by omega),u0K]
def zo9 (n d:Nat)(b:d<=n)(o:yG):sIx n d o<=n:=by
 cases o with
 | none=>exact b
 | some v =>
  show(if v<0 then (v+(n:Int)).toNat else min v.toNat n)<=n
  by_cases a:v<0
  .rw[t7 a];omega
  .rw[j6 a];exact Nat.min_le_right _ _
def clip_eq (v:Int)(n d:Nat):(if v<0 then max (v+(n:Int)) 0 else min v (n:Int))=((sIx n d (some v):Nat):Int):=by
 show(if v<0 then max (v+(n:Int)) 0 else min v (n:Int))=(((if v<0 then (v+(n:Int)).toNat else min v.toNat n):Nat):Int)
 by_cases a:v<0
 .simp only[t7 a];omega
 .simp only[j6 a];omega
def zfi (a b:yG)(n:Nat):Builtin.Slice.sliceAdjust a b 1 (n:Int)=(((sIx n 0 a:Nat):Int),((sIx n n b:Nat):Int)):=by
 have c:¬ ((1:Int)<0):=by omega
 unfold Builtin.Slice.sliceAdjust
 simp only[c,u2B]
 refine u2v ?_ ?_
 .cases a with
  | none=>rfl
  | some v=>exact clip_eq v n 0
 .cases b with
  | none=>rfl
  | some v=>exact clip_eq v n n
def zfo (i j:Nat):Builtin.Slice.slicePlaces (i:Int) (j:Int) 1=j-i:=by
 unfold Builtin.Slice.slicePlaces
 have a:(1:Int)>0:=by omega
 simp only[a,u1X,Int.ediv_one]
 split <;> omega
def VZ {Q:yG->Shared->Prop}(p:IsPart v o)(h:Q o s):wpAny (model prog w) A (Builtin.Slice.slicePartIndex v) Q E s:=by
 cases p with
 | none=>exact slicePart_none h
 | int i t=>exact slicePart_int h
def Yd {g:Addr}{f:Value}{d:yG}{Q:Int × Int × Nat->Shared->Prop}(i:s.heap.IsSliceOf g f e .none)(pl:IsPart f a)(k:IsPart e d)(h:Q (((sIx n 0 a:Nat):Int),1,sIx n n d-sIx n 0 a) s):wpAny (model prog w) A (Builtin.Slice.sliceApplied (.ref g) (pure (n:Int))) Q E s:=by
 obtain⟨os,b,j,c⟩:=id i
 unfold Builtin.Slice.sliceApplied Builtin.Slice.sliceFields
 refine u5 (u5 (u0d b c (x:=f) rfl (u5 (u0d b c (x:=e) rfl (u5 (u0d b c (x:=.none) rfl (t5 ?_)))))))
 refine u5 (slicePart_none ?_)
 show wpAny _ _ (if ((1:Int) == 0)=true then _ else _) _ _ s
 rw[j6 (by decide)]
 refine u5 (VZ pl (u5 (VZ k (u5 (t5 ?_)))))
 show wpAny _ _ (match Builtin.Slice.sliceAdjust a d 1 (n:Int)with | (a,d)=>pure (a,(1:Int),Builtin.Slice.slicePlaces a d 1)) _ _ s
 rw[zfi a d n]
 show wpAny _ _ (pure (((sIx n 0 a:Nat):Int),(1:Int),Builtin.Slice.slicePlaces ((sIx n 0 a:Nat):Int) ((sIx n n d:Nat):Int) 1)) _ _ s
 rw[zfo]
 exact t5 h
def zjg (a:wq)(i k:Nat):((List.range k).filterMap λ(m:Nat)=>a[((i:Int)+(m:Int)*1).toNat]?).toArray=((a.toList.drop i).take k).toArray:=by
 have e:(λ(m:Nat)=>a[((i:Int)+(m:Int)*1).toNat]?)=λm=>a[i+m]?:=by
  funext m
  have:((i:Int)+(m:Int)*1).toNat=i+m:=by omega
  rw[this]
 rw[e]
 have:=pick_run a i k
 rw[List.filterMap_map]at this
 have b:((λx=>a[x]?)∘λx=>i+x)=λm=>a[i+m]?:=rfl
 rw[b]at this
 rw[this]
def getItem_tuple_cut {t g:Addr} {a:wq} {d:yG} {Q:yU} (e:IsTup s.heap t a) (l:s.heap.IsSliceOf g o n .none) (pl:IsPart o c) (r:IsPart n d) (hw:¬ (sIx a.size 0 c=0/\sIx a.size a.size d=a.size)) (h:Q (.ref s.heap.objs.size) { s with heap:=s.heap.push { cls:=.type "tuple",data:=.seq ((a.toList.drop (sIx a.size 0 c)).take (sIx a.size a.size d-sIx a.size 0 c)).toArray } }) (u:a.size<=sizeLine):wpAny (model prog w) A (getItem (.ref t) (.ref g)) Q E s:=by
 have b:sizeOk (.seq ((a.toList.drop (sIx a.size 0 c)).take (sIx a.size a.size d-sIx a.size 0 c)).toArray):=by
  show((a.toList.drop (sIx a.size 0 c)).take (sIx a.size a.size d-sIx a.size 0 c)).toArray.size<=sizeLine
  rw[t9,u0v,u1b,l9]
  omega
 have v:sIx a.size a.size d<=a.size:=zo9 _ _ (t6 _) d
 obtain⟨os,k,i,p⟩:=id l
 have j:s.TypeIs (.ref g) "slice":=⟨os,k,i⟩
 unfold getItem
 try with_reducible refine l8 ?_
 first | refine u5 (t5 ?_) | skip
 refine u5 (wpAny_sequenceKey e.typeIs (by decide) ?_)
 refine u5 (p0 (name:=Str.ofString "__getitem__") e.typeIs p5
  (i5 p5 e.typeIs entry_tuple_getitem ?_ (args_tuple_getitem _ _)))
 show wpAny _ _ (Builtin.Tuple.tupleItemsOf (.ref t)>>=_) _ _ s
 refine u5 (tupleItemsOf_ e ?_)
 refine u5 (u1S j ?_)
 rw[t7 (by decide)]
 refine u5 (Yd l pl r ?_)
 have f:¬ ((((sIx a.size 0 c:Nat):Int) == 0&&(1:Int) == 1&&(sIx a.size a.size d-sIx a.size 0 c) == a.size)=true):=by
  intro q
  rw[j0,j0]at q
  have y:((sIx a.size 0 c:Nat):Int)=0:=eq_of_beq q.1.1
  have x:sIx a.size a.size d-sIx a.size 0 c=a.size:=eq_of_beq q.2
  exact hw ⟨by omega,by omega⟩
 show wpAny _ _ (if (((sIx a.size 0 c:Nat):Int) == 0&&(1:Int) == 1&&(sIx a.size a.size d-sIx a.size 0 c) == a.size)=true then _ else _) _ _ s
 rw[j6 f,zjg]
 first
  | exact u5 (m:=Builtin.Tuple.tupleExact _) (l5 (t5 ⟨_,rfl,t5 h⟩) b)
  | exact u5 (m:=Builtin.Tuple.tupleExact _) (l5 (u5 (t5 (t5 ⟨_,rfl,t5 h⟩))) b)
  | exact u5 (u5 (m:=Builtin.Tuple.tupleExact _) (l5 (t5 (t5 ⟨_,rfl,t5 h⟩)) b))
  | exact u5 (u5 (m:=Builtin.Tuple.tupleExact _) (l5 (t5 ⟨_,rfl,t5 h⟩) b))
end
end HT
namespace L2
open PySem PySem.Spec PyProof.Rows
abbrev TO:=St->Hp->(yG->Hp->Prop)->Prop
def PO (X:Cx)(e:Option Expr)(t:TO):Prop :=
 ∀ (a:xC) (s:zn) (σ:St) (H:Hp) (Q:yG->Hp->Prop),Inv X a σ H s->t σ H Q ->
  wpAny (model X.prog X.w) X.A (evalPart e X.env) (λu b=>∃ o H',Inv X a σ H' b/\IsPart u o/\Q o H') X.xe s
def zlX:TO:=λ_ H Q=>Q none H
def zrp (t:TE):TO:=fun σ H Q=>t σ H λx H1=>∃ i,x=.int i/\Q (some i) H1
def YJ {ns:zC}:∀ {a:zB},yw (ns.map V.int) a->IntsAre a ns:=by
 induction ns with
 | nil=>intro a r;rw[List.map_nil]at r;cases r;exact .nil
 | cons n ns b =>
  intro a r
  rw[n0]at r
  cases r with
  | cons c d =>
   obtain⟨t,e⟩:=c
   subst e
   exact .cons n t (b d)
section
variable {X:Cx}{e:Expr}{te:TE}{lo hi:Option Expr}{tl th:TO}{pos p2:Pos}
def znr:PO X none zlX:=by
 intro a s σ H Q I h
 rw[evalPart_none]
 exact t5 ⟨none,H,I,.none,h⟩
def zlV (h:PE X e te):PO X (some e) (zrp te):=by
 intro a s σ H Q I hw
 rw[evalPart_some]
 refine thn (h a s σ H _ I hw) λu d hh9=>?_
 obtain⟨x,H1,I1,b,c⟩:=hh9
 obtain⟨i,rfl,q⟩:=c
 obtain⟨t,rfl⟩:=b
 exact⟨some i,H1,I1,.int i t,q⟩
def SlR (X:Cx)(r:V->yG->yG->Hp->VK->Prop):Prop :=
 ∀ (a:xC) (s:zn) (σ:St) (H:Hp) (x:V) (v d c:Value) (lo hi:yG) (b:Addr) (Q:VK),Inv X a σ H s->xi x v->s.heap.IsSliceOf b d c .none->IsPart d lo->IsPart c hi->r x lo hi H Q ->
  ∃ T id,typeLookup (.type T) "__getitem__"=pure (some (.builtin id))/\s.TypeIs v T/\wpAny (model X.prog X.w) X.A (getItem v (.ref b)) (EP X a σ Q) X.xe s
def SlR.or {r i:V->yG->yG->Hp->VK->Prop}(h:SlR X r)(j:SlR X i):SlR X (λx lo hi H Q=>r x lo hi H Q\/i x lo hi H Q):=by
 intro a s σ H x v e d lo hi f Q I c b pl g q
 rcases q with q | q
 .exact h a s σ H x v e d lo hi f Q I c b pl g q
 .exact j a s σ H x v e d lo hi f Q I c b pl g q
def tSl (r:V->yG->yG->Hp->VK->Prop)(te:TE)(tl th:TO):TE:=fun σ H Q=>te σ H λx H1=>tl σ H1 λl H2=>th σ H2 λu H3=>r x l u H3 Q
def zkl (j:SlR X r)(w:PE X e te)(A:PO X lo tl)(B:PO X hi th):PE X (.Subscript e (.Slice lo hi none p2) pos) (tSl r te tl th):=by
 intro a s σ H Q I h
 refine Subscript_ (thn (w a s σ H _ I h) λv n hh9=>?_)
 obtain⟨x,H1,I1,p,t⟩:=hh9
 refine wpAny_Slice (thn (A a n σ H1 _ I1 t) λd o ⟨l,H2,I2,pl,i⟩=>thn (B a o σ H2 _ I2 i) λf c hh9=>?_)
 obtain⟨u,H3,I3,z,y⟩:=hh9
 rw[evalPart_none]
 refine t5 ?_
 have I4:Inv X a σ H3 { c with heap:=c.heap.push { cls:=.type "slice",data:=.fields #[d,f,.none] } }:=I3.kept (t':=c.toks) λb C q=>u6 _ q
 obtain⟨T,id,k,g,m⟩:=j a { c with heap:=c.heap.push { cls:=.type "slice",data:=.fields #[d,f,.none] } } σ H3 x v d f l u c.heap.objs.size Q I4 p (Heap.IsSliceOf.new ..) pl z y
 show wpAny (model X.prog X.w) X.A (subscriptTail e (.Slice lo hi none p2) v (.ref c.heap.objs.size)) (EP X a σ Q) X.xe { c with heap:=c.heap.push { cls:=.type "slice",data:=.fields #[d,f,.none] } }
 exact tail_any (ops:=[.ref c.heap.objs.size,v]) g k m (by with_unfolding_all rfl)
def zdd (a:zx)(lo hi:yG):zx:=(a.drop (HT.sIx a.length 0 lo)).take (HT.sIx a.length a.length hi-HT.sIx a.length 0 lo)
def Ve (a:zx)(lo hi:yG):(zdd a lo hi).length<=a.length:=by
 unfold zdd
 rw[u0v,u1b]
 omega
def rSlT (K:zv):V->yG->yG->Hp->VK->Prop:=λx lo hi H Q=>∃ a b,x=.ref a/\SqT K H a b /\
 ¬ (HT.sIx b.length 0 lo=0/\HT.sIx b.length b.length hi=b.length)/\∀ p,H p=none->Q (.ref p) (upd H p (.tup (zdd b lo hi)))
def zoH:SlR X (rSlT X.K):=by
 intro g s σ H x v t p lo hi u Q I k j pl m h
 obtain⟨a,d,rfl,l,hw,q⟩:=h
 cases k
 obtain⟨e,r,f,i⟩:=I.tuple l
 have c:e.toArray.size=d.length:=by rw[t9];exact r.length.symm
 refine⟨"tuple",_,p5.lookup,f.typeIs,?_⟩
 refine HT.getItem_tuple_cut f j pl m (by rw[c];exact hw) ?_ (by rw[c];exact i)
 rw[c]
 refine⟨.ref s.heap.objs.size,_,I.laid (t':=s.toks) (o:=.tup (zdd d lo hi)) (λb n q=>u6 _ q) (t6 _) ?_,rfl,q _ (I.hok.fresh (t6 _))⟩
 exact⟨r0 (Ve d lo hi) i,_,(r.drop (HT.sIx d.length 0 lo)).take (HT.sIx d.length d.length hi-HT.sIx d.length 0 lo),IsTup.new _ _⟩
def zrH (K:zv):R2:=λx y H Q=>∃ a b d c,x=.ref a/\y=.ref b/\SqT K H a d/\SqT K H b c/\d≠[]/\d.length+c.length<=sizeLine /\
 (c=[]->Q (.ref a) H)/\(c≠[]->∀ p,H p=none->Q (.ref p) (upd H p (.tup (d++c))))
def yw.nil_iff (r:yw b a):a=[]↔b=[]:=by
 cases r with
 | nil=>simp
 | cons _ _=>simp
def znQ:OpR X (binaryOp .Add) (zrH X.K):=by
 intro e s σ H x y v u Q I i B h
 obtain⟨a,b,n,m,rfl,rfl,t,A,l,g,p,j⟩:=h
 cases i
 cases B
 obtain⟨r,d,k,_⟩:=I.tuple t
 obtain⟨f,c,p2,_⟩:=I.tuple A
 refine HT.cat_tup k p2 (λz=>l (d.nil_iff.mp z)) (λz=>⟨.ref a,H,I,rfl,p (c.nil_iff.mp z)⟩) (λz=>?_) (by rw[<-d.length,<- c.length];exact g)
 refine⟨.ref s.heap.objs.size,_,I.laid (t':=s.toks) (o:=.tup (n++m)) (λb C q=>u6 _ q) (t6 _) ?_,rfl,j (λw=>z (c.nil_iff.mpr w)) _ (I.hok.fresh (t6 _))⟩
 exact⟨by rw[j4];exact g,_,d.append c,IsTup.new _ _⟩
end
def ixN (n:Nat)(i:Int):Option Nat:=if 0<=i then (if i<n then some i.toNat else none)else if -(n:Int)<=i then some (i+n).toNat else none
def atI {α:Type}(a:List α)(i:Int):Option α:=(ixN a.length i).bind λj=>a[j]?
def zgE (h:ixN n i=some j):seqIndex? i n=some j/\j<n/\-(n:Int)<=i/\i<n:=by
 unfold ixN at h
 by_cases h0:0<=i
 .rw[t7 h0]at h
  by_cases a:i<n
  .rw[t7 a]at h
   have e:i.toNat=j:=o4 h
   exact⟨by rw[seqIndex_of h0 a,e],by omega,by omega,a⟩
  .rw[j6 a]at h;cases h
 .rw[j6 h0]at h
  by_cases a:-(n:Int)<=i
  .rw[t7 a]at h
   have e:(i+n).toNat=j:=o4 h
   exact⟨by rw[seqIndex_neg (by omega) a,e],by omega,a,by omega⟩
  .rw[j6 a]at h;cases h
def za5 {α:Type}{a:List α}{v:α}(h:atI a i=some v):∃ j,seqIndex? i a.length=some j/\a[j]?=some v/\j<a.length/\-(a.length:Int)<=i/\i<a.length:=by
 unfold atI at h
 cases e:ixN a.length i with
 | none=>rw[e]at h;cases h
 | some j =>
  rw[e]at h
  obtain⟨b,d,f,c⟩:=zgE e
  exact⟨j,b,h,d,f,c⟩
def zhI {α:Type}{a:List α}{j:Nat}{v:α}(h:a[j]?=some v):atI a (j:Int)=some v:=by
 have b:j<a.length:=(j3.mp h).1
 have e:ixN a.length (j:Int)=some j:=by
  unfold ixN
  rw[t7 (by omega),t7 (by omega)];simp
 unfold atI;rw[e];exact h
def Z9 (b:Expr):Prop:=∀ o i,subscripted b false o i=operate [o,i] (getItem o i)
def IxR (X:Cx)(r:R2):Prop :=
 ∀ (c a:Expr) (b:xC) (s:zn) (σ:St) (H:Hp) (x y:V) (v u:Value) (Q:VK),Inv X b σ H s->xi x v->xi y u->r x y H Q ->
  subscripted a false v u=operate [v,u] (getItem v u)->wpAny (model X.prog X.w) X.A (subscriptTail c a v u) (EP X b σ Q) X.xe s
def MtR (X:Cx)(id:String)(r:V->zx->Hp->VK->Prop):Prop :=
 ∀ (a:xC) (s:zn) (σ:St) (H:Hp) (x:V) (c:zx) (v:Value) (b:zB) (Q:VK),Inv X a σ H s->xi x v->yw c b->r x c H Q ->
  wpAny (model X.prog X.w) X.A (call (.builtin id) (v::b)) (EP X a σ Q) X.xe s
section
variable {X:Cx}{a b:Expr}{ta tb:TE}{pos:Pos}
def IxR.or {r f:R2}(h:IxR X r)(i:IxR X f):IxR X (λx y H Q=>r x y H Q\/f x y H Q):=by
 intro a b c s σ H x y v u Q I e g q d
 rcases q with q | q
 .exact h a b c s σ H x y v u Q I e g q d
 .exact i a b c s σ H x y v u Q I e g q d
def zku (f:IxR X r)(g:PE X a ta)(i:PE X b tb)(d:Z9 b):PE X (.Subscript a b pos) (tOp r ta tb):=by
 intro c s σ H Q I h
 exact Subscript_ (zrP g i I h λv u k x y H2 I2 e j q=>f a b c k σ H2 x y v u Q I2 e j q (d _ _))
def rIxL (K:zv):R2:=λx y H Q=>∃ p a i v,x=.ref p/\y=.int i/\SqL K H p a/\atI a i=some v/\Q v H
def rIxT (K:zv):R2:=λx y H Q=>∃ p a i v,x=.ref p/\y=.int i/\SqT K H p a/\atI a i=some v/\Q v H
def zrr:R2:=λx y H Q=>∃ z i c,x=.str z/\y=.int i/\z.length<=sizeLine/\atI z.cps.toList i=some c/\Q (.str ⟨#[c]⟩) H
def znC:IxR X (rIxL X.K):=by
 intro d f a s σ H x y v u Q I o E h k
 obtain⟨p,J,i,z,rfl,rfl,B,C,q⟩:=h
 cases o
 obtain⟨t,rfl⟩:=E
 obtain⟨g,r,pl,G⟩:=I.list B
 obtain⟨j,b,n,K,D,m⟩:=za5 C
 obtain⟨w,l,e⟩:=r.get n
 have F:=r.length
 have L:=Xs
 have fin:EP X a σ Q w s:=⟨z,H,I,e,q⟩
 by_cases h0:0<=i
 .have c:i.toNat=j:=by
   rw[seqIndex_of h0 m]at b
   exact o4 b
  exact item_listR pl.isList h0 (by omega) (by rw[c];simpa using l) fin k
 .have c:(i+(g.toArray.size:Int)).toNat=j:=by
   rw[seqIndex_neg (by omega) D]at b
   rw[t9,<- F]
   exact o4 b
  exact u1B (x:=w) pl.isList.typeIs slot_list_getitem.lookup
   (wpAny_getItem_list_neg (Q:=λr A=>r=w/\EP X a σ Q r A) pl.isList (by omega) (by rw[t9] <;> omega) (by omega) (by rw[c];simpa using l) ⟨rfl,fin⟩) k
def zlk:IxR X (rIxT X.K):=by
 intro b d a s σ H x y v u Q I k o h g
 obtain⟨p,F,i,z,rfl,rfl,m,n,q⟩:=h
 cases k
 obtain⟨t,rfl⟩:=o
 obtain⟨A,r,pl,E⟩:=I.tuple m
 obtain⟨j,e,f,G,J,D⟩:=za5 n
 obtain⟨w,C,c⟩:=r.get f
 have B:=r.length
 have K:=Xs
 have fin:EP X a σ Q w s:=⟨z,H,I,c,q⟩
 exact u1B (x:=w) pl.typeIs slot_tuple_getitem.lookup
  (getItem_tuple (j:=j) (Q:=λr l=>r=w/\EP X a σ Q r l) pl (by omega) (by omega) (by rw[t9,<- B];exact e) (by simpa using C) ⟨rfl,fin⟩) g
def zlx:IxR X zrr:=by
 intro a b d s σ H x y v u Q I g w h f
 obtain⟨z,i,c,rfl,rfl,B,n,q⟩:=h
 obtain⟨t,rfl⟩:=g
 obtain⟨C,rfl⟩:=w
 obtain⟨j,e,r,A,p,k⟩:=za5 n
 have m:z.cps.toList.length=z.length:=by simp[Str.length]
 rw[m]at e p k
 have D:=Xs
 exact tail_any (u2L s z t) slot_str_getitem.lookup (getItem_str (c:=c) (by
  have l:decide (i < -(2^63:Int))=false:=t8 (by omega)
  have o:decide (i >= 2^63)=false:=t8 (by omega)
  rw[l,o,Bool.or_false]) (by rw[e];simpa using r) ⟨.str ⟨#[c]⟩,H,I.tok _,⟨_,rfl⟩,q⟩) f
def rIx (K:zv):R2:=λx y H Q=>rIxL K x y H Q\/rIxT K x y H Q\/zrr x y H Q
def zpo:IxR X (rIx X.K):=znC.or (zlk.or zlx)
def zfe (a:zB) (n j:Nat) (u:Value):Obj.mapSeq (·.setIfInBounds j u) { cls:=.type "list",data:=.seq a.toArray n }={ cls:=.type "list",data:=.seq (a.set j u).toArray n }:=by
 simp[Obj.mapSeq]
def Inv.lst {b:xC}{σ:St}{H:Hp}{s:zn}{p:Addr}{c:zx}(I:Inv X b σ H s)(h:H p=some (.lst c)) :
 ∃ (a:zB) (n:Nat),yw c a/\s.heap.get? p=some { cls:=.type "list",data:=.seq a.toArray n }/\c.length<=sizeLine:=by
 obtain⟨z,a,n,r,e⟩:=I.hok p _ h
 exact⟨a,n,r,e,z⟩
def Inv.lstUpd {H:Hp} {s:zn} {p:Addr} {k g:zx} {d a:zB} {f:Obj->Obj} (I:Inv X c σ H s) (h:H p=some (.lst k)) (o:s.heap.get? p=some { cls:=.type "list",data:=.seq d.toArray n }) (j:f { cls:=.type "list",data:=.seq d.toArray n }={ cls:=.type "list",data:=.seq a.toArray i }) (r:yw g a) (l:g.length<=sizeLine) (t:Nat) :
 Inv X c σ (upd H p (.lst g)) { s with heap:=s.heap.update p f,toks:=t }:=by
 have e:(s.heap.update p f).get? p=some { cls:=.type "list",data:=.seq a.toArray i }:=by
  rw[i0 f o (by rw[j] <;> rfl),j]
 refine I.write (x:=p) (e:=p) (by rw[h];trivial) (.inl rfl) (λb u m q=>(h9 _ _ (i7 m)).trans q) ⟨_,e⟩ ?_
 exact⟨l,a,i,r,e⟩
def zrZ:V->V->V->Hp->(Hp->Prop)->Prop:=λo i v H Q=>∃ p a k j,o=.ref p/\i=.int k/\H p=some (.lst a)/\ixN a.length k=some j/\Q (upd H p (.lst (a.set j v)))
def zkG:PSet X zrZ:=by
 intro a s σ H o i v E D u Q I A B y h
 obtain⟨p,z,k,j,rfl,rfl,m,w,q⟩:=h
 cases A
 obtain⟨t,rfl⟩:=B
 obtain⟨b,n,r,f,x⟩:=I.lst m
 obtain⟨c,C,g,l⟩:=zgE w
 have e:=r.length
 have F:=Xs
 have I':Inv X a σ (upd H p (.lst (z.set j v))) { s with heap:=s.heap.update p (Obj.mapSeq (·.setIfInBounds j u)) } :=
  I.lstUpd m f (zfe b n j u) (r.set y j) (by rw[u24];exact x) s.toks
 by_cases h0:0<=k
 .have d:k.toNat=j:=by
   rw[seqIndex_of h0 l]at c
   exact o4 c
  exact W.ki_setAt f h0 (by omega) (by rw[t9,<- e];exact l) (by rw[d];exact⟨_,I',q⟩)
 .have d:(k+(b.toArray.size:Int)).toNat=j:=by
   rw[seqIndex_neg (by omega) g]at c
   rw[t9,<- e]
   exact o4 c
  exact W.ki_setBack f (by omega) (by rw[t9,<- e];exact g) (by omega) (by rw[d];exact⟨_,I',q⟩)
def zbR (a b:yG)(n:Nat):(sliceBounds a b none n).1=((HT.sIx n 0 a:Nat):Int)/\(sliceBounds a b none n).2.1=((HT.sIx n n b:Nat):Int)/\(sliceBounds a b none n).2.2=1:=by
 refine⟨?_,?_,rfl⟩
 .cases a with
  | none=>simp[sliceBounds,HT.sIx]
  | some i =>
   simp only[sliceBounds,HT.sIx,Option.getD_none,show(1:Int)>0 by decide,u1X]
   by_cases h:i<0
   .simp only[h,u1X] <;> omega
   .simp only[h,u2B] <;> omega
 .cases b with
  | none=>simp[sliceBounds,HT.sIx]
  | some i =>
   simp only[sliceBounds,HT.sIx,Option.getD_none,show(1:Int)>0 by decide,u1X]
   by_cases h:i<0
   .simp only[h,u1X] <;> omega
   .simp only[h,u2B] <;> omega
def zae (a:zB)(b c:yG):slicePick a.toArray b c none=((a.drop (HT.sIx a.length 0 b)).take (HT.sIx a.length a.length c-HT.sIx a.length 0 b)).toArray:=by
 obtain⟨e,f,d⟩:=zbR b c a.toArray.size
 unfold slicePick
 rw[e,f,d]
 simp only[sliceRange_one,pick_run,t9] <;> rfl
def rSlL (K:zv):V->yG->yG->Hp->VK->Prop:=λx c d H Q=>∃ a b,x=.ref a/\SqL K H a b/\∀ p,H p=none->Q (.ref p) (upd H p (.lst (zdd b c d)))
def zmJ:SlR X (rSlL X.K):=by
 intro i s σ H x v w u e f y Q I k j pl p h
 obtain⟨a,c,rfl,l,q⟩:=h
 cases k
 obtain⟨m,r,g,n⟩:=I.list l
 have d:=r.length
 refine⟨"list",_,slot_list_getitem.lookup,g.isList.typeIs,?_⟩
 refine wpAny_getItem_list_slice g.isList j pl p .none (by simp) ?_ (by rw[t9] <;> omega)
 rw[zae,<- d]
 refine⟨.ref s.heap.objs.size,_,I.laid (t':=s.toks) (o:=.lst (zdd c e f)) (λb t q=>u6 _ q) (t6 _) ?_,rfl,q _ (I.hok.fresh (t6 _))⟩
 exact⟨r0 (Ve c e f) n,_,0,(r.drop (HT.sIx c.length 0 e)).take (HT.sIx c.length c.length f-HT.sIx c.length 0 e),j8 _ rfl⟩
def zl5:V->Bool
 | .non=>true
 | .bl _=>true
 | .int _=>true
 | .str _=>true
 | _=>false
def eqV:V->V->Bool
 | .non,.non=>true
 | .bl a,.bl b=>a == b
 | .bl a,.int b=>(if a then 1 else 0) == b
 | .int a,.bl b=>a == (if b then 1 else 0)
 | .int a,.int b=>a == b
 | .str a,.str b=>a == b
 | _,_=>false
def zle (f:xi y u)(c:xi x v)(g:zl5 y=true)(e:zl5 x=true):SeqAt.EqAt A s u v (eqV y x):=by
 cases y with
 | non =>
  cases f
  cases x with
  | non=>cases c;exact SeqAt.EqAt.same _
  | bl b=>cases c;exact SeqAt.EqAt.none_bool b
  | int b=>obtain⟨t,rfl⟩:=c;exact SeqAt.EqAt.none_int b t
  | str b=>obtain⟨t,rfl⟩:=c;exact SeqAt.EqAt.none_str b t
  | _=>exact absurd (show false=true from e) u7
 | bl a =>
  cases f
  cases x with
  | non=>cases c;exact SeqAt.EqAt.bool_none a
  | bl b=>cases c;exact SeqAt.EqAt.bool_bool a b
  | int b=>obtain⟨t,rfl⟩:=c;exact SeqAt.EqAt.bool_int a b t
  | str b=>obtain⟨t,rfl⟩:=c;exact SeqAt.EqAt.bool_str a b t
  | _=>exact absurd (show false=true from e) u7
 | int a =>
  obtain⟨d,rfl⟩:=f
  cases x with
  | non=>cases c;exact SeqAt.EqAt.int_none a d
  | bl b=>cases c;exact SeqAt.EqAt.int_bool a d b
  | int b=>obtain⟨t,rfl⟩:=c;exact u2z a d b t
  | str b=>obtain⟨t,rfl⟩:=c;exact SeqAt.EqAt.int_str a d b t
  | _=>exact absurd (show false=true from e) u7
 | str a =>
  obtain⟨d,rfl⟩:=f
  cases x with
  | non=>cases c;exact SeqAt.EqAt.str_none a d
  | bl b=>cases c;exact SeqAt.EqAt.str_bool a d b
  | int b=>obtain⟨t,rfl⟩:=c;exact SeqAt.EqAt.str_int a d b t
  | str b=>obtain⟨t,rfl⟩:=c;exact SeqAt.EqAt.str_str a d b t
  | _=>exact absurd (show false=true from e) u7
 | _=>exact absurd (show false=true from g) u7
def yH:v5 X (.builtin "len") (λg H Q=>∃ p b,g=[.ref p]/\(SqL X.K H p b\/SqT X.K H p b)/\Q (.int b.length) H):=by
 intro f s σ H g k Q I r h
 obtain⟨p,b,rfl,c,q⟩:=h
 obtain⟨u,rfl,i⟩:=XF r
 cases i
 have l:=Xs
 rcases c with c | c
 .obtain⟨d,e,pl,j⟩:=I.list c
  have a:=e.length
  exact Calls.call_len_list pl.isList (by simp only[t9] <;> omega) ⟨.int b.length,H,I.tok _,⟨s.toks+1,by rw[t9,a]⟩,q⟩
 .obtain⟨d,e,pl,j⟩:=I.tuple c
  have a:=e.length
  exact len_tuple pl (by simp only[t9] <;> omega) ⟨.int b.length,H,I.tok _,⟨s.toks+1,by rw[t9,a]⟩,q⟩
def Xz:v5 X (.builtin "len") (λb H Q=>∃ z,b=[.str z]/\z.length<=sizeLine/\Q (.int z.length) H):=by
 intro a s σ H b c Q I r h
 obtain⟨z,rfl,d,q⟩:=h
 obtain⟨u,rfl,t,rfl⟩:=XF r
 have e:=Xs
 exact len_str (by omega) ⟨.int z.length,H,I.tok _,⟨_,rfl⟩,q⟩
def zb0:v5 X (.type "list") (λz H Q=>∃ p f,z=[.ref p]/\(SqL X.K H p f\/SqT X.K H p f)/\∀ l,H l=none->Q (.ref l) (upd H l (.lst f))):=by
 intro m s σ H z B Q I r h
 obtain⟨p,f,rfl,t,q⟩:=h
 obtain⟨u,rfl,A⟩:=XF r
 cases A
 have fin:∀ (a:zB),yw f a->f.length<=sizeLine->∀ (c:Heap) (d:Nat),(∀ b y,s.heap.get? b=some y->c.get? b=some y) ->
  c.get? s.heap.objs.size=some { cls:=.type "list",dict:=none,data:=.seq a.toArray d,slots:=#[] }->EP X m σ Q (.ref s.heap.objs.size) { s with heap:=c }:=λa g j c d k e =>
  ⟨.ref s.heap.objs.size,_,I.laid (t':=s.toks) k (t6 _) (show yT X.prog X.w _ c _ (.lst f) from⟨j,a,d,g,e⟩),rfl,q _ (I.hok.fresh (t6 _))⟩
 rcases t with t | t
 .obtain⟨a,g,pl,j⟩:=I.list t
  have i:=g.length
  obtain⟨o,x,v,n,w⟩:=pl.isList
  exact call_list_seq p (.inl rfl) x v w (λc d k e=>fin a g j c d k e) (by simp only[t9] <;> omega)
 .obtain⟨a,g,pl,j⟩:=I.tuple t
  have i:=g.length
  obtain⟨o,x,v,n,w⟩:=pl
  exact call_list_seq p (.inr rfl) x v w (λc d k e=>fin a g j c d k e) (by simp only[t9] <;> omega)
def zaP:v5 X (.type "tuple") (λm H Q=>∃ p d,m=[.ref p]/\((SqL X.K H p d/\∀ l,H l=none->Q (.ref l) (upd H l (.tup d)))\/(SqT X.K H p d/\Q (.ref p) H))):=by
 intro a s σ H m v Q I r h
 obtain⟨p,d,rfl,h⟩:=h
 obtain⟨u,rfl,t⟩:=XF r
 cases t
 rcases h with ⟨g,q⟩ | ⟨g,q⟩
 .obtain⟨c,i,pl,k⟩:=I.list g
  have j:=i.length
  refine call_tuple_list pl.isList (λf n=>?_) (by simp only[t9] <;> omega)
  have I1:Inv X a σ H { s with heap:=f }:=I.kept (t':=s.toks) n
  have I2:Inv X a σ (upd H f.objs.size (.tup d)) { s with heap:=f.push { cls:=.type "tuple",data:=.seq c.toArray } } :=
   I1.laid (t':=s.toks) (λb o e=>u6 _ e) (t6 _) (show yT X.prog X.w _ _ _ (.tup d) from⟨k,c,i,IsTup.new _ _⟩)
  exact⟨.ref f.objs.size,_,I2,rfl,q _ (I1.hok.fresh (t6 _))⟩
 .obtain⟨c,i,pl,k⟩:=I.tuple g
  exact call_tuple_same pl ⟨.ref p,H,I,rfl,q⟩
def tyV (K:zv)(T:String)(x:V)(H:Hp):Prop:=match x with
 | .str _=>T="str"
 | .int _=>T="int"
 | .ref p=>(T="list"/\∃ b,SqL K H p b)\/(T="tuple"/\∃ o,K.lookup p=some o/\o.cls=.type "tuple"/\o.dict=none) \/
  (T="dict"/\((∃ a,H p=some (.dK a))\/∃ a,H p=some (.dT a)))\/(T="set"/\∃ S n,H p=some (.set S n))
 | _=>False
def zk3 {d:xC}{s:zn}(I:Inv X d σ H s)(r:xi x v)(ty:tyV X.K T x H) :
 s.TypeIs v T/\∀ a,v=.ref a->∃ j,s.heap.get? a=some j/\j.dict=none:=by
 cases x with
 | str z =>
  obtain⟨t,rfl⟩:=r
  cases (show T="str" from ty)
  exact⟨u2L s z t,λ_ e=>nomatch e⟩
 | int i =>
  obtain⟨t,rfl⟩:=r
  cases (show T="int" from ty)
  exact⟨u28 s i t,λ_ e=>nomatch e⟩
 | ref p =>
  cases r
  rcases ty with ⟨rfl,q,l⟩ | ⟨rfl,o,b,k,h⟩ | ⟨rfl,b⟩ | ⟨rfl,S,n,b⟩
  .obtain⟨m,_,pl,_⟩:=I.list l
   refine⟨pl.isList.typeIs,λa e=>?_⟩
   cases e
   obtain⟨o,n,e,c,h,_⟩:=pl
   exact⟨o,e,h⟩
  .refine⟨⟨o,I.kIn p o b,k⟩,λa e=>?_⟩
   cases e
   exact⟨o,I.kIn _ o b,h⟩
  .have z:∃ o,s.heap.get? p=some o/\o.ExactDict:=by
    rcases b with ⟨f,b⟩ | ⟨f,b⟩
    .obtain⟨_,_,_,_,o,_,_,e,ex,_⟩:=I.hok p _ b
     exact⟨o,e,ex⟩
    .obtain⟨_,_,_,_,o,_,_,e,ex,_⟩:=I.hok p _ b
     exact⟨o,e,ex⟩
   obtain⟨o,e,ex⟩:=z
   refine⟨⟨o,e,ex.1⟩,λa g=>?_⟩
   cases g
   exact⟨o,e,ex.2.1⟩
  .obtain⟨o,_,_,_,e,ex,_⟩:=I.hok p _ b
   refine⟨⟨o,e,ex.1⟩,λa g=>?_⟩
   cases g
   exact⟨o,e,ex.2.1⟩
 | _=>exact False.elim ty
def zrE (K:zv)(T:String)(r:V->zx->Hp->VK->Prop)(a:TE):TE:=fun σ H Q=>a σ H λx H1=>tyV K T x H1/\r x [] H1 Q
def tBM (K:zv)(T:String)(r:V->zx->Hp->VK->Prop)(a:TE)(t:TA):TE:=fun σ H Q=>a σ H λx H1=>tyV K T x H1/\t σ H1 λb H2=>r x b H2 Q
variable {o e:Expr}{es:y9}{to:TE}{t:TA}{name:Str}{apos cpos:Pos}{T id:String}{r:V->zx->Hp->VK->Prop}
def zlw (n:PlainAttrs T) (d:Slot T name id) (e:typeOf (.builtin id)=pure (.type "method_descriptor")) (g:MtR X id r) (m:PE X o to)
 (b:attributeBase o name X.env (eval o X.env)=eval o X.env:=by rfl) (c:(apos.endLine == cpos.line)=true:=by rfl):PE X (.Call (.Attribute o name apos) [] [] cpos) (zrE X.K T r to):=by
 intro a s σ H Q I h
 refine wpAny_Call_method0_late b c (thn (m a s σ H _ I h) λv l hh9=>?_)
 obtain⟨x,H1,I1,f,ty,i⟩:=hh9
 obtain⟨j,k⟩:=zk3 I1 f ty
 exact⟨T,id,n,d,e,j,k,u0W rfl (PySem.evalArgs_none (g a l σ H1 x [] v [] Q I1 f .nil i))⟩
theorem W2 (E:PlainAttrs T) (f:Slot T name id) (i:typeOf (.builtin id)=pure (.type "method_descriptor")) (l:MtR X id r) (D:PE X o to) (y:PA X (e::es) t)
 (c:attributeBase o name X.env (eval o X.env)=eval o X.env:=by rfl)
 (g:((backTo cpos (starEach (e::es) X.env)).all (λx=>!x.1)&&(backToKw cpos (keywordEach [] X.env)).all (λx=>x.1.isSome)
  && decide ((e::es).length+([]:List Keyword).length+(if ([]:List Keyword).isEmpty then 0 else 1) < 30))=true:=by rfl)
 (d:(apos.endLine == cpos.line)=true:=by rfl) (m:starEach (e::es) X.env=(false,eval e X.env)::starEach es X.env:=by rfl) (b:(backTo cpos (starEach es X.env)).any (·.1)=false:=by rfl) :
 PE X (.Call (.Attribute o name apos) (e::es) [] cpos) (tBM X.K T r to t):=by
 intro a s σ H Q I h
 refine u1C c g d rfl (thn (D a s σ H _ I h) λv B hh9=>?_)
 obtain⟨x,H1,I1,j,ty,u⟩:=hh9
 obtain⟨z,A⟩:=zk3 I1 j ty
 refine⟨T,id,E,f,i,z,A,?_⟩
 have k:=y cpos a B σ H1 _ I1 u
 rw[m]at k ⊢
 refine u0W (by show(false||(backTo cpos (starEach es X.env)).any (·.1))=false;rw[b] <;> rfl) (u1Y ?_)
 exact thn k λw C ⟨p,H2,I2,q,n⟩=>l a C σ H2 x p v w Q I2 j q n
/- xs.append(e),list.index on a module's tuple .. are MtR facts of 06m -/
end
def MtM (X:Cx)(id:String)(r:V->zx->Hp->VK->Prop):Prop :=
 ∀ (a:xC) (s:zn) (σ:St) (H:Hp) (x:V) (c:zx) (v:Value) (b:zB) (Q:VK),Inv X a σ H s->xi x v->yw c b->r x c H Q ->
  wpAny (model X.prog X.w) X.A (call (.builtin id) (v::b)) (EP X a σ Q) X.xe s
def yw.one:∀ {x:V} {a:zB},yw [x] a->∃ u,a=[u]/\xi x u:=by
 intro x a h
 cases h with | cons r t=>cases t;exact⟨_,rfl,r⟩
def yw.two:∀ {x y:V} {a:zB},yw [x,y] a->∃ u v,a=[u,v]/\xi x u/\xi y v:=by
 intro x y a h
 cases h with | cons r t=>cases t with | cons q t=>cases t;exact⟨_,_,rfl,r,q⟩
def yw.rep (h:yw b a):∀ k:Nat,yw (List.replicate k b).flatten (List.replicate k a).flatten
 | 0=>.nil
 | k+1=>by
  rw[u0p,u0p,u0L,u0L]
  exact yw.append h (yw.rep h k)
def Wn (b:zB):∀ (k:Nat) (a:zB),
 List.foldl (λc f=>c++f) a.toArray (List.replicate k b.toArray)=(a++(List.replicate k b).flatten).toArray
 | 0,a=>by simp
 | k+1,a=>by
  have e:a.toArray++b.toArray=(a++b).toArray:=by simp
  have d:(a++b)++(List.replicate k b).flatten=a++(List.replicate (k+1) b).flatten:=by
   rw[u0p,u0L,u04]
  rw[<-d,<- Wn b k (a++b),<- e,u0p,List.foldl_cons]
section
variable {X:Cx}{pins:xC}{σ:St}{H:Hp}{s:zn}{l b:Addr}{xs ys zs:zx}
def Inv.lset {a its':zB} {f:wq->wq} {h:Nat} (I:Inv X pins σ H s) (c:H l=some (.lst xs)) (e:s.heap.get? l=some { cls:=.type "list",data:=.seq a.toArray n }) (i:f a.toArray=its'.toArray) (d:yw ys its') (b:ys.length<=sizeLine) :
 Inv X pins σ (upd H l (.lst ys)) { s with heap:=s.heap.update l (Obj.mapSeq f),toks:=h }:=by
 have q:=PySem.IsL.update e f
 rw[i]at q
 refine I.write (x:=l) (e:=l) (by rw[c];exact trivial) (.inl rfl) (λk u g j=>(h9 s.heap (Obj.mapSeq f) (i7 g)).trans j) ⟨_,q⟩ ?_
 exact⟨b,its',_,d,q⟩
def Inv.lnew {its:zB}{t':Nat}(I:Inv X pins σ H s)(a:yw ys its)(b:ys.length<=sizeLine) :
 Inv X pins σ (upd H s.heap.objs.size (.lst ys)) { s with heap:=s.heap.push { cls:=.type "list",data:=.seq its.toArray },toks:=t' } :=
 I.laid (λ_ _ q=>u6 _ q) (t6 _) ⟨b,its,0,a,j8 _ rfl⟩
def Inv.fresh (I:Inv X pins σ H s):H s.heap.objs.size=none:=I.hok.fresh (t6 _)
def Inv.lstM (I:Inv X pins σ H s) (b:H l=some (.lst xs)):xs.length<=sizeLine/\∃ (a:zB) (n:Nat),yw xs a/\xs.length=a.length/\s.heap.get? l=some { cls:=.type "list",data:=.seq a.toArray n }:=by
 obtain⟨z,a,n,r,e⟩:=I.hok l _ b
 exact⟨z,a,n,r,r.length,e⟩
def zek {n:Nat}(h:n<=sizeLine):Builtin.List.listTooLong n=false:=by
 unfold Builtin.List.listTooLong
 exact t8 (by omega)
end
section
variable {X:Cx}
def zdb:V->zx->Hp->VK->Prop:=λx b H Q=>∃ l a y,x=.ref l/\b=[y]/\H l=some (.lst a)/\a.length<sizeLine/\Q .non (upd H l (.lst (a++[y])))
def Wf:MtM X "list.append" zdb:=by
 intro c s σ H x i v k Q I d g h
 obtain⟨l,o,y,rfl,rfl,b,m,q⟩:=h
 cases d
 obtain⟨u,rfl,f⟩:=g.one
 obtain⟨z,a,n,r,j,e⟩:=I.lstM b
 refine u0z F.slot_list_append ⟨_,e,rfl⟩ F.entry_list_append (F.args_list_append_2 _ _) (PySem.list_append l a.toArray n u (by rw[t9];omega)) ⟨e,?_⟩
 refine⟨.non,_,I.lset (its':=a++[u]) b e (by simp) (r.append (.cons f .nil)) ?_,rfl,q⟩
 rw[j4,List.length_singleton]
 omega
def zgj:V->zx->Hp->VK->Prop:=λx c H Q=>∃ l b a zs,x=.ref l/\c=[.ref b]/\H l=some (.lst a)/\H b=some (.lst zs)/\a.length+zs.length<=sizeLine/\Q .non (upd H l (.lst (a++zs)))
def zg3:MtM X "list.extend" zgj:=by
 intro i s σ H x A v B Q I t p h
 obtain⟨l,b,E,zs,rfl,rfl,g,w,D,q⟩:=h
 cases t
 obtain⟨u,rfl,k⟩:=p.one
 cases k
 obtain⟨z,c,n,r,G,e⟩:=I.lstM g
 obtain⟨C,a,m,j,o,y⟩:=I.lstM w
 have f:c.toArray.size+a.toArray.size<=sizeLine:=by rw[t9,t9];omega
 have d:¬ (!c.toArray.isEmpty&&Builtin.List.listTooLong (c.toArray.size+a.toArray.size))=true:=by
  rw[zek f,u0U]
  exact u7
 refine u0z F.slot_list_extend ⟨_,e,rfl⟩ F.entry_list_extend (F.args_list_extend_2 _ _)
  (AutoSeq1.list_extend_list_list_0 l c.toArray n b a.toArray m d (by rw[t9];omega) (by omega)) ⟨e,y,?_⟩
 refine⟨.non,_,I.lset (its':=c++a) g e (by simp) (r.append j) ?_,rfl,q⟩
 rw[j4]
 omega
def zrw:R2:=λx y H Q=>∃ l b a zs,x=.ref l/\y=.ref b/\H l=some (.lst a)/\H b=some (.lst zs)/\a.length+zs.length<=sizeLine/\∀ p,H p=none->Q (.ref p) (upd H p (.lst (a++zs)))
def zcb:OpR X (binaryOp .Add) zrw:=by
 intro d s σ H x y v u Q I f o h
 obtain⟨l,b,t,zs,rfl,rfl,g,j,A,q⟩:=h
 cases f
 cases o
 obtain⟨z,c,n,r,w,e⟩:=I.lstM g
 obtain⟨B,a,C,i,p,k⟩:=I.lstM j
 refine PySem.P.add_list e k ?_ (by rw[t9,t9];omega)
 have m:c.toArray++a.toArray=(c++a).toArray:=by simp
 rw[m]
 exact⟨.ref _,_,I.lnew (t':=s.toks) (r.append i) (by rw[j4];omega),rfl,q _ I.fresh⟩
def rRep:R2:=λx y H Q=>∃ l k a,x=.ref l/\y=.int k/\H l=some (.lst a)/\-(2^63)<=k/\k<2^63/\a.length*k.toNat<=sizeLine /\
 ∀ p,H p=none->Q (.ref p) (upd H p (.lst (List.replicate k.toNat a).flatten))
def zc4 {α:Type}(a:List α)(k:Nat):(List.replicate k a).flatten.length=k*a.length:=by
 induction k with
 | zero=>simp
 | succ k b=>rw[u0p,u0L,j4,b,Nat.succ_mul,Nat.add_comm]
theorem zqk:OpR X (binaryOp .Mult) rRep:=by
 intro w s σ H x y v u Q I E J h
 obtain⟨l,k,L,rfl,rfl,A,B,C,p,q⟩:=h
 cases E
 obtain⟨t,rfl⟩:=J
 obtain⟨z,b,n,r,K,e⟩:=I.lstM A
 have d:b.toArray.size*k.toNat<=sizeLine:=by rw[t9,<- K];exact p
 have f:¬ b.toArray.size*k.toNat > (2 ^ 63 - 1) / 8:=by
  have:(sizeLine:Nat)<=(2 ^ 63 - 1) / 8:=by decide
  omega
 have i:¬ (!Builtin.List.listFitsIndex k)=true:=by
  rw[fitsIndex_both B C]
  exact u7
 have c:¬ Builtin.List.listTooLong (b.toArray.size*k.toNat)=true:=by
  rw[zek d]
  exact u7
 have g:List.foldl (λj o=>j++o) #[] (List.replicate (if b.toArray.isEmpty=true then 0 else k.toNat) b.toArray)=(List.replicate k.toNat b).flatten.toArray:=by
  have D:∀ m:Nat,List.foldl (λj o=>j++o) #[] (List.replicate m b.toArray)=(List.replicate m b).flatten.toArray:=λm=>by
   have:=Wn b m []
   rw[List.nil_append]at this
   exact this
  rw[D]
  cases b with
  | nil=>simp
  | cons a M=>rw[j6 (by simp)]
 refine wpAny_binaryOp_repeat_ref (T:="list") (U:="int") (by decide) ⟨_,e,rfl⟩ (λG=>u28 G k t) noFill_list_mul F.fills_int_mul u18 repeat_list F.slot_int_index.lookup
  (u0z u18 (u28 s k t) F.entry_int_rmul (F.args_int_rmul_2 _ _) (int___rmul___int_list k t l b.toArray n)
   ⟨e,rfl,⟨_,e,rfl⟩,u0z F.slot_list_mul ⟨_,e,rfl⟩ F.entry_list_mul (F.args_list_mul_2 _ _) (AutoListH.list___mul___list_int_3 l b.toArray n k t i f c) ⟨e,?_⟩⟩)
 rw[g]
 exact⟨.ref _,_,I.lnew (t':=s.toks) (r.rep k.toNat) (by rw[zc4,Nat.mul_comm];exact p),rfl,q _ I.fresh⟩
end
end L2
namespace Att
open PySem PySem.W PySem.Calls PyProof.Rows
def Wd:∀ (ns:zC) (c:zB),WellAll P h c (ns.map WData.int)->IntsAre c ns:=by
 intro ns
 induction ns with
 | nil =>
  intro c w
  rw[List.map_nil]at w
  cases w
  exact .nil
 | cons n ns d =>
  intro c w
  rw[n0]at w
  cases w with
  | cons a b =>
   cases a
   exact .cons _ _ (d _ b)
def zf3 {l:OpenLaw}(y:l.most=some n){h:Heap}(b:l.row.toRowW.claim.pre args=true)(j:WellAll P h c args) :
 ∃ a o ns,c=[Value.ref a]/\args=[WData.list (ns.map WData.int)]/\h.get? a=some { cls:=.type "list",data:=.seq o.toArray }/\IntsAre o ns/\ns.length<=n:=by
 have k:WShape.hasAll [] args [.list .int]=true:=(pre_splitW b).1
 have m:l.pre.holds [] { args:=args }=true:=(pre_splitW b).2
 obtain⟨d,r,rfl,u,w⟩:=hasAllW_cons k
 obtain rfl:=hasAllW_nil w
 obtain⟨z,rfl,p⟩:=hasW_list u
 obtain⟨ns,rfl⟩:=items_int p
 have f:ns.length<=n:=by
  unfold OpenLaw.pre at m
  have i:(WTm.not (.lt (.lit (.int (n:Int))) (.len (.arg 0)))).holds [] { args:=[.list (ns.map .int)] }=true:=by
   have i:=(holds_andW m).1
   rw[y]at i
   exact i
  have g:=condW_of i (w_not (w_lt w_lit (w_len_list (w_arg rfl))))
  rw[u9]at g
  refine u0E λq=>?_
  have v:(n:Int)<((ns.length:Nat):Int):=by omega
  first
   | (rw[q0 v]at g;exact absurd g (by decide))
   | (simp at g;omega)
 cases j with
 | cons t s =>
  cases s
  cases t with
  | list x e=>exact⟨_,_,ns,rfl,rfl,x,Wd ns _ e,f⟩
def zgW (l:OpenLaw)(args:List WData):l.row.toRowW.claim.post args (.bool true) args=true :=
 postW_of (r:=l.row.toRowW) (X:=(true == true))
  (show WShape.has [] (.bool true) .bool=true by first | rfl | decide | simp[WShape.has,WShape.arms,WShape.armsAll])
  (show(WTm.eq .res (.lit (.bool true))).value [] { args:=args,res:=some (.bool true),after:=args }=some (.bool (true == true))from w_eq_bool (w_res rfl) w_lit) rfl
def attach_call {l:OpenLaw}{YP:World->Heap->Prop}{d:DefRec}(O:l.most=some n)(y:d.params.defaults=[]) (call:∀ (w:World) (s₀ b:zn) (s A:wn) (k:Addr) (o:Obj) (v t e:Value) (a:Addr) (h:zB) (ns:zC),
 Ground q c [] XP w s₀ s A b.heap->YP w b.heap ->
 b.heap.get? k=some o->o.data=.func (docDef d.name d.params d.body d.scope v t e)->b.heap.CodeRec t d.name->s d.name=some (.ref k) ->
 b.heap.get? a=some { cls:=.type "list",data:=.seq h.toArray }->IntsAre h ns->ns.length<=n->b.gens=#[] ->
 codeAny (model l.prog w) callerA (.call (.ref k) ⟨[.ref a],[]⟩) (λr p=>r=.ok (.ret (.bool true))/\OldK b.heap p.heap/\p.os=b.os/\AllBare p.gens) b) :
 WalkO q c XP YP l.row.toRowW d [] (λf h=>PySem.call f h):=by
 intro w s₀ b s A G Y k o v t e K kV P J x hD u F args B Q m C E z I
 obtain rfl:K=.none:=Dflts.none hD y
 obtain rfl:kV=.none:=Dflts.noKw hD
 obtain⟨a,h,ns,rfl,rfl,j,g,i⟩:=zf3 O m z
 refine enter_call (u1l (call w s₀ b s A k o v t e a h ns G Y P (fd_plain J) x u j g i F) λr p M=>?_)
 obtain⟨rfl,H,L,N⟩:=M
 exact⟨.inl ⟨.bool true,.bool true,[],rfl,λ_=>rfl,.bool true,zgW l _,λ_=>⟨List.Pairwise.nil,λ_ D=>(nomatch D)⟩⟩,H,L,N⟩
section
variable {prog:zP}{w:World}{A:zR}{E:yU}{s:zn}{K:Frag}
def ledger (h:Heap)(L d:Addr):xC:=(List.range h.objs.size).filterMap λa=>if a=L\/a=d then none else (h.get? a).map λo=>(a,o)
end
end Att
namespace L2
open PySem PySem.Spec PyProof.Rows
def zhy:∀ {a:zB} {ns:zC},IntsAre a ns->yw (ns.map V.int) a:=by
 intro a ns h
 induction h with
 | nil=>exact .nil
 | cons n t h b=>exact .cons ⟨t,rfl⟩ b
def zrC (H:Hp):Prop:=∀ b,H b=none\/∃ o a,H b=some (.frz o (.lst a))
def zkc {w:World} {K:zv} {S:wn} {CX:CXT} {k:Nat} {sp:Sp} {c:zn} {y:zB} {ns:zC} (KX:K.In c.heap) (J:c.heap.Ns mainGlobals I) (g:c.heap.Ns builtinsNs S) (U:∀ x:Str,x≠"__name__"->S x=bootBuiltins x) (E:c.heap.NoLimit) (hg:c.gens=#[]) (O:c.heap.get? a=some { cls:=.type "list",data:=.seq y.toArray }) (hi:IntsAre y ns) (hl:ns.length<=sizeLine) (hr:xk k callerA) (F:∀ i:Heap,K.In i->i.Ns mainGlobals I->xB P w K I i CX k W fd [x] sp) (t:∀ (s:zn) (u:Value),BindsTo s fd ⟨[u],[]⟩ [(x,u)]) (R:∀ H:Hp,zrC H->SqL K H a (ns.map V.int)->sp [.ref a] H (λv _=>v=.bl true) λ_ _ _=>False) (Y:∀ H e j,CX [] H c (λ_ _ _=>False) e j->False) :
 codeAny (model P w) callerA (.call (.ref W) ⟨[.ref a],[]⟩) (λr j=>r=.ok (.ret (.bool true))/\OldK c.heap j.heap/\j.os=c.os/\AllBare j.gens) c:=by
 have rv:=zhy hi
 have C:=hi.length
 -- from an abstract heap in which nothing but the script may be tracked
 have p:∀ H:Hp,zrC H->SqL K H a (ns.map V.int)->HOk P w H c.heap->(∀ b,H b≠none->b=a)->(H a≠none->K.lookup a=none) ->
  codeAny (model P w) callerA (.call (.ref W) ⟨[.ref a],[]⟩) (λr j=>r=.ok (.ret (.bool true))/\OldK c.heap j.heap/\j.os=c.os/\AllBare j.gens) c:=by
  intro H Z hS M hA hK
  have f:∀ {b:Addr} {o:Obj},c.heap.get? b=some o->H b=none->(zky c.heap H).get? b=some o:=λe n=>zi6 e n
  have X:∀ {b:Addr} {o:Obj} {L:Array DictEntry} {A:Nat},c.heap.get? b=some o->o.data=.dict L A->H b=none:=λ{b o L A} e d=>by
   cases q:H b with
   | none=>rfl
   | some u =>
    have T:b=a:=hA b (by rw[q];simp)
    subst T
    rw[O]at e;cases e
    have d':Data.seq y.toArray _=Data.dict L A:=d
    cases d'
  have l:∀ {b:Addr} {m:wn},c.heap.Ns b m->(zky c.heap H).Ns b m:=λ{b m} ⟨o,L,A,e,d,r⟩=>⟨o,L,A,f e (X e d),d,r⟩
  have B:K.In (zky c.heap H):=λb o e=>f (KX b o e) (by
   cases q:H b with
   | none=>rfl
   | some u =>
    have T:b=a:=hA b (by rw[q];simp)
    subst T
    rw[hK (by rw[q];simp)]at e;cases e)
  have hM:Mod K I (zky c.heap H):=⟨B,l J,⟨S,l g,U⟩,let ⟨mc,h1,h2⟩:=E;⟨mc,l h1,h2⟩⟩
  have e0:zkC P w K I (zky c.heap H) callerA [] c H:=⟨rfl,hM,λb o e=>znv e,Nat.le_of_eq (zg8 _ _),trivial,λb g=>absurd (show b∈([]:xS)from g) (by simp),M,.of_eq hg⟩
  refine u1l ((F _ B (l J)).run callerA [] c H ⟨[.ref a],[]⟩ [.ref a] [.ref a] _ _ hr e0 (t c (.ref a)) (.cons rfl .nil) (R H Z hS)) λr j h=>?_
  cases r with
  | error e=>exact(Y H e j h).elim
  | ok fl =>
   cases fl with
   | next=>exact False.elim h
   | brk=>exact False.elim h
   | cont=>exact False.elim h
   | ret u =>
    obtain⟨v,H',os,D,un,N,r',q⟩:=h
    have q':v=.bl true:=q
    subst q'
    obtain rfl:u=Value.bool true:=r'
    refine⟨rfl,OldK.of_keep λb o e=>?_,os,D⟩
    cases q:H b with
    | none=>exact un.keep b o e q (by intro z;exact absurd (show b∈([]:xS)from z) (by simp)) (by simp)
    | some u =>
     rcases Z b with z | ⟨ob,xs,z⟩
     .rw[q]at z;cases z
     .have z2:=un.frzs b ob _ z
      obtain⟨e1,_⟩:=M b _ z
      obtain⟨e2,_⟩:=N b _ z2
      rw[e]at e1;cases e1
      exact e2
 cases Q:K.lookup a with
 | some o =>
  -- the script is one of the module's own objects
  have e:=KX a o Q
  rw[O]at e
  cases e
  refine p (λ_=>none) (λ_=>.inl rfl) (.inr ⟨_,y.toArray,_,Q,rfl,rfl,rfl,by rw[t9,C];exact hl,by simpa using rv⟩) (λb u z=>by have G:(none:Option HO)=some u:=z;cases G) (λb z=>absurd rfl z) λz=>absurd rfl z
 | none =>
  refine p (λb=>if b=a then some (.frz { cls:=.type "list",data:=.seq y.toArray } (.lst (ns.map V.int)))else none) (λb=>?_) (.inl (.inr ⟨{ cls:=.type "list",data:=.seq y.toArray },t7 rfl⟩)) (λb u z=>?_) (λb z=>?_) λ_=>Q
  .by_cases g:b=a
   .exact .inr ⟨_,_,t7 g⟩
   .exact .inl (j6 g)
  .by_cases g:b=a
   .have G:=(t7 g).symm.trans z
    cases G
    subst g
    exact⟨O,by rw[u9];exact hl,y,_,rv,O⟩
   .have G:=(j6 g).symm.trans z
    cases G
  .by_cases g:b=a
   .exact g
   .exact absurd (j6 g) z
def walk_of {l:PySem.W.OpenLaw}{k:Nat}{g:zH}{YP:World->Heap->Prop}{d:DefRec}{K:Params->PySem.W.Frag}{CX:World->CXT}{sp:World->Sp}(S:l.most=some n)(A:n<=sizeLine)(B:d.params.defaults=[])(Q:xk k callerA)(I:∀ (w:World) (h:Heap),YP w h->(K w.params).In h) (F:∀ (w:World) (j:wn) (p:Addr) (h:Heap),(K w.params).In h->h.Ns mainGlobals j->j d.name=some (.ref p) ->
 ∃ t:FuncData,(∀ (s:zn) (u:Value),BindsTo s t ⟨[u],[]⟩ [(x,u)]) /\
  ∀ b:Heap,(K w.params).In b->b.Ns mainGlobals j->xB l.prog w (K w.params) j b (CX w) k p t [x] (sp w)) (z:∀ (w:World) (H:Hp) (a:Addr) (ns:zC),ns.length<=n->zrC H->SqL (K w.params) H a (ns.map V.int)->sp w [.ref a] H (λv _=>v=.bl true) λ_ _ _=>False) (C:∀ (w:World) (H:Hp) (s:zn) (e:Value) (y:zn),CX w [] H s (λ_ _ _=>False) e y->False) :
 PySem.W.WalkO q g XP YP l.row.toRowW d [] (λf D=>PySem.call f D):=by
 refine Att.attach_call S B λw s₀ M j X p o W T P a D ns G Y Z U L r m i c J=>?_
 have KX:=I w _ Y
 obtain⟨t,N,R⟩:=F w j p _ KX G.T.g r
 exact zkc KX G.T.g G.T.b G.T.builtins G.T.nolimit J m i (r0 c A) Q R N (λH E O=>z w H a ns c E O) λH e y=>C w H M e y
def x8 (s:Stmt):Arguments:=match s with
 | .FunctionDef _ a _ _ _ _ _ _ _ _=>a
 | _=>{ posonlyargs:=[],args:=[],vararg:=none,kwonlyargs:=[],kw_defaults:=[],kwarg:=none,defaults:=[] }
def ya (s:Stmt):wU:=match s with
 | .FunctionDef _ _ b _ _ _ _ _ _ _=>b
 | _=>[]
def zk (s:Stmt):Scope:=match s with
 | .FunctionDef _ _ _ _ _ _ sc _ _ _=>sc
 | _=>{ kind:=.function,names:=[],isGenerator:=false,isCoroutine:=false }
abbrev CX0:CXT:=λ_ _ _ _ _ _=>False
abbrev E0:XK:=λ_ _ _=>False
def zaG:wK CX0 X E0:=λ_ _ _ _ _ _ _ h=>h.elim
structure Fun (K:zv) (x qual:Str) (st:Stmt) (f:Addr) (fd:wh):Prop where
 ex:∃ (oc:Value) (od:y6) (kV doc pm:Value) (an:y6) (cdv ct:Value) (osl:Array (Option Value)),
  fd=W.fnOf x qual (x8 st) (ya st) (zk st) .none kV doc pm an cdv ct/\K.lookup f=some ⟨oc,od,.func fd,osl⟩/\W.codeIn K cdv qual=true
 kp:W.keepIn K (.ref f)=true
section
variable {P:zP}{w:World}{K:zv}{mg:wn}{base:Heap}
def Fun.ok {f:Addr}{N g:zH}{k:Nat}{l:Sp}(F:Fun K x a e f n)(S:yz N g (zk e))(i:∀ c H Q E,l c H Q E->c.length=g.length) (d:∀ (b:Value) (A:zR) (outer:List Env) (s:zn) (H:Hp) (c:zx) (Q:VK) (E:XK),xk k (A.deeper (envOfC a (zk e) s.heap.objs.size f b))->l c H Q E ->
 ∃ t,PSs (wZ CX0 P w K mg base N a (zk e) f b A outer s H E).nox (ya e) t/\t { nx:=λ_ H'=>Q .non H',rt:=Q } (start N c) H):xB P w K mg base CX0 (k+1) f n g l:=by
 obtain⟨y,v,kV,o,z,B,b,ct,u,rfl,r,j⟩:=F.ex
 refine zpY r j S i λA outer s H c Q E p m=>?_
 obtain⟨t,h,q⟩:=d b A outer s H c Q E p m
 exact⟨t,h.nox,q⟩
def Fun.binds {d:Stmt}{f:Addr}{ps:zH}(F:Fun K x a d f j)(h:∀ (kV c e:Value) (i:y6) (b ct:Value) (g:zB),g.length=ps.length->bindArgs (W.fnOf x a (x8 d) (ya d) (zk d) .none kV c e i b ct) ⟨g,[]⟩=pure (ps.zip g)):xG K j ps []:=by
 obtain⟨n,m,kV,c,e,i,b,ct,l,rfl,o,k⟩:=F.ex
 exact .all (h kV c e i b ct)
def Xr {x a:Str}{st:Stmt}{f:Addr}{i:Value}{j h:y6}{e:Array (Option Value)}{kV d g b ct:Value}(l:K.lookup f=some ⟨i,j,.func (W.fnOf x a (x8 st) (ya st) (zk st) .none kV d g h b ct),e⟩)
 (c:W.codeIn K b a=true) (k:W.keepIn K (.ref f)=true):Fun K x a st f (W.fnOf x a (x8 st) (ya st) (zk st) .none kV d g h b ct):=⟨⟨i,j,kV,d,g,h,b,ct,e,rfl,l,c⟩,k⟩
end
def zpT {A:zR}{k:Nat}(a:xk k A):A.units+1<cLine:=l7 (u0P (by decide:1<=64) _) a.units
def vT {n:Nat}(h:n<=1000):n<sizeLine:=l7 h (by decide)
section
variable {X:Cx}
def pv (i:Nat) (d:X.N[i]?=some x:=by rfl) (c:Vis X.env.scope x:=by first | exact Or.inl rfl | exact Or.inr (Or.inl rfl) | exact Or.inr (Or.inr rfl)) (e:(x == ("__debug__":Str))=false:=by decide) (b:(x == ("__classdict__":Str))=false:=by decide):PE X (.Name x a) (Y2 i):=zqd d c e b
end
def zX (H H':Hp):Prop:=∀ b o,H b=some o->H' b=some o
def zX.refl (H:Hp):zX H H:=λ_ _ h=>h
def zX.trans (a:zX H H1)(b:zX H1 H2):zX H H2:=λc o h=>b c o (a c o h)
def zX.free {H H':Hp}(e:zX H H')(h:H' l=Option.none):H l=Option.none:=by
 cases q:H l with
 | none=>rfl
 | some o =>
  rw[e l o q]at h
  cases h
def zX.seq {K:zv}{H H':Hp}{a:Addr}{b:zx}(e:zX H H')(h:SqL K H a b):SqL K H' a b:=by
 rcases h with (h | ⟨o,h⟩) | h
 .exact .inl (.inl (e _ _ h))
 .exact .inl (.inr ⟨o,e _ _ h⟩)
 .exact .inr h
section
variable {κ:Type}[DecidableEq κ]
def zdY (a:List (κ × V))(k:κ):Option V:=(a.find? λb=>decide (b.1=k)).map (·.2)
def zdo (a:List (κ × V))(k:κ)(v:V):List (κ × V) :=
 if (a.any λb=>decide (b.1=k))=true then a.map (λb=>if b.1=k then (b.1,v)else b)else a++[(k,v)]
def X7 {p:κ × V}{k:κ}(e:p.1=k):zdY (p::r) k=some p.2:=by simp[zdY,u00,e]
def Wa {p:κ × V}{k:κ}(e:¬ p.1=k):zdY (p::r) k=zdY r k:=by simp[zdY,u00,e]
def za9 (k:κ):∀ a:List (κ × V),(a.any λb=>decide (b.1=k))=(zdY a k).isSome
 | []=>rfl
 | p::r=>by
  rw[u15]
  by_cases e:p.1=k
  .simp only[X7 e,q0 e,Bool.true_or,Option.isSome_some]
  .rw[Wa e,t8 e,Bool.false_or];exact za9 k r
def W9 (a:List (κ × V))(k:κ)(v:V):(zdo a k v).length<=a.length+1:=by
 unfold zdo
 split
 .rw[u9];omega
 .rw[j4,k7,u1p];omega
def zdr.isSome_eq {o:Option V}{u:Option Value}(r:zdr o u):o.isSome=u.isSome:=by
 cases o with
 | none=>cases u with
  | none=>rfl
  | some _=>exact(show False from r).elim
 | some _=>cases u with
  | none=>exact(show False from r).elim
  | some _=>rfl
def KV.val {f:List (κ × Value)}(r:KV a f)(k:κ):zdr (zdY a k) (valueAt f k):=by
 unfold KV at r
 induction r with
 | nil=>exact True.intro
 | @cons p q l c h t i =>
  obtain⟨g,j⟩:=h
  by_cases e:p.1=k
  .have d:q.1=k:=g.symm.trans e
   have b:valueAt (q::c) k=some q.2:=by simp[valueAt,u00,d]
   rw[X7 e,b];exact j
  .have d:¬ q.1=k:=λz=>e (g.trans z)
   have b:valueAt (q::c) k=valueAt c k:=by simp[valueAt,u00,d]
   rw[Wa e,b];exact i
def KV.any {a:List (κ × V)}{c:List (κ × Value)}(r:KV a c)(k:κ):(a.any λb=>decide (b.1=k))=c.any λb=>decide (b.1=k):=by
 unfold KV at r
 induction r with
 | nil=>rfl
 | cons h t d=>rw[u15,u15,d,h.1]
def KV.repl {b:List (κ × V)}{d:List (κ × Value)}(r:KV b d)(k:κ)(i:xi y u) :
 KV (b.map λa=>if a.1=k then (a.1,y)else a) (d.map λa=>if a.1=k then (a.1,u)else a):=by
 unfold KV at r ⊢
 induction r with
 | nil=>exact .nil
 | @cons p q j l h t f =>
  rw[n0,n0]
  refine .cons ?_ f
  obtain⟨c,g⟩:=h
  by_cases e:p.1=k
  .rw[t7 e,t7 (c.symm.trans e)];exact⟨c,i⟩
  .rw[j6 e,j6 (λz=>e (c.trans z))];exact⟨c,g⟩
def KV.put (r:KV a b)(k:κ)(c:xi y u):KV (zdo a k y) (stored b k u):=by
 unfold zdo stored
 rw[r.any k]
 by_cases e:(b.any λd=>decide (d.1=k))=true
 .rw[t7 e,t7 e];exact r.repl k c
 .rw[j6 e,j6 e];exact Paired.snoc r ⟨rfl,c⟩
def KV.length {a:List (κ × V)}{b:List (κ × Value)}(r:KV a b):a.length=b.length:=u2O r
end
def zmF {w:World}{k:Key}(r:xi (kV k) u):(wu P w).is k u=true:=by
 cases k with
 | inl i=>obtain⟨t,e⟩:=(show ∃ t,u=Value.int i t from r);subst e;exact zdp P w i t
 | inr x=>obtain⟨t,e⟩:=(show ∃ t,u=Value.str x t from r);subst e;exact zcG P w x t
def zcj {w:World}:∀ {a:List Key} {b:zB},yw (a.map kV) b->ItemsAre (wu P w) a b
 | [],_,r=>by rw[List.map_nil]at r;cases r;exact .nil
 | k::a,_,r=>by
  rw[n0]at r
  cases r with
  | cons h t=>exact .cons (zmF h) (zcj t)
abbrev KT (H:Hp):zaa->List (List Key × Addr × Value)->Prop:=Paired λp q=>p.1=q.1/\H q.2.1=some (.tup (p.1.map kV))/\xi p.2 q.2.2
def KT.val {g:List (List Key × Addr × Value)}(r:KT H a g)(k:List Key):zdr (zdY a k) ((atKey g k).map (·.2)):=by
 induction r with
 | nil=>exact True.intro
 | @cons p q l c h t i =>
  obtain⟨f,_,j⟩:=h
  by_cases e:p.1=k
  .have d:q.1=k:=f.symm.trans e
   have b:atKey (q::c) k=some q.2:=by simp[atKey,u00,d]
   rw[X7 e,b];exact j
  .have d:¬ q.1=k:=λz=>e (f.trans z)
   have b:atKey (q::c) k=atKey c k:=by simp[atKey,u00,d]
   rw[Wa e,b];exact i
def KT.repl {a:zaa}{f:List (List Key × Addr × Value)}(r:KT H a f)(k:List Key)(j:xi y u) :
 KT H (a.map λc=>if c.1=k then (c.1,y)else c) (f.map (putAt k u)):=by
 induction r with
 | nil=>exact .nil
 | @cons p q l m h t g =>
  rw[n0,n0]
  refine .cons ?_ g
  obtain⟨b,d,i⟩:=h
  unfold putAt
  by_cases e:p.1=k
  .rw[t7 e,t7 (b.symm.trans e)];exact⟨b,d,j⟩
  .rw[j6 e,j6 (λz=>e (b.trans z))];exact⟨b,d,i⟩
def KT.put {H:Hp}(r:KT H a c)(k:List Key)(g:H b=some (.tup (k.map kV)))(d:xi y u) :
 KT H (zdo a k y) (storedH c k b u):=by
 have e:(a.any λf=>decide (f.1=k))=(atKey c k).isSome:=by
  rw[za9,(r.val k).isSome_eq,u1E]
 unfold zdo storedH
 rw[e]
 by_cases q:(atKey c k).isSome=true
 .rw[t7 q,t7 q];exact r.repl k d
 .rw[j6 q,j6 q];exact Paired.snoc r ⟨rfl,g,d⟩
def KT.keeps {H H':Hp}{d:List (List Key × Addr × Value)}(r:KT H a d)(e:∀ b c,H b=some (.tup c)->H' b=some (.tup c)):KT H' a d :=
 Paired.mapP r λ_ _ z=>⟨z.1,e _ _ z.2.1,z.2.2⟩
section
variable {P:zP}{w:World}{H:Hp}{h:Heap}{a:Addr}
def zqF (ok:HOk P w H h)(e:Rd H a u):yT P w H h a u:=e.ok ok
def zok {b:List (Key × V)}(ok:HOk P w H h)(e:Rd H a (.dK b)):b.length<=sizeLine/\(a == sysModules)=false/\∃ c,KV b c/\h.DictOf (wu P w) a c :=
 show yT P w H h a (.dK b)from zqF ok e
def zry {b:List (Key × V)}(ok:HOk P w H h)(e:H a=some (.dK b)):b.length<=sizeLine/\(a == sysModules)=false/\∃ c,KV b c/\h.DictOf (wu P w) a c:=zok ok (.inl e)
def zhp {b:List Key}(ok:HOk P w H h)(e:H a=some (.tup (b.map kV))):(tupleKind (wu P w)).is h b a:=by
 obtain⟨_,c,r,o,d,f,n,g⟩:=(show yT P w H h a (.tup (b.map kV))from ok a _ e)
 exact⟨o,c.toArray,n,d,f,g,by simpa using zcj r⟩
def zo0 {b:zaa}(ok:HOk P w H h)(e:Rd H a (.dT b)):b.length<=sizeLine/\(a == sysModules)=false /\
 ∃ d,KT H b d/\h.DictOfH (tupleKind (wu P w)) a d:=by
 obtain⟨z,y,d,r,o,A,i,s,v,k,u,n⟩:=(show yT P w H h a (.dT b)from zqF ok e)
 refine⟨z,y,d,r,o,A,i,s,v,k,u,λx c=>?_,n⟩
 have f:∀ {l:zaa} {m:List (List Key × Addr × Value)},KT H l m->∀ x∈m,(tupleKind (wu P w)).is h x.1 x.2.1:=by
  intro l m q
  induction q with
  | nil=>intro x c;exact nomatch c
  | @cons p q B C g t j =>
   intro x c
   rcases q7.mp c with e | c
   .subst e
    exact zhp ok (by rw[<-g.1];exact g.2.1)
   .exact j x c
 exact f r x c
def zrI {b:zaa}(ok:HOk P w H h)(e:H a=some (.dT b)):b.length<=sizeLine/\(a == sysModules)=false /\
 ∃ c,KT H b c/\h.DictOfH (tupleKind (wu P w)) a c:=zo0 ok (.inl e)
end
def zrQ (H:Hp)(a:Addr)(y:V)(r:Option V):Prop :=
 (∃ c k,Rd H a (.dK c)/\y=kV k/\r=zdY c k)\/∃ c k b,Rd H a (.dT c)/\y=.ref b/\H b=some (.tup (k.map kV))/\r=zdY c k
def zjo (H:Hp)(a:Addr)(y v:V)(H':Hp):Prop :=
 (∃ c k,H a=some (.dK c)/\y=kV k/\c.length<sizeLine/\H'=upd H a (.dK (zdo c k v))) \/
 ∃ c k b,H a=some (.dT c)/\y=.ref b/\H b=some (.tup (k.map kV))/\c.length<sizeLine/\H'=upd H a (.dT (zdo c k v))
def zjo.k {H:Hp}{b:List (Key × V)}{k:Key}(e:H a=some (.dK b))(c:b.length<sizeLine):zjo H a (kV k) v (upd H a (.dK (zdo b k v))):=.inl ⟨b,k,e,rfl,c,rfl⟩
def zjo.t {H:Hp}{c:zaa}{k:List Key}(e:H a=some (.dT c))(d:H b=some (.tup (k.map kV)))(f:c.length<sizeLine) :
 zjo H a (.ref b) v (upd H a (.dT (zdo c k v))):=.inr ⟨c,k,b,e,rfl,d,f,rfl⟩
section
variable {X:Cx}{pins:xC}{σ:St}{H:Hp}{s:zn}{a:Addr}{y v:V}{u r:Value}{o:Option V}{A:zR}{E:yU}
def Inv.big (I:Inv X pins σ H s):sysModules<s.heap.objs.size:=by
 have h:mainGlobals<s.heap.objs.size:=(I.mod.glob.keeps I.bk).lt
 exact Nat.lt_trans (by decide) h
def d_in {Q:yU}(r:A.units+1<cLine)(I:Inv X pins σ H s)(g:zrQ H a y o)(n:xi y u)(h:∀ m,Inv X pins σ H m->Q (.bool o.isSome) m) :
 wpAny (model X.prog X.w) A (compareOp .In u (.ref a)) Q E s:=by
 rcases g with ⟨d,k,e,f,l⟩ | ⟨d,k,b,e,f,p,l⟩
 .subst f
  obtain⟨z,j,t,c,i⟩:=zok I.hok e
  refine wpAny_in_of (zmF n) j i.mapOf ?_
  rw[<-(c.val k).isSome_eq,<- l]
  exact h _ (I.tok _)
 .subst f
  cases (show u=Value.ref b from n)
  obtain⟨z,j,v,c,i⟩:=zo0 I.hok e
  refine wpAny_in_heap (tupleKind_room_in1 r) (zhp I.hok p) j i ?_
  have q:=(c.val k).isSome_eq
  rw[u1E]at q
  rw[<-q,<- l]
  exact h _ (I.tok _)
def zfP {c:Heap}{j:Nat}{f:HO}(I:Inv X pins σ H s)(k:Mut (H a))(g:Heap.SameBut a s.heap c)(h:∃ q,c.get? a=some q)(d:yT X.prog X.w (upd H a f) c a f) :
 Inv X pins σ (upd H a f) { s with heap:=c,toks:=j } :=
 I.write (x:=a) (e:=a) k (.inl rfl) (λb q i z=>(g.2 b i).trans z) h d
def zpn {w:World}{e:Heap}{b:List (Key × V)}{d:List (Key × Value)}(z:b.length<=sizeLine)(g:(a == sysModules)=false)(c:KV b d)(f:e.DictOf (wu P w) a d) :
 yT P w H' e a (.dK b):=⟨z,g,d,c,f⟩
def zhU {Q:Unit->Shared->Prop}(U:A.units+1<cLine)(I:Inv X pins σ H s)(g:zjo H a y v H')(G:xi y u)(B:xi v r)(h:∀ D,Inv X pins σ H' D->Q () D) :
 wpAny (model X.prog X.w) A (setItem (.ref a) u r) Q E s:=by
 rcases g with ⟨d,k,e,t,l,m⟩ | ⟨d,k,b,e,t,F,l,m⟩
 .subst t m
  obtain⟨z,o,L,f,w⟩:=zry I.hok e
  have n:L.length<=sizeLine:=by rw[<-f.length];exact z
  have x:(zdo d k v).length<=sizeLine:=by have:=W9 d k v;omega
  refine wpAny_setItem_pairs (hsz:=n) (zmF G) w λJ i p=>h _ ?_
  have S:∃ q,J.get? a=some q:=let ⟨q,_,_,j,_⟩:=i;⟨q,j⟩
  exact zfP I (by rw[e];exact True.intro) p S (zpn x o (f.put k B) i)
 .subst t m
  cases (show u=Value.ref b from G)
  obtain⟨z,o,O,f,w⟩:=zrI I.hok e
  have n:O.length<=sizeLine:=by rw[<-u2O f];exact z
  have x:(zdo d k v).length<=sizeLine:=by have:=W9 d k v;omega
  refine wpAny_setItem_heap (hsz:=n) (tupleKind_room_in1 U) (zhp I.hok F) w λJ i p=>h _ ?_
  obtain⟨q,P,K,j,N,R,T,_,M⟩:=i
  refine zfP I (by rw[e];exact True.intro) p ⟨q,j⟩ ⟨x,o,_,(f.put k F B).keeps λc V C=>?_,q,P,K,j,N,R,T,M⟩
  rw[zi (ziV C e (λz=>nomatch z))]
  exact C
end
def zrk (c ty b:TE):TS:=λD σ H=>b σ H λv H1=>c σ H1 λx H2=>ty σ H2 λy H3=>∃ a H4,x=.ref a/\zjo H3 a y v H4/\D.nx σ H4
section
variable {X:Cx}{o i e value:Expr}{pos pos' tpos:Pos}{td ty tv:TE}
def znq (w:X.A.units+1<cLine)(t:PE X o td)(d:PE X i ty)(p:PE X value tv)(k:swapsWith value (some (.Subscript o i pos')) pos.line X.env=pure false) :
 PS X (.Assign [.Subscript o i pos'] value pos) (zrk td ty tv):=by
 intro b s σ H D I h
 refine wpAny_Assign_Subscript (thn (p b s σ H _ I h) λr e ⟨v,H1,I1,j,m⟩=>thn (t b e σ H1 _ I1 m) λu f ⟨x,H2,I2,l,c⟩=>thn (d b f σ H2 _ I2 c) λB z hh9=>?_) k
 obtain⟨y,H3,I3,q,a,H4,ex,g,n⟩:=hh9
 subst ex
 obtain rfl:u=Value.ref a:=l
 exact zhU w I3 g q j λA I4=>⟨σ,H4,I4,n⟩
end
def zj5 {w:World} (h:Heap) (a:sysModules<h.objs.size):yT P w H (h.push { cls:=.type "dict",data:=.dict #[] }) h.objs.size (.dK []) :=
 ⟨u0b _,g0.mpr (i7 (k6 a)),[],.nil,Heap.DictOf.new h⟩
def zkP {w:World} (h:Heap) (a:sysModules<h.objs.size):yT P w H (h.push { cls:=.type "dict",data:=.dict #[] }) h.objs.size (.dT []) :=
 ⟨u0b _,g0.mpr (i7 (k6 a)),[],.nil,_,#[],0,j8 _ rfl,⟨rfl,rfl,rfl⟩,rfl,rfl,u1L⟩
def zoM:TE:=λ_ H Q=>∀ p,H p=none->Q (.ref p) (upd H p (.dK []))
def zqj:TE:=λ_ H Q=>∀ p,H p=none->Q (.ref p) (upd H p (.dT []))
section
variable {X:Cx}{pos:Pos}
def zkW:PE X (.Dict [] [] pos) zoM:=λb s σ H Q I h =>
 wpAny_Dict_empty ⟨.ref s.heap.objs.size,_,I.laid (a:=s.heap.objs.size) (o:=.dK []) (t':=s.toks) (λ_ _ q=>u6 _ q) (t6 _) (zj5 s.heap I.big),rfl,h _ (I.hok.fresh (t6 _))⟩
def zjj:PE X (.Dict [] [] pos) zqj:=λb s σ H Q I h =>
 wpAny_Dict_empty ⟨.ref s.heap.objs.size,_,I.laid (a:=s.heap.objs.size) (o:=.dT []) (t':=s.toks) (λ_ _ q=>u6 _ q) (t6 _) (zkP s.heap I.big),rfl,h _ (I.hok.fresh (t6 _))⟩
end
def zdn {X:Cx}:v5 X (.builtin "isinstance") (λc H Q=>∃ x n t b,c=[x,.ty n]/\zeg X.K H x t/\W.kitOne X.K t (.type n)=some b/\Q (.bl b) H):=by
 intro a s σ H c i Q I r h
 obtain⟨x,n,t,b,rfl,ty,e,q⟩:=h
 obtain⟨u,d,rfl,f,rt⟩:=zj1 r
 cases (show d=Value.type n from rt)
 exact zfV I f ty e λg=>⟨.bl b,H,I.tok _,rfl,q⟩
def zi5:OpR X (compareOp .Is) (λx y H Q=>∃ i j,x=.bl i/\y=.bl j/\Q (.bl (i == j)) H):=by
 intro a s σ H x y v u Q I b c h
 obtain⟨i,j,rfl,rfl,q⟩:=h
 cases b
 cases c
 refine wpAny_is_plain (by rfl) ⟨.bl (i == j),H,I,?_,q⟩
 cases i <;> cases j <;> rfl
def zc8:OpR X (compareOp .IsNot) (λx y H Q=>∃ i j,x=.bl i/\y=.bl j/\Q (.bl (!(i == j))) H):=by
 intro a s σ H x y v u Q I b c h
 obtain⟨i,j,rfl,rfl,q⟩:=h
 cases b
 cases c
 refine wpAny_isNot_plain (by rfl) ⟨.bl (!(i == j)),H,I,?_,q⟩
 cases i <;> cases j <;> rfl
def zlt (K:zv):R2:=λx y H Q=>∃ a b c d,x=.ref a/\y=.ref b/\SqT K H a c/\SqT K H b d/\c.length+d.length<=sizeLine /\
 (c=[]->Q (.ref b) H)/\(c≠[]->d=[]->Q (.ref a) H)/\(c≠[]->d≠[]->∀ p,H p=none->Q (.ref p) (upd H p (.tup (c++d))))
def zi8 {X:Cx}:OpR X (binaryOp .Add) (zlt X.K):=by
 intro d s σ H x y v u Q I w C h
 obtain⟨a,b,t,L,rfl,rfl,A,B,J,F,N,E⟩:=h
 by_cases j:t=[]
 .subst j
  cases w
  cases C
  obtain⟨P,r,p,_⟩:=I.tuple A
  obtain⟨g,R,G,_⟩:=I.tuple B
  cases r
  obtain⟨⟨cls,O,data,M⟩,D,o,n,q⟩:=id p
  obtain⟨⟨z,l,m,k⟩,c,f,K,i⟩:=id G
  simp only at o q f i
  subst o q f i
  exact concat_meets ⟨_,D,rfl⟩ ⟨_,c,rfl⟩ noFill_tuple_add seq_tuple_add u1A u1v (u1i _ _)
   (tuple_addW0 a b #[] g.toArray n K O l M k rfl) ⟨D,c,⟨.ref b,H,I,rfl,F rfl⟩⟩
 .refine znQ d s σ H (.ref a) (.ref b) v u Q I w C ⟨a,b,t,L,rfl,rfl,A,B,j,J,?_⟩
  exact⟨λe=>N j e,λe=>E j e⟩
inductive Xt:St->St->Prop where
 | nil:Xt [] []
 | non {a:Option V} {s t:St}:Xt s t->Xt (none::s) (a::t)
 | same {a:Option V} {s t:St}:Xt s t->Xt (a::s) (a::t)
def Xt.refl:∀ s:St,Xt s s
 | []=>.nil
 | _::r=>.same (Xt.refl r)
def Xt.length {s t:St}(h:Xt s t):s.length=t.length:=by
 induction h with
 | nil=>rfl
 | non _ a=>simp[a]
 | same _ a=>simp[a]
def Xt.get {t:St}(h:Xt s t):∀ (i:Nat) (v:V),s[i]?=some (some v)->t[i]?=some (some v):=by
 induction h with
 | nil=>intro i v e;exact e
 | non _ a =>
  intro i v e
  cases i with
  | zero=>simp at e
  | succ i=>simpa using a i v (by simpa using e)
 | same _ a =>
  intro i v e
  cases i with
  | zero=>simpa using e
  | succ i=>simpa using a i v (by simpa using e)
def Xt.set {n:Nat}:∀ {s t:St},Xt s t->s[n]?=some none->Xt s (t.set n (some v))
 | _,_,.nil,_=>.nil
 | _,_,.non (a:=a) h,e=>by
  cases n with
  | zero=>exact .non h
  | succ n=>exact .non (Xt.set h (by simpa using e))
 | _,_,.same (a:=a) h,e=>by
  cases n with
  | zero =>
   have b:a=none:=by simpa using e
   subst b
   exact .non h
  | succ n=>exact .same (Xt.set h (by simpa using e))
def Inv.sub (I:Inv X a σ H s)(h:Xt b σ):Inv X a b H s:=I.weak h.length h.get
def PIf (X:Cx)(b:y9)(t:TT):Prop :=
 ∀ (a:xC) (s:zn) (σ:St) (H:Hp) (Q:Bool->Hp->Prop),Inv X a σ H s->t σ H Q ->
  wpAny (model X.prog X.w) X.A (forIn b true λc r=>if r=true then do let ok<-isTrue c X.env (eval c X.env);pure (ForInStep.yield ok)else pure (ForInStep.yield r)) (TP X a σ Q) X.xe s
def tYes:TT:=λ_ H Q=>Q true H
def zf6:PIf X [] tYes:=by
 intro a s σ H Q I h
 rw[u2D]
 exact t5 ⟨H,I,h⟩
def znc {t:TT}(d:PT X c t):PIf X [c] t:=by
 intro a s σ H Q I h
 rw[u1o]
 refine u5 ?_
 rw[t7 rfl]
 refine u5 (thn (d a s σ H Q I h) λb e q=>t5 ?_)
 show wpAny _ _ (forIn [] b _) _ _ _
 rw[u2D]
 exact t5 q
section
variable {prog:zP}{w:World}{A:zR}{R:Result->Shared->Prop}{s:zn}
def YT {g:y9}{f:Value}(I:Nat->Shared->Prop) (turn:∀ n s,I n s->wpAny (model prog w) A (pyNext l) (λr q=>match r with
 | none=>R (.ok .next) q
 | some v=>wpAny (model prog w) A (letOwnedTupleGo a l v) (λ_ k=>wpAny (model prog w) A (assign a env v) (λ_ y =>
  wpAny (model prog w) A (forIn g true λc r=>if r=true then do let ok<-isTrue c env (eval c env);pure (ForInStep.yield ok)else pure (ForInStep.yield r)) (λok o =>
   if ok=true then wpAny (model prog w) A (eval i env) (λx u =>
    wpAny (model prog w) A (call (.builtin "list.append") [f,x]) (λ_ B=>∃ m,m<n/\I m B) (λ_ _=>False) u) (λ_ _=>False) o
   else ∃ m,m<n/\I m o) (λ_ _=>False) y) (λ_ _=>False) k) (λ_ _=>False) q) (λ_ _=>False) s) (n:Nat) (h:I n s) :
 codeAny (model prog w) A (.compLoop (.ListComp i [⟨a,e,g,0⟩] b j) 0 l f env) R s:=by
 refine codeAny_loop rfl I (λn s C=>?_) n h
 show wpAny _ A ((compTurn (.ListComp i [⟨a,e,g,0⟩] b j) 0 l f env).onRaise (λx=>do noteFrame x env;theTreesLotGoes x)) _ _ s
 refine wpAny_noted ?_
 rw[compTurn_list]
 refine u5 (u1y (u5 (g6 (turn n s C) (λr q t=>?_) λ_ _ d=>d.elim)))
 cases r with
 | none=>exact t5 t
 | some v =>
  refine u5 (g6 t (λ_ k p=>?_) λ_ _ d=>d.elim)
  refine u5 (g6 p (λ_ y E=>u5 (g6 E (λok o z=>?_) λ_ _ d=>d.elim)) λ_ _ d=>d.elim)
  cases ok with
  | false=>exact t5 ⟨rfl,z⟩
  | true =>
   exact u5 (u5 (g6 z (λx u D=>u5 (g6 D (λ_ B F=>t5 (t5 ⟨rfl,F⟩)) λ_ _ d=>d.elim)) λ_ _ d=>d.elim))
end
def tLC (f:TI)(n:Nat)(g:TG)(h:TT)(e:TE):TE:=fun σ H Q=>f σ H λJ H1=>∀ D,H1 D=none->∃ W:Nat->Nat->zx->Hp->Prop,(∃ m,W 0 m [] (upd H1 D (.lst []))) /\
 ∀ i m a H2,W i m a H2->(J.stop i H2/\Q (.ref D) H2)\/(J.go i H2/\a.length<sizeLine/\∀ x H3,J.yld i H2 x H3->g x (List.replicate n none++σ) H3 λd H4=>h d H4 λb H5 =>
  if b=true then e d H5 λy H6=>H6 D=some (.lst a)/\∃ c,c<m/\W (i+1) c (a++[y]) (upd H6 D (.lst (a++[y])))else ∃ c,c<m/\W (i+1) c a H5)
def Y5 {α:Type}:∀ {l:List (Str × α)} {y:Str},y∈l.map Prod.fst->∃ c,l.lookup y=some c
 | [],_,h=>by simp at h
 | (k,v)::r,y,h=>by
  by_cases e:y=k
  .exact⟨v,by simp[List.lookup,e]⟩
  .obtain⟨c,b⟩:=Y5 (l:=r) (y:=y) (by simpa [e]using h)
   have a:(y == k)=false:=g0.mpr e
   exact⟨c,by simp only[List.lookup,a];exact b⟩
def vE {α:Type}{P:α->Prop}:∀ p∈([]:List α),P p:=λ_ h=>nomatch h
def all_cons {α:Type}{P:α->Prop}{a:α}{l:List α}(h:P a)(t:∀ p∈l,P p):∀ p∈a::l,P p:=λp b=>by
 rcases q7.mp b with e | b
 .rw[e];exact h
 .exact t p b
def gs1 (σ:St)(v:V)(H:Hp)(Q:v7)(h:Vv 0 v (List.replicate 1 none++σ) H Q):Vv 0 v (List.replicate 1 none++σ) H (λa H2=>Xt (List.replicate 1 none++σ) a/\Q a H2):=⟨.set (.refl _) rfl,h⟩
def XV (X:Cx)(L M:zH)(a:Scope)(b:Vr)(s₀:zn)(H₀:Hp)(ex:xS)(pn:xC):Cx :=
 { X with N:=L++M,s₀:=s₀,H₀:=H₀,env:=compEnvC a b s₀.heap.objs.size X.env,outer:=X.stack,stack:=X.stack,ex:=ex,fn:=λ_=>false,pn:=pn,xe:=λ_ _=>False }
structure wv (X:Cx) (L M:zH) (scope:Scope) (cl:Vr):Prop where
 clos:closureFor scope X.env=pure cl
 cell:∀ y∈scope.names,y.2≠.cell
 kind:scope.kind=.function
 names:∀ y∈scope.names,y.2=.local->scope.names.lookup y.1=some .local
 sub:∀ y c,cl.lookup y=some c->X.env.cells.lookup y=some c
 has:∀ y,((relabel scope X.env).names.lookup y=some .cell\/(relabel scope X.env).names.lookup y=some .free)->∃ c,cl.lookup y=some c
 mlen:M.length=X.N.length
 msk:∀ (i:Nat) y,M[i]?=some y->Vis (relabel scope X.env) y->X.N[i]?=some y
 vis:∀ (i:Nat) y,M[i]?=some y->Vis (relabel scope X.env) y->((relabel scope X.env).names.lookup y=some .cell\/(relabel scope X.env).names.lookup y=some .free)
 out:∀ (i:Nat) y,M[i]?=some y->Vis (relabel scope X.env) y->Vis X.env.scope y/\X.env.kindOf y≠some .local
def Inv.letGo {s:zn}(I:Inv X a σ H s)(f:zdG X a H C)(g:Heap.SameBut C s.heap j):Inv X a σ H { s with heap:=j }:=by
 obtain⟨k,u,x,p,m,r⟩:=f
 have h:∀ b,b∉[C]->b≠C:=λb i z=>i (by rw[z];exact j5.mpr rfl)
 refine I.call' (s':={ s with heap:=j }) (ch:=[C]) rfl ⟨λb o e _ _ d=>(g.2 b (h b d)).trans e,λb o e _ _ d=>⟨o.slots,(g.2 b (h b d)).trans e⟩,λ_ _ _ n _=>n,λb o e d=>⟨o,(g.2 b (h b d)).trans e⟩,λ_ _ q=>q,λ_ _ _ q=>q,λ_ w q=>⟨#[],by rw[q];simp⟩⟩ ?_ I.bare λb i=>?_
 .intro b t e
  refine(I.hok b t e).stay (λc v l q=>(g.2 c ?_).trans q) (λ_ q=>q) λ_ _ q=>q
  rintro rfl
  rcases l with z | z
  .rw[<-z,k]at e;cases e
  .rw[k]at z;cases z
 .rw[j5.mp i]
  exact⟨p,u,m,r⟩
def zf4 {X:Cx}{t:Expr}{L:zH}{g:TG}{tt:TT}(hc:X.calm=true)(S:wv X L M a cl)(hi:PI X tg t wi)(e6:∀ (σ:St) (v:V) (H:Hp) (Q:v7),g v (List.replicate L.length none++σ) H Q->g v (List.replicate L.length none++σ) H (fun σ2 H2=>Xt (List.replicate L.length none++σ) σ2/\Q σ2 H2))(hg:∀ s₀ H₀ ex pn,PG (XV X L M a cl s₀ H₀ ex pn) tg g)(ht:∀ s₀ H₀ ex pn,PIf (XV X L M a cl s₀ H₀ ex pn) a0 tt)(he:∀ s₀ H₀ ex pn,PE (XV X L M a cl s₀ H₀ ex pn) a8 te)(hs:∀ x,foldedSetIterable t X.env x=pure x:=by intro _;rfl) :
 ∀ (R:Pos) (f:xC) (s:zn) (σ:St) (H:Hp) (Q:VK),Inv X f σ H s->tLC wi L.length g tt te σ H Q ->
  (∀ (D C:Addr) (H':Hp) (A:zn),Inv X f σ H' A->(∃ m,A.heap.Ns C m)->zdG X f H' C->Q (.ref D) H'->compPost (model X.prog X.w) X.A X.xe use Qf (.ref D) C (.ok .next) A) ->
  wpAny (model X.prog X.w) X.A (comprehension (.ListComp a8 [⟨tg,t,a0,0⟩] a c1) a X.env R (newList []) false (eval t X.env) use) Qf X.xe s:=by
 intro R f s σ H Q I h fin
 refine wpAny_comprehension_free (use:=use) rfl hs S.clos S.kind S.names (thn (hi f s σ H _ I h) λv s1 h1=>thn h1 λe9 l h2=>?_)
 obtain⟨it,F,tn,J,H2,e,I2,T,c0,f2,q⟩:=h2
 subst e
 have hD:H2 l.heap.objs.size=none:=I2.hok.fresh (t6 _)
 obtain⟨W,⟨m0,w0⟩,turn⟩:=q _ hD
 refine l5 (wpAny_newFunctionEnv S.cell (by intro y hy;simp at hy) (λh₁ N O=>?_) S.kind)
 have I3:Inv X f σ (upd H2 l.heap.objs.size (.lst [])) { l with heap:=l.heap.push { cls:=.type "list",data:=.seq ([]:zB).toArray } }:=by
  refine I2.laid (t':=l.toks) (λb u e=>u6 _ e) (t6 _) ?_
  exact⟨u0b _,[],0,.nil,j8 _ rfl⟩
 generalize d0:({ l with heap:=l.heap.push { cls:=.type "list",data:=.seq ([]:zB).toArray } }:zn)=s3 at I3 N O ⊢
 have U:∀ b∈F,b<l.heap.objs.size:=λb j=>by
  obtain⟨o,ho,_⟩:=T.obj _ _ c0 b j
  exact q4 ho
 have d7:s3.heap.objs.size=l.heap.objs.size+1:=by rw[<-d0];exact p6 ..
 have e5:∀ b o,l.heap.get? b=some o->s3.heap.get? b=some o:=λb o e=>by rw[<-d0];exact u6 _ e
 have w:∀ b o,s3.heap.get? b=some o->h₁.get? b=some o:=λb o e=>(O.2 b (k6 (q4 e))).trans (u6 _ e)
 generalize d9:upd H2 l.heap.objs.size (.lst [])=H3 at I3 w0
 have b8:∀ b∈F,H3 b=none:=λb j=>by
  rw[<-d9,zi (k6 (U b j))]
  exact(f2 b j).1
 have c6:∀ b∈F,b∉frs X.stack:=λb j z=>by
  obtain⟨_,n1,n2,_⟩:=f2 b j
  rcases q7.mp (I3.stkSub b z)with e | e
  .exact n1 e
  .exact n2 e
 let Y:Cx:=XV X L M a cl s3 H3 F (X.pn++f)
 have OkY:Y.Ok:=by
  refine⟨I.ok.mod,S.kind,I.ok.glob,I.ok.blt,t6 _,λx y c h1 h2=>I.ok.inj x y c (S.sub x c h1) (S.sub y c h2),λx hx=>S.has x hx,(λx c h _=>absurd h u7),I.ok.hd,I.ok.frames,.inl rfl,λb j=>⟨?_,λx c e z=>?_⟩,
   λb o e=>I3.bs b o e,r0 I.ok.bsz I3.sz,λb o e j=>?_,c6,I3.stack,I3.stkFree⟩
  .show b≠s3.heap.objs.size
   exact k6 (q5 (U b j) (by rw[d7];exact u1g _))
  .exact(f2 b j).2.2.2.2.1 x c (S.sub x c e) z
  .rcases(f2 b j).2.2.2.1 with z | z
   .exact I.ok.noex b o e z
   .have h1:=q4 e
    have h2:=I.ok.bsz
    exact absurd (q5 h1 (r0 h2 z)) (u0h _)
 have I4:Inv Y [] (List.replicate L.length none++σ) H3 { s3 with heap:=h₁,toks:=s3.toks+([]:List (Str × Value)).length }:=by
  refine⟨OkY,rfl,I3.bare,Un.kept w,⟨_,N,λi y v e1 e2 e3=>?_⟩,λx c e=>?_,I3.hok.fresh (t6 _),λx c e=>I3.freeC x c (S.sub x c e),λp hp=>?_,I3.hok.kept w,?_⟩
  .have hi:¬ i<L.length:=λd6=>by
    rw[o9 (by simpa using d6),u0f]at e2
    split at e2 <;> cases e2
   have a6:M[i-L.length]?=some y:=by
    have e1:(L++M)[i]?=some y:=e1
    rw[o7 (by omega)]at e1
    exact e1
   have e0:σ[i-L.length]?=some (some v):=by rw[o7 (by simpa using u0E hi)]at e2;simpa using e2
   have d5:=S.msk _ y a6 e3
   obtain⟨ov,ok⟩:=S.out _ y a6 e3
   obtain⟨m,hn,hl⟩:=I3.loc
   obtain⟨u,ru,lk⟩:=hl _ y v d5 e0 ov
   refine⟨u,ru,?_⟩
   rcases lk with ⟨hk,_⟩ | ⟨_,c,e8,b0⟩
   .exact absurd hk ok
   .have kn:=S.vis _ y a6 e3
    obtain⟨c',c4⟩:=S.has y kn
    have:=S.sub y c' c4
    rw[e8]at this
    cases this
    refine .inr ⟨kn,c,c4,?_⟩
    obtain⟨o,ho,hd⟩:=b0
    exact⟨o,w _ _ ho,hd⟩
  .obtain⟨v,o,ho,hd⟩:=I3.cell x c (S.sub x c e)
   exact⟨v,o,w _ _ ho,hd⟩
  .have b4:p∈X.pn++f:=r8 (X.pn++f) ▸ hp
   obtain⟨a1,a2,a3,a4,a5⟩:=I3.pin p b4
   refine⟨w _ _ a1,a2,k6 (q4 a1),λz=>?_,a5⟩
   rcases q7.mp (I3.stkSub p.1 z)with e | e
   .exact a3 e
   .exact a4 e
  .show(List.replicate L.length none++σ).length=(L++M).length
   rw[j4,j4,List.length_replicate,I.len,S.mlen]
 have a7:∀ {H':Hp},(∀ b∈F,H' b=none)->∀ b∈F,zdG Y [] H' b:=λ{H'} hn b j=>by
  refine⟨hn b j,(OkY.exf b j).1,c6 b j,.inl j,(OkY.exf b j).2,λp hp=>?_⟩
  have b4:p∈X.pn++f:=r8 (X.pn++f) ▸ hp
  exact(f2 b j).2.2.2.2.2 p b4
 have b6:tn 0 h₁:=T.keep _ _ _ c0 λb j o e=>w b o (e5 b o e)
 -- behind the E
 have c5:∀ (H':Hp) (A:zn),Inv Y [] (List.replicate L.length none++σ) H' A->Q (.ref l.heap.objs.size) H'->compPost (model X.prog X.w) X.A X.xe use Qf (.ref l.heap.objs.size) s3.heap.objs.size (.ok .next) A:=λH' A J' q'=>by
  obtain⟨m,hn,_⟩:=J'.loc
  refine fin _ _ H' A (I3.call' (ch:=F) J'.os J'.base J'.hok J'.bare λb j=>?_) ⟨m,hn⟩ (I3.fpOk (t6 _) J'.free) q'
  obtain⟨_,n1,_,n3,n4,n5⟩:=f2 b j
  exact⟨n3,n1,n4,n5⟩
 have E:codeAny (model X.prog X.w) X.A (.compLoop (.ListComp a8 [⟨tg,t,a0,0⟩] a c1) 0 (.ref it) (.ref l.heap.objs.size) (compEnvC a cl s3.heap.objs.size X.env))
  (compPost (model X.prog X.w) X.A X.xe use Qf (.ref l.heap.objs.size) s3.heap.objs.size) { s3 with heap:=h₁,toks:=s3.toks+([]:List (Str × Value)).length }:=by
  refine YT (λn A=>∃ i K H',Inv Y [] (List.replicate L.length none++σ) H' A/\tn i A.heap/\(∀ b∈F,H' b=none)/\W i n K H') ?_ m0 ⟨0,[],H3,I4,b6,b8,w0⟩
  rintro n s5 ⟨i,K,H5,I5,b5,b9,w5⟩
  rcases turn i n K H5 w5 with ⟨d1,qn⟩ | ⟨go,c8,c3⟩
  .refine thn (T.done Y rfl rfl rfl hc i [] s5 _ H5 _ I5 (a7 b9) b5 d1) λr s6 hh9=>?_
   obtain⟨hr,I6⟩:=hh9
   subst hr
   exact c5 H5 s6 I6 qn
  .refine thn (T.item Y rfl rfl rfl hc i [] s5 _ H5 _ I5 (a7 b9) b5 go) λr s6 hh9=>?_
   obtain⟨u,hr,h6⟩:=hh9
   subst hr
   refine thn h6 λ_ s7 hh9=>?_
   obtain⟨x,H7,I7,r7,y7,a9,d4⟩:=hh9
   have I7':=I7.pinned (a7 d4) (T.obj _ _ a9)
   have g7:=e6 σ x H7 _ (c3 x H7 y7)
   refine thn (hg _ _ _ _ _ s7 _ H7 x u _ I7' r7 g7) λ_ s8 hh9=>?_
   obtain⟨σ8,H8,I8,P,q8⟩:=hh9
   have again:∀ {σ9:St} {H9:Hp} {s9:zn} {zs:zx},Inv Y ([]++VE F s7.heap) σ9 H9 s9->Xt (List.replicate L.length none++σ) σ9->(∃ m',m'<n/\W (i+1) m' zs H9) ->
    ∃ m,m<n/\∃ i K H',Inv Y [] (List.replicate L.length none++σ) H' s9/\tn i s9.heap/\(∀ b∈F,H' b=none)/\W i m K H':=λ{σ9 H9 s9 zs} I9 sub9 w9=>by
    obtain⟨m',hm,w9⟩:=w9
    refine⟨m',hm,i+1,zs,H9,(I9.sub sub9).unpinned,T.keep _ _ _ a9 λb j o e=>(I9.pin (b,o) (o0 _ (o0 _ (vM j e)))).1,λb j=>?_,w9⟩
    obtain⟨o,e,d⟩:=T.obj _ _ a9 b j
    exact(I9.pin (b,o) (o0 _ (o0 _ (vM j e)))).2.1
   refine thn (ht _ _ _ _ _ s8 σ8 H8 _ I8 q8) λb s9 hh9=>?_
   obtain⟨H9,I9,q9⟩:=hh9
   cases b with
   | false =>
    rw[j6 u7]at q9
    rw[j6 u7]
    exact again I9 P q9
   | true =>
    rw[t7 rfl]at q9
    rw[t7 rfl]
    refine thn (he _ _ _ _ _ s9 σ8 H9 _ I9 q9) λy G hh9=>?_
    obtain⟨yv,H10,I10,e7,Z,d8⟩:=hh9
    obtain⟨d3,B,k,rv,e4⟩:K.length<=sizeLine/\∃ (B:zB) (n:Nat),yw K B/\G.heap.get? l.heap.objs.size=some { cls:=.type "list",data:=.seq B.toArray n }:=I10.hok _ _ Z
    have c7:G.heap.PlainList l.heap.objs.size B.toArray:=⟨k,e4⟩
    refine wpAny_list_append_plain (hsz:=by rw[t9,<- rv.length];exact d3) c7 λd2 b7 c2=>?_
    obtain⟨k',c9⟩:=b7
    have I11:Inv Y ([]++VE F s7.heap) σ8 (upd H10 l.heap.objs.size (.lst (K++[yv]))) { G with heap:=d2 }:=by
     refine I10.write (x:=l.heap.objs.size) (e:=l.heap.objs.size) (t':=G.toks) (by rw[Z];exact True.intro) (.inl rfl) (λb u j e=>(c2.2 b j).trans e) ⟨_,c9⟩ ?_
     refine⟨by rw[j4];show K.length+1<=sizeLine;exact c8,B++[y],k',rv.append (.cons e7 .nil),?_⟩
     rw[c9]
     simp
    exact again I11 P d8
 exact codeAny_compStart_list E (T.self _ 0 _ _ _ b6 E)
def zlv {X:Cx}{d k:Expr}{L:zH}{g:TG}(u:X.calm=true)(S:wv X L M a i)(y:PI X k b n)(l:∀ (σ:St) (v:V) (H:Hp) (Q:v7),g v (List.replicate L.length none++σ) H Q->g v (List.replicate L.length none++σ) H (λp H2=>Xt (List.replicate L.length none++σ) p/\Q p H2))(w:∀ s₀ H₀ ex pn,PG (XV X L M a i s₀ H₀ ex pn) k g)(t:∀ s₀ H₀ ex pn,PIf (XV X L M a i s₀ H₀ ex pn) c r)(A:∀ s₀ H₀ ex pn,PE (XV X L M a i s₀ H₀ ex pn) d o)(z:∀ x,foldedSetIterable b X.env x=pure x:=by intro _;rfl) :
 PE X (.ListComp d [⟨k,b,c,0⟩] a j) (tLC n L.length g r o):=by
 intro e s σ H Q I h
 rw[eval_ListComp]
 refine zf4 u S y l w t A z _ e s σ H Q I h λD C H' F I' ⟨m,E⟩ f q=>⟨m,E,λG B=>⟨.ref D,_,I'.letGo f B,rfl,q⟩⟩
def zoD {i:Nat}{x:Str}{u n:Pos}{X:Cx}{l r c:Expr}{k:y9}{L M:zH}{a:Scope}{w:Vr}{j:Pos}{K:TI}{g:TG}{O:TT}{N:TE}
 (hN:X.N.Nodup) (G:X.N[i]?=some x) (hx:Loc X.env.scope x) (U:X.calm=true) (S:wv X L M a w) (Y:PI X r c K)
 (F:∀ (σ:St) (v:V) (H:Hp) (Q:v7),g v (List.replicate L.length none++σ) H Q->g v (List.replicate L.length none++σ) H (λy H2=>Xt (List.replicate L.length none++σ) y/\Q y H2))
 (W:∀ s₀ H₀ ex pn,PG (XV X L M a w s₀ H₀ ex pn) r g) (T:∀ s₀ H₀ ex pn,PIf (XV X L M a w s₀ H₀ ex pn) k O) (he:∀ s₀ H₀ ex pn,PE (XV X L M a w s₀ H₀ ex pn) l N)
 (Z:∀ x,foldedSetIterable c X.env x=pure x:=by intro _;rfl)
 (B:swapsWith (.ListComp l [⟨r,c,k,0⟩] a j) (some (.Name x u)) n.line X.env=pure true:=by rfl)
 (hf:X.fn x=true\/X.env.scope.names.lookup x=some .local:=by first | exact .inl rfl | exact .inr rfl | assumption) :
 PS X (.Assign [.Name x u] (.ListComp l [⟨r,c,k,0⟩] a j) n) (zn5 (tLC K L.length g O N) (Vv i)):=by
 intro p s σ H D I h
 rw[exec_Assign_Name_used _ _ _ _ B]
 refine u5 (u1y (u5 ?_))
 show wpAny _ X.A (do let _<-comprehension (.ListComp l [⟨r,c,k,0⟩] a j) a X.env _ (newList []) false (eval c X.env) (some (assign (.Name x u) X.env))) _ _ s
 refine u5 (thn (zf4 (use:=some (assign (.Name x u) X.env)) (Qf:=λ_ t=>SP X p D .next t) U S Y F W T he Z _ p s σ H _ I h λD' C H' t I' ⟨m,R⟩ f q=>?_) λ_ t hq=>t5 (t5 hq))
 have A:∀ b∈[C],∃ o,t.heap.get? b=some o/\∀ v,o.data≠.cell v:=λb E=>by
  rw[j5.mp E]
  obtain⟨o,P,J,e,d,_⟩:=R
  exact⟨o,e,λv z=>by rw[z]at d;cases d⟩
 have I2:=I'.pinned (fp:=[C]) (λb E=>by rw[j5.mp E];exact f) A
 refine thn (xF (pos:=u) hN G hx hf _ t σ H' (.ref D') (.ref D') _ I2 rfl q) λ_ s2 hh9=>?_
 obtain⟨y,H2,I3,q3⟩:=hh9
 obtain⟨o,P,J,e,d⟩:=R
 have pn:=I3.pin (C,o) (o0 _ (o0 _ (vM (j5.mpr rfl) e)))
 exact⟨m,⟨o,P,J,pn.1,d⟩,λh' sb=>⟨y,H2,I3.unpinned.letGo ⟨pn.2.1,f.2⟩ sb,q3⟩⟩
def YL (names a b:List (Str × NameKind))(N M c:zH):Bool :=
 names.all (λy=>decide (y.2≠.cell))&&names.all (λy=>decide (y.2=.local->names.lookup y.1=some .local)) &&
 a.all (λy=>decide ((y.2=.cell\/y.2=.free)->y.1∈c)) &&
 (M.length == N.length)&&(M.zip N).all (λp=>decide ((a.lookup p.1=some .local\/a.lookup p.1=some .cell\/a.lookup p.1=some .free)->p.1=p.2)) &&
 M.all (λy=>decide ((a.lookup y=some .local\/a.lookup y=some .cell\/a.lookup y=some .free) ->
  (a.lookup y=some .cell\/a.lookup y=some .free)/\(b.lookup y=some .local\/b.lookup y=some .cell\/b.lookup y=some .free)/\b.lookup y≠some .local))
def Xj {X:Cx}{N:zH}{a:Scope}{g:Vr}(j:(relabel a X.env).names=q)(r:X.env.scope.names=o)(t:X.N=N)(d:closureFor a X.env=pure g)(kind:a.kind=.function)(w:g.map Prod.fst=l)(b:YL a.names q o N M l=true)(k:∀ p∈g,X.env.cells.lookup p.1=some p.2):wv X L M a g:=by
 unfold YL at b
 simp only[j0,p4,j9]at b
 obtain⟨⟨⟨⟨⟨x,E⟩,n⟩,f⟩,z⟩,s⟩:=b
 have f:M.length=N.length:=by simpa using f
 refine⟨d,x,kind,E,λy c h=>k (y,c) (u0c h),λy h=>?_,by rw[t];exact f,λi y e v=>?_,λi y e v=>?_,λi y e v=>?_⟩
 .rw[j]at h
  have u:y∈l:=by
   rcases h with h | h
   .exact n _ (u0c h) (.inl rfl)
   .exact n _ (u0c h) (.inr rfl)
  exact Y5 (by rw[w];exact u)
 .unfold Vis at v
  rw[j]at v
  have A:=(j3.mp e).1
  have m:i<N.length:=by rw[<-f];exact A
  have C:(M.zip N)[i]?=some (y,N[i]):=by
   rw[List.getElem?_zip_eq_some]
   exact⟨e,g5 m⟩
  have:=z _ (o8 C) v
  rw[t,g5 m]
  exact u0x some this.symm
 .unfold Vis at v
  rw[j]at v ⊢
  exact(s y (o8 e) v).1
 .unfold Vis at v
  rw[j]at v
  obtain⟨_,B,D⟩:=s y (o8 e) v
  refine⟨?_,?_⟩
  .unfold Vis;rw[r];exact B
  .show X.env.scope.names.lookup y≠_;rw[r];exact D
end L2
namespace PySem
open Sem (wp)
open AutoSeq1 (wpAny_loadPart')
section
variable {prog:zP}{w:World}{A:zR}{E:yU}{s:zn}
def Yx {items}{Q:yU}(hit:s.heap.IsTupleIter a l i)(hl:s.heap.IsTuple l items)(hx:items[i]?=some x)(hQ:∀ f,f.IsTupleIter a l (i+1)->Heap.SameBut a s.heap f->Q x { s with heap:=f }) :
 wpAny (model prog w) A (Builtin.SmallTypes.nextOf (.ref a)) Q E s:=by
 obtain⟨o,c,g,b⟩:=id hit
 obtain⟨h,d,_,j,e⟩:=hl
 unfold Builtin.SmallTypes.nextOf
 refine u5 (p0 (name:=Str.ofString "__next__") hit.typeIs u0D
  (i5 u0D hit.typeIs F.entry_tuple_iterator_next ?_ (F.args_tuple_iterator_next_1 _)))
 show wpAny _ _ (field (.ref a) 0>>=_) _ _ s
 refine u5 (u0d c b (x:=.ref l) rfl ?_)
 show wpAny _ _ (if (Value.ref l == Value.none)=true then _ else _) _ _ s
 rw[j6 (show ¬ ((Value.ref l == Value.none)=true)from u7)]
 show wpAny _ _ (field (.ref a) 1>>=_) _ _ s
 refine u5 (u0d c b (x:=.int i 0) rfl ?_)
 show wpAny _ _ (seqItems? (.ref l)>>=_) _ _ s
 refine u5 (u0V d e ?_)
 simp only[u0K,hx]
 refine u5 (u2F c b (by simp) (t5 ⟨x,rfl,t5 (hQ _ ?_ (u1e ..))⟩))
 exact⟨_,i0 _ c (Obj.isFreed_of_fields (u1u b _)),(Obj.cls_mapFields ..).trans g,by
  rw[u1u b];simp[rawInt]⟩
def wV {items} (hh:A.handled=none) (hit:s.heap.IsTupleIter b l i) (hl:s.heap.IsTuple l items) (hx:items[i]?=none) (hE:∀ g e,Heap.ExtBut b s.heap g->(∃ o,g.get? e=some o/\o.cls=.type "StopIteration")->E (.ref e) { s with heap:=g }) :
 wpAny (model prog w) A (Builtin.SmallTypes.nextOf (.ref b)) Q E s:=by
 obtain⟨o,h,j,c⟩:=id hit
 obtain⟨k,d,_,n,f⟩:=hl
 unfold Builtin.SmallTypes.nextOf
 refine u5 (p0 (name:=Str.ofString "__next__") hit.typeIs u0D
  (i5 u0D hit.typeIs F.entry_tuple_iterator_next ?_ (F.args_tuple_iterator_next_1 _)))
 show wpAny _ _ (field (.ref b) 0>>=_) _ _ s
 refine u5 (u0d h c (x:=.ref l) rfl ?_)
 show wpAny _ _ (if (Value.ref l == Value.none)=true then _ else _) _ _ s
 rw[j6 (show ¬ ((Value.ref l == Value.none)=true)from u7)]
 show wpAny _ _ (field (.ref b) 1>>=_) _ _ s
 refine u5 (u0d h c (x:=.int i 0) rfl ?_)
 show wpAny _ _ (seqItems? (.ref l)>>=_) _ _ s
 refine u5 (u0V d f ?_)
 simp only[u0K,hx]
 refine u5 (u1K (u5 (u2F h c (by simp) ?_)))
 show wpAny _ _ (newExc (.type "StopIteration") []>>=_) _ _ _
 refine u5 ?_
 simp only[newExc,newTuple]
 refine u5 (l5 ?_ (by size_fits))
 refine u5 (m:=firstArgMember _ _) (wpAny_of_eq (a:=Value.none) (by first | rfl | (simp only[firstArgMember];rfl)) ?_)
 refine l5 ?_ (by size_fits)
 simp only[raiseNew]
 refine u5 (wpAny_handled ?_)
 first | rw[show A.in1.handled=none from hh] | rw[hh]
 refine u5 (t5 (wpAny_throw ?_))
 exact hE _ _ (((u1e ..).extBut.push _).push _) ⟨_,j8 _ rfl,rfl⟩
end
def YV {c:zP}{w:World}{A:zR}{E:yU}{s:zn}{e d l:Addr}{i:Nat}{a:wq}{g:Value}{Q:Option Value->Shared->Prop}(u:A.handled=none)
 (n:IsEnum s.heap e d i g) (f:s.heap.IsTupleIter d l i) (v:s.heap.IsTuple l a) (t:a[i]?=none)
 (p:∀ k,Heap.ExtBut d s.heap k->Q none { s with heap:=k }):wpAny (model c w) A (pyNext (.ref e)) Q E s:=by
 have m:s.TypeIs (.ref e) "enumerate":=⟨_,n,rfl⟩
 unfold pyNext
 refine u5 (u0Q (p0 (name:=Str.ofString "__next__") m F.slot_enumerate_next
  (i5 F.slot_enumerate_next m F.entry_enumerate_next ?_ (F.args_enumerate_next_1 _))))
 show wpAny _ _ (field (.ref e) 2>>=_) _ _ _
 refine u5 (u0d n rfl (x:=.ref d) rfl ?_)
 refine u5 (wV u f v t λk x h j=>?_)
 obtain⟨o,r,q⟩:=j
 refine u5 (wpAny_isInstance (T:="StopIteration") (b:=true) ⟨o,r,q⟩ isSubtype_stop ?_)
 exact t5 (p _ h)
def YB {prog:zP}{w:World}{A:zR}(hh:A.handled=none)(it l:Addr)(hne:l≠it)(items:wq) :
 Draws prog w A it [it,l] items.size (λi v=>items[i]?=some v) (λi h=>h.IsTupleIter it l i/\h.IsTuple l items) where
 live:=λ_ _ st=>let ⟨o,ho,_⟩:=st.1;⟨o,ho⟩
 frame:=λ_ _ _ st hk=>by
  obtain⟨⟨o,ho,r⟩,⟨o2,ho2,r2⟩⟩:=st
  exact⟨⟨o,hk it (by simp) o ho,r⟩,⟨o2,hk l (by simp) o2 ho2,r2⟩⟩
 item:=λi s Q E hi st hQ=>by
  refine Yx st.1 st.2 (x:=items[i]) (by simp[hi]) λh' hit' hs'=>?_
  exact hQ _ h' s.toks (by simp[hi]) ⟨hit',st.2.extBut hs'.extBut hne⟩ hs'
 done:=λs Q E st hE=>wV hh st.1 st.2 (by simp) hE
def Zz (l:Addr)(a:wq)(n:Nat)(m:y6)(k:Array (Option Value)) :
 Meets (Builtin.«enumerate.__new__» ⟨[.type "enumerate",.ref l],[]⟩) (λ_ R s=>s.heap.get? l=some { cls:=.type "tuple",dict:=m,data:=.seq a n,slots:=k } /\
  R (.ok (.ret (.ref (s.heap.push { cls:=.type "tuple_iterator",data:=.fields #[.ref l,.int 0 0] }).objs.size)))
   { s with heap:=(s.heap.push { cls:=.type "tuple_iterator",data:=.fields #[.ref l,.int 0 0] }).push { cls:=.type "enumerate",data:=.fields #[.none,.bool false,.ref s.heap.objs.size,rawInt 0,.none,.none] } }) :=
 .of_wp λi w A R s h=>by
  obtain⟨o,g,d,j,os⟩:=s;obtain⟨b,h⟩:=h
  have f:=sub_enumerate
  have e:Heap.IsTuple (Shared.heap ⟨o,g,d,j,os⟩) l a:=⟨_,b,rfl,n,rfl⟩
  wp_walk using u0C b
  refine wpAny_stack_any λp=>t5 ?_
  split
  .rename_i c _ _ _ _ _
   cases (c == Value.type "enumerate")
   .wp_walk using u0C b,i9 e
    exact⟨_,rfl,h⟩
   .wp_walk using u0C b,i9 e
    exact⟨_,rfl,h⟩
  .wp_walk using u0C b,i9 e
   exact⟨_,rfl,h⟩
section
variable {prog:zP}{w:World}{A:zR}{E:yU}{s:zn}
def YS {Q:yU}(k:s.heap.IsTuple l a) (h:∀ c,IsEnum c (s.heap.objs.size+1) s.heap.objs.size 0 .none->c.IsTupleIter s.heap.objs.size l 0->c.objs.size=s.heap.objs.size+2 ->
 (∀ b o,s.heap.get? b=some o->c.get? b=some o)->Q (.ref (s.heap.objs.size+1)) { s with heap:=c }) :
 wpAny (model prog w) A (call (.type "enumerate") [.ref l]) Q E s:=by
 obtain⟨⟨cls,j,data,i⟩,m,e,n,g⟩:=k
 simp only at e g
 subst e g
 refine callType_new F.called_enumerate (by decide) (F.typeCall_enumerate_1 _) (F.newCall_enumerate_1 _) (λobj=>F.args_object_init_2 obj _) F.entry_enumerate_new
  (Zz l a n j i) ⟨m,?_⟩
 have d:(s.heap.push { cls:=.type "tuple_iterator",data:=.fields #[.ref l,.int 0 0] }).objs.size=s.heap.objs.size+1:=p6 ..
 show _/\_
 rw[d]
 have f:IsEnum ((s.heap.push { cls:=.type "tuple_iterator",data:=.fields #[.ref l,.int 0 0] }).push
  { cls:=.type "enumerate",data:=.fields #[.none,.bool false,.ref s.heap.objs.size,rawInt 0,.none,.none] }) (s.heap.objs.size+1) s.heap.objs.size 0 .none:=by
  have:=j8 (s.heap.push { cls:=.type "tuple_iterator",data:=.fields #[.ref l,.int 0 0] })
   (o:={ cls:=.type "enumerate",data:=.fields #[.none,.bool false,.ref s.heap.objs.size,rawInt 0,.none,.none] }) rfl
  rw[d]at this;exact this
 refine⟨⟨_,f,rfl⟩,h _ f ⟨_,u6 _ (j8 _ rfl),rfl,rfl⟩ (by rw[p6,d]) λb o x=>u6 _ (u6 _ x)⟩
end
end PySem
namespace L2
open PySem PySem.Spec PyProof.Rows
section
variable {X:Cx}{pins:xC}{σ:St}{H:Hp}{s:zn}{h':Heap}
def Inv.grown {ch:xS}{T:Addr}{o:HO}{E:Nat}(I:Inv X pins σ H s)(d:∀ b∈ch,zdG X pins H b)(l:s.heap.objs.size<=T)(k:∀ b u,b∉ch->s.heap.get? b=some u->h'.get? b=some u)
 (i:yT X.prog X.w (upd H T o) h' T o):Inv X pins σ (upd H T o) { s with heap:=h',toks:=E }:=by
 have g:H T=none:=I.hok.fresh l
 have j:∀ b u,s.heap.get? b=some u->b≠T:=λb u e=>k6 (q5 (q4 e) l)
 have f:∀ b u,H b=some u->b∉ch:=λb u e z=>by rw[(d b z).1]at e;cases e
 refine I.step (g':=s.gens) (d':=s.drawn) (ch:=ch) (λb h=>?_) (λb u _ _ a e _=>k b u a e) (λb u _ _ a e _=>⟨u.slots,k b u a e⟩) (λb u _ e n=>by rw[zi (j b u e)];exact n)
  (λb u a e=>⟨u,k b u a e⟩) (λb p e=>by rw[zi (ze e g)];exact e) (λb u p e=>by rw[zi (ze e g)];exact e) (λb G e=>⟨#[],by rw[zi (ze e g),e];simp⟩) (λm w=>?_) (λb u e=>?_) I.bare
 .obtain⟨_,D,_,B,y,A⟩:=d b h
  exact⟨B,D,y,A⟩
 .obtain⟨t,C,x,F,r⟩:=w
  exact⟨t,C,x,k _ t (λz=>(d _ z).2.1 rfl) F,r⟩
 .by_cases h:b=T
  .subst h;rw[zl]at e;cases e;exact i
  .rw[zi h]at e
   refine(I.hok b u e).stay (λc v a q=>k c v ?_ q) (λc q=>by rw[zi (ze q g)];exact q) λc p q=>by rw[zi (ze q g)];exact q
   rcases a with z | z
   .rw[z];exact f b u e
   .exact f c _ z
def Inv.turnedN {ch:xS}{t':Nat}(I:Inv X pins σ H s)(d:∀ b∈ch,zdG X pins H b)(k:∀ b u,b∉ch->s.heap.get? b=some u->h'.get? b=some u):Inv X pins σ H { s with heap:=h',toks:=t' }:=by
 have f:∀ b u,H b=some u->b∉ch:=λb u e z=>by rw[(d b z).1]at e;cases e
 refine I.step (g':=s.gens) (d':=s.drawn) (ch:=ch) (λb w=>?_) (λb u _ _ a e _=>k b u a e) (λb u _ _ a e _=>⟨u.slots,k b u a e⟩) (λb u _ e n=>n)
  (λb u a e=>⟨u,k b u a e⟩) (λb h e=>e) (λb u h e=>e) (λb A e=>⟨#[],by rw[e];simp⟩) (λm j=>?_) (λb u e=>?_) I.bare
 .obtain⟨_,o,_,t,l,p⟩:=d b w
  exact⟨t,o,l,p⟩
 .obtain⟨g,y,i,x,r⟩:=j
  exact⟨g,y,i,k _ g (λz=>(d _ z).2.1 rfl) x,r⟩
 .refine(I.hok b u e).stay (λc v a q=>k c v ?_ q) (λc q=>q) λc h q=>q
  rcases a with z | z
  .rw[z];exact f b u e
  .exact f c _ z
end
def Iel (K:zv)(a:Addr):It :=
 ⟨λi H=>∃ b x,SqL K H a b/\b[i]?=some x,λi H v H'=>∃ T x,v=.ref T/\H T=none/\H'=upd H T (.tup [.int i,x])/\∀ b,SqL K H a b->b[i]?=some x,λi H=>∃ b,SqL K H a b/\b.length<=i⟩
def Iet (K:zv)(a:Addr):It :=
 ⟨λi H=>∃ b x,SqT K H a b/\b[i]?=some x,λi H v H'=>∃ T x,v=.ref T/\H T=none/\H'=upd H T (.tup [.int i,x])/\∀ b,SqT K H a b->b[i]?=some x,λi H=>∃ b,SqT K H a b/\b.length<=i⟩
def zfd {P:zP}{w:World}{K:zv}{es:y9}{k:Nat}{tp:Pos}(a e it:Addr)(hne:e≠it) :
 zlB P w K (.Tuple es k tp) (Iel K a) [e,it] e (λi h=>(∃ old,IsEnum h e it i old)/\h.IsListIter it a i) where
 mem:=by simp
 obj:=λi h st b hb=>by
  obtain⟨⟨old,he⟩,o,ho,_,hd⟩:=st
  rcases q7.mp hb with rfl | hb
  .exact⟨_,he,λv z=>by cases z⟩
  .rw[j5.mp hb]
   exact⟨o,ho,λv z=>by rw[hd]at z;cases z⟩
 keep:=λi h h' st kk=>by
  obtain⟨⟨old,he⟩,hit⟩:=st
  exact⟨⟨old,kk e (by simp) _ he⟩,hit.at λo q=>kk it (by simp) o q⟩
 item:=by
  intro X hP hw hK hc i pins s σ H E I hf st hg
  subst hP hw hK
  obtain⟨⟨old,he⟩,hit⟩:=st
  obtain⟨xs,x,hq,hx⟩:=hg
  obtain⟨its,rv,p,hz⟩:=I.list hq
  obtain⟨u,hu,ru⟩:=rv.get hx
  refine wpAny_pyNext_enum_item he hit p.isList (x:=u) (by simpa using hu) hne λh1 ho1 hit1 hT1 hz1 hk1=>?_
  refine⟨_,rfl,wpAny_letOwnedTupleGo_enum ho1 λh2 he2 hs2=>?_⟩
  have hfr:H s.heap.objs.size=none:=I.hok.fresh (t6 _)
  have neE:s.heap.objs.size≠e:=u0O (q4 he)
  have hT2:h2.get? s.heap.objs.size=some { cls:=.type "tuple",data:=.seq #[.int i s.toks,u] }:=(hs2.2 _ neE).trans hT1
  refine⟨.ref s.heap.objs.size,upd H s.heap.objs.size (.tup [.int i,x]),?_,rfl,⟨_,x,rfl,hfr,rfl,λys hy=>by rw[I.list_inj hy hq];exact hx⟩,⟨⟨_,by simpa using he2⟩,hit1.at λo q=>(hs2.2 it (i7 hne)).trans q⟩,λb hb=>?_⟩
  .refine I.grown (ch:=[e,it]) hf (t6 _) (λb v hb q=>?_) ?_
   .have n1:b≠e:=λz=>hb (by simp[z])
    have n2:b≠it:=λz=>hb (by simp[z])
    exact(hs2.2 b n1).trans (hk1 b v n1 n2 q)
   .exact⟨by show 2<=sizeLine;decide,[.int i s.toks,u],.cons ⟨_,rfl⟩ (.cons ru .nil),⟨_,hT2,rfl,0,rfl⟩⟩
  .obtain⟨o,hb2,_⟩:∃ o,s.heap.get? b=some o/\True:=by
    rcases q7.mp hb with rfl | hb
    .exact⟨_,he,trivial⟩
    .rw[j5.mp hb]
     obtain⟨o,ho,_⟩:=hit
     exact⟨o,ho,trivial⟩
   rw[zi (k6 (q4 hb2))]
   exact(hf b hb).1
 done:=by
  intro X hP hw hK hc i pins s σ H E I hf st hg
  subst hP hw hK
  obtain⟨⟨old,he⟩,hit⟩:=st
  obtain⟨xs,hq,hx⟩:=hg
  obtain⟨its,rv,p,hz⟩:=I.list hq
  have hl:=rv.length
  exact wpAny_pyNext_enum_end (I.ok.hd hc) he hit p.isList (by simp;omega) λh1 hx1=>⟨rfl,I.turnedN (ch:=[e,it]) (t':=s.toks) hf λb v hb q=>hx1 b v (λz=>hb (by simp[z])) q⟩
 self:=λ_ _ _ _ _ st h=>u1J st.1.choose_spec h
def zeW {P:zP}{w:World}{K:zv}{es:y9}{k:Nat}{tp:Pos}(a e it:Addr)(hne:e≠it)(hai:a≠it)(hae:a≠e) :
 zlB P w K (.Tuple es k tp) (Iet K a) [e,it] e (λi h=>(∃ old,IsEnum h e it i old)/\h.IsTupleIter it a i) where
 mem:=by simp
 obj:=λi h st b hb=>by
  obtain⟨⟨old,he⟩,o,ho,_,hd⟩:=st
  rcases q7.mp hb with rfl | hb
  .exact⟨_,he,λv z=>by cases z⟩
  .rw[j5.mp hb]
   exact⟨o,ho,λv z=>by rw[hd]at z;cases z⟩
 keep:=λi h h' st kk=>by
  obtain⟨⟨old,he⟩,o,ho,r⟩:=st
  exact⟨⟨old,kk e (by simp) _ he⟩,o,kk it (by simp) o ho,r⟩
 item:=by
  intro X hP hw hK hc i pins s σ H E I hf st hg
  subst hP hw hK
  obtain⟨⟨old,he⟩,hit⟩:=st
  obtain⟨xs,x,hq,hx⟩:=hg
  obtain⟨its,rv,p,hz⟩:=I.tuple hq
  obtain⟨u,hu,ru⟩:=rv.get hx
  have p':s.heap.IsTuple a its.toArray:=p
  have D:=YB (prog:=X.prog) (w:=X.w) (A:=X.A.in1) (I.ok.hd hc) it a hai its.toArray
  have hlt:i<its.toArray.size:=by
   obtain⟨h1,_⟩:=j3.mp hu
   simpa using h1
  refine wpAny_pyNext_enum_itemD D he ⟨hit,p'⟩ hlt hne (by simp[hne,i7 hae]) λu' h1 tk hP1 ho1 hit1 hT1 hz1 hk1=>?_
  have eu:u'=u:=by
   have:its[i]?=some u':=by simpa using hP1
   rw[hu]at this
   exact(o4 this).symm
  subst eu
  refine⟨_,rfl,wpAny_letOwnedTupleGo_enum ho1 λh2 he2 hs2=>?_⟩
  have hfr:H s.heap.objs.size=none:=I.hok.fresh (t6 _)
  have neE:s.heap.objs.size≠e:=u0O (q4 he)
  have hT2:h2.get? s.heap.objs.size=some { cls:=.type "tuple",data:=.seq #[.int i tk,u'] }:=(hs2.2 _ neE).trans hT1
  refine⟨.ref s.heap.objs.size,upd H s.heap.objs.size (.tup [.int i,x]),?_,rfl,⟨_,x,rfl,hfr,rfl,λys hy=>by rw[I.tuple_inj hy hq];exact hx⟩,⟨⟨_,by simpa using he2⟩,?_⟩,λb hb=>?_⟩
  .refine I.grown (ch:=[e,it]) hf (t6 _) (λb v hb q=>?_) ?_
   .have n1:b≠e:=λz=>hb (by simp[z])
    have n2:b≠it:=λz=>hb (by simp[z])
    exact(hs2.2 b n1).trans (hk1 b v n1 n2 q)
   .exact⟨by show 2<=sizeLine;decide,[.int i tk,u'],.cons ⟨_,rfl⟩ (.cons ru .nil),⟨_,hT2,rfl,0,rfl⟩⟩
  .obtain⟨o,ho,r⟩:=hit1.1
   exact⟨o,(hs2.2 it (i7 hne)).trans ho,r⟩
  .obtain⟨o,hb2,_⟩:∃ o,s.heap.get? b=some o/\True:=by
    rcases q7.mp hb with rfl | hb
    .exact⟨_,he,trivial⟩
    .rw[j5.mp hb]
     obtain⟨o,ho,_⟩:=hit
     exact⟨o,ho,trivial⟩
   rw[zi (k6 (q4 hb2))]
   exact(hf b hb).1
 done:=by
  intro X hP hw hK hc i pins s σ H E I hf st hg
  subst hP hw hK
  obtain⟨⟨old,he⟩,hit⟩:=st
  obtain⟨xs,hq,hx⟩:=hg
  obtain⟨its,rv,p,hz⟩:=I.tuple hq
  have hl:=rv.length
  have p':s.heap.IsTuple a its.toArray:=p
  exact YV (I.ok.hd hc) he hit p' (by simp;omega) λh1 hx1=>⟨rfl,I.turnedN (ch:=[e,it]) (t':=s.toks) hf λb v hb q=>hx1 b v (λz=>hb (by simp[z])) q⟩
 self:=λ_ _ _ _ _ st h=>u1J st.1.choose_spec h
def zrb (K:zv)(c:TA):TI:=fun σ H R=>c σ H λd H1=>∃ a,d=[.ref a]/\((∃ b,H1 a=some (.lst b)/\R (Iel K a) H1)\/(∃ b,SqT K H1 a b/\R (Iet K a) H1))
def zmi {X:Cx} {K:y9} {k:Nat} {D:Pos} {a:Expr} {y:TA} {p j:Pos} (E:Gl X "enumerate") (C:X.mg "enumerate"=none) (g:bootBuiltins "enumerate"=some (.type "enumerate")) (O:PA X [a] y)
 (L:starEach [a] X.env=[(false,eval a X.env)]:=by rfl):PI X (.Tuple K k D) (.Call (.Name "enumerate" p) [a] [] j) (zrb X.K y):=by
 intro c s σ H R I h
 refine Call_ (WN I E C g (u0i (thn (O j c s σ H _ I h) λS f hh9=>?_) L rfl))
 obtain⟨Q,H1,I1,M,N⟩:=hh9
 obtain⟨l,e,q⟩:=N
 subst e
 obtain⟨u,rfl,F⟩:=XF M
 cases F
 have B:∀ b,f.heap.objs.size<=b->zdG X c H1 b:=λb g=>I1.fpOk g (I1.hok.fresh g)
 have m:f.heap.objs.size+1≠f.heap.objs.size:=by omega
 have r:∀ b∈[f.heap.objs.size+1,f.heap.objs.size],zdG X c H1 b:=λb g=>by
  rcases q7.mp g with rfl | g
  .exact B _ (u1g _)
  .rw[j5.mp g];exact B _ (t6 _)
 rcases q with ⟨x,v,q⟩ | ⟨x,v,q⟩
 .obtain⟨_,d,n,_,e⟩:x.length<=sizeLine/\∃ (d:zB) (n:Nat),yw x d/\f.heap.get? l=some { cls:=.type "list",data:=.seq d.toArray n }:=I1.hok _ _ v
  refine call_enumerate_1 e λJ t i G w=>u1J t ?_
  exact⟨_,_,_,_,H1,rfl,I1.kept (t':=f.toks) w,zfd l _ _ m,⟨⟨_,t⟩,i⟩,r,q⟩
 .obtain⟨d,_,A,_⟩:=I1.tuple v
  have z:l<f.heap.objs.size:=by
   obtain⟨o,P,_⟩:=A
   exact q4 P
  refine YS (show f.heap.IsTuple l d.toArray from A) λJ t i G w=>u1J t ?_
  exact⟨_,_,_,_,H1,rfl,I1.kept (t':=f.toks) w,zeW l _ _ m (k6 z) (k6 (u0y z)),⟨⟨_,t⟩,i⟩,r,q⟩
end L2
namespace HT
open PySem PyProof.Rows
def lexLe:zC->zC->Bool
 | [],_=>true
 | _::_,[]=>false
 | x::xs,y::ys=>if x=y then lexLe xs ys else decide (x<=y)
def zeR (x y:Int)(b a:zC):lexLe (x::b) (y::a)=if x=y then lexLe b a else decide (x<=y):=rfl
def zkw (A:zR)(s:zn)(a:Int)(t:Tok)(c:Int)(u:Tok)(b:zP)(w:World)(E:yU)(Q:yU)(h:Q (.bool (decide (a<=c))) s) :
 wpAny (model b w) A (richCompare .LtE (.int a t) (.int c u)) Q E s :=
 (PyProof.Rows.le_int h:wpAny (model b w) A (compareOp .LtE (.int a t) (.int c u)) Q E s)
section
open PySem.SeqAt
open PySem.AutoSeq1 (wpAny_loadPart')
open PySem.MeetsSeq PySem.MeetsSeq2 PySem.MeetsSeq3
theorem zag (l b:Addr)(i f:wq)(n S:Nat)(V N:y6)(T L:Array (Option Value))(ns F:zC)(P:IntsAre i.toList ns)(O:IntsAre f.toList F) :
 Meets (Builtin.«tuple.__le__» ⟨[.ref l,.ref b],[]⟩)
  (λ_ R s=>s.heap.get? l=some { cls:=.type "tuple",dict:=V,data:=.seq i n,slots:=T }/\s.heap.get? b=some { cls:=.type "tuple",dict:=N,data:=.seq f S,slots:=L } /\
   R (.ok (.ret (.bool (lexLe ns F)))) s) :=
 .of_wp λv w A R s h=>by
  obtain⟨J,g,d,H,os⟩:=s;obtain⟨X,W,h⟩:=h
  have Z:=AutoSeq1.sub_tuple_tuple
  have z1:i.size=ns.length:=by rw[<-P.length];simp
  have Y:f.size=F.length:=by rw[<-O.length];simp
  wp_walk using u0C X,u0C W,wpAny_forIn_list _ (λrest b M=>b.1=none/\M=⟨J,g,d,H,os⟩/\∃ (G I:zB) (m k:zC),rest=G.zip I /\
   IntsAre G m/\IntsAre I k/\m.length+f.size=k.length+i.size/\R (.ok (.ret (.bool (lexLe m k)))) ⟨J,g,d,H,os⟩) _
  case turn =>
   rintro⟨y,x⟩ rest b M ⟨C,rfl,G,I,m,k,o,B,z,j,r⟩
   cases B with
   | nil=>rw[List.zip_nil_left]at o;cases o
   | cons a t E =>
    cases z with
    | nil=>rw[List.zip_nil_right]at o;cases o
    | cons c u D =>
     rw[u2t]at o
     injection o with hyx hrest
     injection hyx with hy hx
     subst hy hx
     rw[zeR]at r
     simp only[k7]at j
     obtain⟨e,U,p⟩:=zj2 A.in1 ⟨J,g,d,H,os⟩ a t c u
     refine u5 (U v w _ _ ?_)
     cases e with
     | true =>
      rw[t7 (p.mp rfl)]at r
      wp_walk
      exact⟨rfl,rfl,_,_,_,_,hrest,E,D,by omega,r⟩
     | false =>
      rw[j6 (λq=>absurd (p.mpr q) u7)]at r
      have K:=zkw A.in1 ⟨J,g,d,H,os⟩ a t c u v w
      wp_walk using K
      exact⟨_,rfl,by simpa using r⟩
  case fin =>
   rintro⟨b1,b2⟩ M ⟨C,rfl,G,I,m,k,o,B,z,j,r⟩
   simp only at C
   subst C
   have Q:lexLe m k=decide (i.size<=f.size):=by
    cases B with
    | nil =>
     simp only[u1p]at j
     show true=_
     exact(q0 (by omega)).symm
    | cons a t Q =>
     cases z with
     | nil =>
      simp only[u1p,k7]at j
      show false=_
      exact(t8 (by omega)).symm
     | cons c u hw =>
      rw[u2t]at o
      cases o
   rw[Q]at r
   wp_walk
   exact⟨_,rfl,by simpa [Builtin.Tuple.tupleCompareSizes]using r⟩
  case h =>
   exact⟨rfl,rfl,i.toList,f.toList,ns,F,rfl,P,O,by omega,h⟩
end
section
variable {prog:zP}{w:World}{A:zR}{E:yU}{s:zn}
def le_tupInts {c a:wq}{d:zC}{Q:yU}(B:IsTup s.heap l c)(z:IsTup s.heap b a)(u:IntsAre c.toList ns)(r:IntsAre a.toList d)(C:A.units<cLine)(h:Q (.bool (lexLe ns d)) s):wpAny (model prog w) A (compareOp .LtE (.ref l) (.ref b)) Q E s:=by
 obtain⟨⟨cls,y,data,t⟩,q,m,n,p⟩:=id B
 obtain⟨⟨o,j,k,i⟩,f,e,v,g⟩:=id z
 simp only at m p e g
 subst m p e g
 exact richCompare_meets_room (op:=.LtE) ⟨_,q,rfl⟩ ⟨_,f,rfl⟩ PySem.F.slot_tuple_le PySem.F.entry_tuple_le (PySem.F.args_tuple_le_2 _ _) (zag l b c a n v y j t i ns d u r)
  ⟨q,f,show Value.bool (lexLe ns d)≠Value.notImplemented/\Q (.bool (lexLe ns d)) s from⟨(λx=>nomatch x),h⟩⟩ C
end
end HT
namespace L2
open PySem PySem.Spec PyProof.Rows
def rLeT (K:zv):R2:=λx y H Q=>∃ a b ns c,x=.ref a/\y=.ref b/\SqT K H a (ns.map V.int)/\SqT K H b (c.map V.int)/\Q (.bl (HT.lexLe ns c)) H
def zp5 {X:Cx}(t:X.A.units<cLine):OpR X (compareOp .LtE) (rLeT X.K):=by
 intro f s σ H x y v u Q I g r h
 obtain⟨a,b,ns,e,rfl,rfl,m,o,q⟩:=h
 cases g
 cases r
 obtain⟨d,j,i,_⟩:=I.tuple m
 obtain⟨c,l,p,_⟩:=I.tuple o
 have k:IntsAre d.toArray.toList ns:=YJ j
 have n:IntsAre c.toArray.toList e:=YJ l
 exact HT.le_tupInts i p k n t ⟨.bl (HT.lexLe ns e),H,I,rfl,q⟩
end L2
namespace HT
open PySem PyProof.Rows
section
variable {prog:zP}{w:World}{A:zR}{E:yU}{s:zn}
def own_getItem_whole {t f:Addr}{a:wq}{Q:yU}(c:IsTup s.heap t a)(k:s.heap.IsSliceOf f n l .none)(pl:IsPart n b)(p:IsPart l e)(hw:sIx a.size 0 b=0/\sIx a.size a.size e=a.size)(h:Q (.ref t) s):wpAny (model prog w) A (getItem (.ref t) (.ref f)) Q E s:=by
 obtain⟨os,j,g,o⟩:=id k
 have i:s.TypeIs (.ref f) "slice":=⟨os,j,g⟩
 unfold getItem
 try with_reducible refine l8 ?_
 first | refine u5 (t5 ?_) | skip
 refine u5 (wpAny_sequenceKey c.typeIs (by decide) ?_)
 refine u5 (p0 (name:=Str.ofString "__getitem__") c.typeIs p5
  (i5 p5 c.typeIs entry_tuple_getitem ?_ (args_tuple_getitem _ _)))
 show wpAny _ _ (Builtin.Tuple.tupleItemsOf (.ref t)>>=_) _ _ s
 refine u5 (tupleItemsOf_ c ?_)
 refine u5 (u1S i ?_)
 rw[t7 (by decide)]
 refine u5 (Yd k pl p ?_)
 have d:(((sIx a.size 0 b:Nat):Int) == 0&&(1:Int) == 1&&(sIx a.size a.size e-sIx a.size 0 b) == a.size)=true:=by
  rw[hw.1,hw.2]
  simp
 show wpAny _ _ (if (((sIx a.size 0 b:Nat):Int) == 0&&(1:Int) == 1&&(sIx a.size a.size e-sIx a.size 0 b) == a.size)=true then _ else _) _ _ s
 rw[t7 d]
 refine u5 (m:=Builtin.Tuple.tupleIsExact (.ref t)) ?_
 unfold Builtin.Tuple.tupleIsExact
 refine u5 (u1S c.typeIs (t5 ?_))
 rw[t7 (by decide)]
 refine u5 (u1K ?_)
 first
  | exact t5 ⟨_,rfl,t5 h⟩
  | exact u5 (t5 (t5 ⟨_,rfl,t5 h⟩))
end
end HT
namespace PySem
open Sem (wp)
def xY {w:World}{d:xS}{k:Nat}{St:Nat->Heap->Prop}(D:Draws c w A m d n P St){f:Heap}(g:St k h)(i:Heap.SameBut a h f)(j:a∉d):St k f :=
 D.frame _ _ _ g λb l o e=>(i.2 b λz=>j (z ▸ l)).trans e
structure zkr (z TI TO i1 i2:Addr) (fp1 fp2:xS):Prop where
 nd:[z,TI,TO,i1,i2].Nodup
 z1:z∉fp1
 z2:z∉fp2
 o1:TO∉fp1
 o2:TO∉fp2
 i12:i1∉fp2
 i21:i2∉fp1
section
variable {prog:zP}{w:World}{A:zR}{E:yU}{s:zn}{z TI TO i1 i2:Addr}{fp1 fp2:xS}{n1 n2 k1 k2:Nat}{P1 P2:Nat->Value->Prop}{St1 St2:Nat->Heap->Prop}{a b:Value}
theorem zbg {Q:yU}(D1:Draws prog w A i1 fp1 n1 P1 St1)(D2:Draws prog w A i2 fp2 n2 P2 St2)(ap:zkr z TI TO i1 i2 fp1 fp2)
 (t:IsZip s.heap z TI TO .none) (M:IsPair s.heap TI (.ref i1) (.ref i2)) (I:IsPair s.heap TO a b) (h1:St1 k1 s.heap) (h2:St2 k2 s.heap) (l1:k1 < n1) (l2:k2 < n2)
 (hQ:∀ x y g tk,P1 k1 x->P2 k2 y->IsZip g z TI TO (rawInt s.heap.objs.size)->IsPair g TO x y->St1 (k1+1) g->St2 (k2+1) g->IsPair g s.heap.objs.size x y ->
  (∀ c o,c∉[z,TO,i1,i2]->s.heap.get? c=some o->g.get? c=some o)->Q (.ref s.heap.objs.size) { s with heap:=g,toks:=tk }) :
 wpAny (model prog w) A (Builtin.«zip.__next__» ⟨[.ref z],[]⟩) (λfin s'=>∃ v,fin=.done (.ret v)/\Q v s') E s:=by
 obtain⟨S,r,l,m,p,K,J⟩:=ap
 simp only[u0B,q7,o5,u0J,u3e,u1G,u1L,and_true]at S
 obtain⟨⟨a0,f,H,G⟩,⟨n5,n6,n7⟩,⟨n8,n9⟩,a3⟩:=S
 show wpAny _ _ (field (.ref z) 2>>=_) _ _ _
 refine u5 (u0d t rfl (x:=.bool false) rfl ?_)
 show wpAny _ _ (field (.ref z) 3>>=_) _ _ _
 refine u5 (u0d t rfl (x:=.ref TI) rfl (u5 (u0V M rfl ?_)))
 show wpAny _ _ (Builtin.SmallTypes.ownedTupleIsFree (.ref z)>>=_) _ _ _
 refine u5 ?_
 unfold Builtin.SmallTypes.ownedTupleIsFree
 refine u5 (u0d t rfl (x:=.none) rfl (t5 ?_))
 simp only[u1X]
 refine u5 (u1K (u5 (u0d t rfl (x:=.ref TO) rfl (u5 (u0Y t (by simp) λg1 z1 b1=>?_)))))
 refine u5 ?_
 simp only[u2S,List.zipIdx_nil,u1o,u2D]
 refine u5 (u5 (wpAny_onRaise ?_))
 show wpAny _ _ (Builtin.SmallTypes.nextOf (.ref i1)>>=_) _ _ _
 refine u5 (D1.item k1 _ _ _ l1 (xY D1 h1 b1 r) λx g2 a2 px N b2=>t5 ?_)
 have W:IsPair g2 TO a b:=(b2.2 TO n8).trans ((b1.2 TO (i7 f)).trans I)
 refine u5 (u0V W rfl (u5 (wpAny_updateSeq_pair W λg3 Z b3=>?_)))
 refine u5 (wpAny_letGo (t5 ?_))
 refine u5 (u5 (wpAny_onRaise ?_))
 show wpAny _ _ (Builtin.SmallTypes.nextOf (.ref i2)>>=_) _ _ _
 have L:St2 k2 g3:=xY D2 (xY D2 (xY D2 h2 b1 l) b2 K) b3 p
 refine u5 (D2.item k2 _ _ _ l2 L λy g4 a1 py F j=>t5 ?_)
 have Y:IsPair g4 TO x b:=(j.2 TO n9).trans Z
 refine u5 (u0V Y rfl (u5 (wpAny_updateSeq_pair Y λd D i=>?_)))
 replace D:IsPair d TO x y:=D
 refine u5 (wpAny_letGo (t5 (t5 ?_)))
 refine u5 (u0V D rfl ?_)
 show wpAny _ _ (newTuple [x,y]>>=_) _ _ _
 refine u5 (wpAny_newTuple ?_)
 have k:d.objs.size=s.heap.objs.size:=by rw[i.1,j.1,b3.1,b2.1,b1.1]
 have U:IsZip d z TI TO .ellipsis:=(i.2 z f).trans ((j.2 z G).trans ((b3.2 z f).trans ((b2.2 z H).trans z1)))
 have u:z < d.objs.size:=q4 U
 show wpAny _ _ (Builtin.SmallTypes.ownedTupleHandOut (.ref z) (.ref d.objs.size)>>=_) _ _ _
 refine u5 ?_
 unfold Builtin.SmallTypes.ownedTupleHandOut
 have z6:IsZip (d.push { cls:=.type "tuple",data:=.seq #[x,y] }) z TI TO .ellipsis:=u6 _ U
 refine u5 (u0Y z6 (by simp) λg7 z7 O=>?_)
 refine u0Y z7 (by simp) λC z8 P=>?_
 have B:∀ c o,c≠z->d.get? c=some o->C.get? c=some o:=λc o n e=>(P.2 c n).trans ((O.2 c n).trans (u6 _ e))
 have X:IsPair C d.objs.size x y:=(P.2 _ (u0O u)).trans ((O.2 _ (u0O u)).trans (j8 _ rfl))
 have R:IsZip C z TI TO (rawInt d.objs.size):=z8
 rw[k]at R X
 refine t5 ⟨_,rfl,?_⟩
 show Q (.ref d.objs.size) _
 rw[k]
 have f1:St1 (k1+1) d:=xY D1 (xY D1 (xY D1 N b3 m) j J) i m
 have f2:St2 (k2+1) d:=xY D2 F i p
 refine hQ x y C _ px py R (B _ _ (i7 f) D) (D1.frame _ _ _ f1 λc h o e=>B c o (λq=>r (q ▸ h)) e) (D2.frame _ _ _ f2 λc h o e=>B c o (λq=>l (q ▸ h)) e) X λc o h e=>?_
 simp only[q7,o5,u0J,u3e]at h
 obtain⟨T,V,c3,c4⟩:=h
 exact B c o T ((i.2 c V).trans ((j.2 c c4).trans ((b3.2 c V).trans ((b2.2 c c3).trans ((b1.2 c T).trans e)))))
def zcS (D1:Draws prog w A i1 fp1 n1 P1 St1) (f:z∉fp1) (p:i1≠z) (d:IsZip s.heap z TI TO .none) (g:IsPair s.heap TI (.ref i1) (.ref i2)) (n:St1 n1 s.heap) (y:∀ i e,(∀ c o,c≠z->c≠i1->s.heap.get? c=some o->i.get? c=some o)->(∃ o,i.get? e=some o/\o.cls=.type "StopIteration")->E (.ref e) { s with heap:=i }) :
 wpAny (model prog w) A (Builtin.«zip.__next__» ⟨[.ref z],[]⟩) Q E s:=by
 show wpAny _ _ (field (.ref z) 2>>=_) _ _ _
 refine u5 (u0d d rfl (x:=.bool false) rfl ?_)
 show wpAny _ _ (field (.ref z) 3>>=_) _ _ _
 refine u5 (u0d d rfl (x:=.ref TI) rfl (u5 (u0V g rfl ?_)))
 show wpAny _ _ (Builtin.SmallTypes.ownedTupleIsFree (.ref z)>>=_) _ _ _
 refine u5 ?_
 unfold Builtin.SmallTypes.ownedTupleIsFree
 refine u5 (u0d d rfl (x:=.none) rfl (t5 ?_))
 simp only[u1X]
 refine u5 (u1K (u5 (u0d d rfl (x:=.ref TO) rfl (u5 (u0Y d (by simp) λB u b1=>?_)))))
 refine u5 ?_
 simp only[u2S,List.zipIdx_nil,u1o,u2D]
 refine u5 (u5 (wpAny_onRaise ?_))
 show wpAny _ _ (Builtin.SmallTypes.nextOf (.ref i1)>>=_) _ _ _
 refine u5 (D1.done _ _ _ (xY D1 n b1 f) λr e b2 v=>?_)
 obtain⟨m,a,b⟩:=v
 have k:IsZip r z TI TO .ellipsis:=b2 _ _ (i7 p) u
 have h:e≠z:=λq=>by subst q;rw[k]at a;cases a;simp at b
 exact u0Y k (by simp) λl _ b3=>y l e (λc o j t q=>(b3.2 c j).trans (b2 c o t ((b1.2 c j).trans q))) ⟨m,(b3.2 e h).trans a,b⟩
end
def V4 (b:Bool)(h:Heap)(a l:Addr)(k:Nat):Prop:=if b=true then h.IsListIter a l k else h.IsTupleIter a l k
def zeU (b:Bool)(h:Heap)(l:Addr)(a:wq):Prop:=if b=true then h.IsList l a else h.IsTuple l a
def Wg {w:World}{A:zR}(e:A.handled=none)(b:Bool)(c l:Addr)(d:l≠c)(a:wq) :
 Draws prog w A c [c,l] a.size (λi v=>a[i]?=some v) (λi h=>V4 b h c l i/\zeU b h l a):=by
 cases b with
 | true=>exact Draws.list e c l d a
 | false=>exact YB e c l d a
def zgx (b:Bool) (l:Addr):Obj:={ cls:=.type (if b=true then "list_iterator" else "tuple_iterator"),data:=.fields #[.ref l,.int 0 0] }
abbrev zpA (h:Heap)(b1:Bool)(a:Addr):Heap:=h.push (zgx b1 a)
abbrev zpB (h:Heap)(b1 b2:Bool)(a b:Addr):Heap:=(zpA h b1 a).push (zgx b2 b)
abbrev zpC (h:Heap) (b1 b2:Bool) (a b:Addr):Heap:=(zpB h b1 b2 a b).push (Obj.mk (.type "tuple") none (.seq #[.ref h.objs.size,.ref (zpA h b1 a).objs.size]) #[])
abbrev zpD (h:Heap) (b1 b2:Bool) (a b:Addr):Heap:=(zpC h b1 b2 a b).push (Obj.mk (.type "tuple") none (.seq #[.none,.none]) #[])
abbrev zpE (h:Heap) (b1 b2:Bool) (a b:Addr):Heap:=(zpD h b1 b2 a b).push (Obj.mk (.type "zip") none (.fields #[.none,.bool false,.bool false,.ref (zpB h b1 b2 a b).objs.size,.ref (zpC h b1 b2 a b).objs.size]) #[])
def zc5 (b1 b2:Bool)(c f:Addr)(m l:wq) :
 Meets (Builtin.«zip.__new__» ⟨[.type "zip",.ref c,.ref f],[]⟩) (λ_ R s=>zeU b1 s.heap c m/\zeU b2 s.heap f l /\
  R (.ok (.ret (.ref (zpD s.heap b1 b2 c f).objs.size))) { s with heap:=zpE s.heap b1 b2 c f }) :=
 .of_wp λo w A R s h=>by
  obtain⟨j,g,d,i,os⟩:=s;obtain⟨k,e,h⟩:=h
  have n:=sub_zip
  cases b1 with
  | true =>
   have b:Heap.IsList (Shared.heap ⟨j,g,d,i,os⟩) c m:=k
   cases b2 with
   | true =>
    have a:Heap.IsList (Shared.heap ⟨j.push { cls:=.type "list_iterator",data:=.fields #[.ref c,.int 0 0] },g,d,i,os⟩) f l:=Heap.IsList.push e _
    wp_walk using u0M b,u0M a
    exact⟨_,rfl,h⟩
   | false =>
    have a:Heap.IsTuple (Shared.heap ⟨j.push { cls:=.type "list_iterator",data:=.fields #[.ref c,.int 0 0] },g,d,i,os⟩) f l:=Heap.IsTuple.push e _
    wp_walk using u0M b,i9 a
    exact⟨_,rfl,h⟩
  | false =>
   have b:Heap.IsTuple (Shared.heap ⟨j,g,d,i,os⟩) c m:=k
   cases b2 with
   | true =>
    have a:Heap.IsList (Shared.heap ⟨j.push { cls:=.type "tuple_iterator",data:=.fields #[.ref c,.int 0 0] },g,d,i,os⟩) f l:=Heap.IsList.push e _
    wp_walk using i9 b,u0M a
    exact⟨_,rfl,h⟩
   | false =>
    have a:Heap.IsTuple (Shared.heap ⟨j.push { cls:=.type "tuple_iterator",data:=.fields #[.ref c,.int 0 0] },g,d,i,os⟩) f l:=Heap.IsTuple.push e _
    wp_walk using i9 b,i9 a
    exact⟨_,rfl,h⟩
end PySem
namespace PySem
section
variable {prog:zP}{w:World}{A:zR}{E:yU}{s:zn}
def zbu {b1 b2:Bool}{d:Addr}{t:wq}{Q:yU}(n:zeU b1 s.heap a y)(p:zeU b2 s.heap d t) (h:∀ f,IsZip f (s.heap.objs.size+4) (s.heap.objs.size+2) (s.heap.objs.size+3) .none->IsPair f (s.heap.objs.size+2) (.ref s.heap.objs.size) (.ref (s.heap.objs.size+1)) ->
 IsPair f (s.heap.objs.size+3) .none .none->V4 b1 f s.heap.objs.size a 0->V4 b2 f (s.heap.objs.size+1) d 0 ->
 (∀ c o,s.heap.get? c=some o->f.get? c=some o)->Q (.ref (s.heap.objs.size+4)) { s with heap:=f }) :
 wpAny (model prog w) A (call (.type "zip") [.ref a,.ref d]) Q E s:=by
 refine callType_new F.called_zip (by decide) (F.typeCall_zip_2 _ _) (F.newCall_zip_2 _ _) (λobj=>F.args_object_init_3 obj _ _) F.entry_zip_new
  (zc5 b1 b2 a d y t) ⟨n,p,?_⟩
 have j:(zpA s.heap b1 a).objs.size=s.heap.objs.size+1:=p6 ..
 have k:(zpB s.heap b1 b2 a d).objs.size=s.heap.objs.size+2:=by rw[p6,j]
 have m:(zpC s.heap b1 b2 a d).objs.size=s.heap.objs.size+3:=by rw[p6,k]
 have q:(zpD s.heap b1 b2 a d).objs.size=s.heap.objs.size+4:=by rw[p6,m]
 have i:(zpE s.heap b1 b2 a d).get? (zpD s.heap b1 b2 a d).objs.size=some _:=j8 _ rfl
 have u:(zpE s.heap b1 b2 a d).get? (zpC s.heap b1 b2 a d).objs.size=some _:=u6 _ (j8 _ rfl)
 have r:(zpE s.heap b1 b2 a d).get? (zpB s.heap b1 b2 a d).objs.size=some _:=u6 _ (u6 _ (j8 _ rfl))
 have v:(zpE s.heap b1 b2 a d).get? (zpA s.heap b1 a).objs.size=some (zgx b2 d):=u6 _ (u6 _ (u6 _ (j8 _ rfl)))
 have z:(zpE s.heap b1 b2 a d).get? s.heap.objs.size=some (zgx b1 a):=u6 _ (u6 _ (u6 _ (u6 _ (j8 _ rfl))))
 show _/\_
 rw[k,m,q]at i
 rw[j,k]at r
 rw[m]at u
 rw[j]at v
 rw[q]
 have g:∀ {b:Bool} {l c:Addr},(zpE s.heap b1 b2 a d).get? c=some (zgx b l)->V4 b (zpE s.heap b1 b2 a d) c l 0:=λ{b l c} e=>by
  cases b
  .exact⟨_,e,rfl,rfl⟩
  .exact⟨_,e,rfl,rfl⟩
 exact⟨⟨_,i,rfl⟩,h _ i r u (g z) (g v) λc o x =>
  u6 _ (u6 _ (u6 _ (u6 _ (u6 _ x))))⟩
variable {z TI TO i1 i2:Addr}{fp1 fp2:xS}{n1 n2 k1 k2:Nat}{P1 P2:Nat->Value->Prop}{St1 St2:Nat->Heap->Prop}{a b:Value}
theorem Zi {Q:Option Value->Shared->Prop}(D1:Draws prog w A.in1 i1 fp1 n1 P1 St1)(D2:Draws prog w A.in1 i2 fp2 n2 P2 St2)(p:zkr z TI TO i1 i2 fp1 fp2)
 (i:IsZip s.heap z TI TO .none) (f:IsPair s.heap TI (.ref i1) (.ref i2)) (g:IsPair s.heap TO a b) (l:St1 k1 s.heap) (n:St2 k2 s.heap) (m:k1 < n1) (k:k2 < n2)
 (u:∀ x y d e,P1 k1 x->P2 k2 y->IsZip d z TI TO (rawInt s.heap.objs.size)->IsPair d TO x y->St1 (k1+1) d->St2 (k2+1) d->IsPair d s.heap.objs.size x y ->
  (∀ c o,c∉[z,TO,i1,i2]->s.heap.get? c=some o->d.get? c=some o)->Q (some (.ref s.heap.objs.size)) { s with heap:=d,toks:=e }) :
 wpAny (model prog w) A (pyNext (.ref z)) Q E s:=by
 have h:s.TypeIs (.ref z) "zip":=⟨_,i,rfl⟩
 unfold pyNext
 exact u5 (u0Q (p0 (name:=Str.ofString "__next__") h u19
  (i5 u19 h F.entry_zip_next
   (zbg D1 D2 p i f g l n m k λx y d e v t D q B j C r=>t5 (u x y d e v t D q B j C r)) (F.args_zip_next_1 _))))
def ZF {Q:Option Value->Shared->Prop}(D1:Draws prog w A.in1 i1 fp1 n1 P1 St1)(a:z∉fp1)(m:i1≠z)
 (h:IsZip s.heap z TI TO .none) (d:IsPair s.heap TI (.ref i1) (.ref i2)) (i:St1 n1 s.heap)
 (k:∀ f,(∀ c o,c≠z->c≠i1->s.heap.get? c=some o->f.get? c=some o)->Q none { s with heap:=f }):wpAny (model prog w) A (pyNext (.ref z)) Q E s:=by
 have g:s.TypeIs (.ref z) "zip":=⟨_,h,rfl⟩
 unfold pyNext
 refine u5 (u0Q (p0 (name:=Str.ofString "__next__") g u19
  (i5 u19 g F.entry_zip_next (zcS D1 a m h d i λf e n j=>?_) (F.args_zip_next_1 _))))
 obtain⟨o,p,l⟩:=j
 refine u5 (wpAny_isInstance (T:="StopIteration") (b:=true) ⟨o,p,l⟩ isSubtype_stop ?_)
 exact t5 (k _ n)
end
end PySem
namespace L2
open PySem PySem.Spec PyProof.Rows
def Sq (b:Bool)(K:zv)(H:Hp)(a:Addr)(c:zx):Prop:=if b=true then SqL K H a c else SqT K H a c
def Inv.sq {X:Cx}{d:xC}{s:zn}(I:Inv X d σ H s)(h:Sq b X.K H a e):∃ c:zB,yw e c/\zeU b s.heap a c.toArray/\a<s.heap.objs.size:=by
 cases b with
 | true =>
  obtain⟨c,r,p,_⟩:=I.list (show SqL X.K H a e from h)
  exact⟨c,r,p.isList,by obtain⟨o,n,f,_⟩:=p;exact q4 f⟩
 | false =>
  obtain⟨c,r,p,_⟩:=I.tuple (show SqT X.K H a e from h)
  exact⟨c,r,p,by obtain⟨o,f,_⟩:=p;exact q4 f⟩
def Inv.sq_inj {X:Cx}{f:zx}(I:Inv X c σ H s)(h:Sq b X.K H a f)(d:Sq b X.K H a e):f=e:=by
 cases b with
 | true=>exact I.list_inj h d
 | false=>exact I.tuple_inj h d
def Izp (K:zv)(b1 b2:Bool)(c d:Addr):It :=
 ⟨λi H=>∃ a b x y,Sq b1 K H c a/\Sq b2 K H d b/\a[i]?=some x/\b[i]?=some y,
  λi H v H'=>∃ T x y,v=.ref T/\H T=none/\H'=upd H T (.tup [x,y])/\(∀ a,Sq b1 K H c a->a[i]?=some x)/\(∀ b,Sq b2 K H d b->b[i]?=some y),
  λi H=>∃ a,Sq b1 K H c a/\i=a.length⟩
def ZP {h:Heap}{d:Addr}{k:Nat}(x:V4 b h d l k):∃ o,h.get? d=some o/\∀ v,o.data≠.cell v:=by
 cases b
 .obtain⟨o,c,_,a⟩:=x
  exact⟨o,c,λv z=>by rw[a]at z;cases z⟩
 .obtain⟨o,c,_,a⟩:=x
  exact⟨o,c,λv z=>by rw[a]at z;cases z⟩
def X2 {h d:Heap}{k:Nat}(x:V4 b h a l k)(e:∀ o,h.get? a=some o->d.get? a=some o):V4 b d a l k:=by
 cases b
 .obtain⟨o,c,r⟩:=x
  exact⟨o,e o c,r⟩
 .obtain⟨o,c,r⟩:=x
  exact⟨o,e o c,r⟩
def zjs {P:zP}{w:World}{K:zv}{es:y9}{k:Nat}{tp:Pos}(b1 b2:Bool)(l1 l2 z TI TO i1 i2:Addr)(ap:zkr z TI TO i1 i2 [i1,l1] [i2,l2])(n1:l1≠i1)(n2:l2≠i2) :
 zlB P w K (.Tuple es k tp) (Izp K b1 b2 l1 l2) [z,TI,TO,i1,i2] z (λi h=>IsZip h z TI TO .none/\IsPair h TI (.ref i1) (.ref i2)/\(∃ a b,IsPair h TO a b)/\V4 b1 h i1 l1 i/\V4 b2 h i2 l2 i) where
 mem:=by simp
 obj:=λi h st b hb=>by
  obtain⟨hz,hTI,⟨a,c,hTO⟩,h1,h2⟩:=st
  simp only[q7,o5,u0J]at hb
  rcases hb with rfl | rfl | rfl | rfl | rfl
  .exact⟨_,hz,λv z=>by cases z⟩
  .exact⟨_,hTI,λv z=>by cases z⟩
  .exact⟨_,hTO,λv z=>by cases z⟩
  .exact ZP h1
  .exact ZP h2
 keep:=λi h h' st kk=>by
  obtain⟨hz,hTI,⟨a,c,hTO⟩,h1,h2⟩:=st
  exact⟨kk z (by simp) _ hz,kk TI (by simp) _ hTI,⟨a,c,kk TO (by simp) _ hTO⟩,X2 h1 λo q=>kk i1 (by simp) o q,X2 h2 λo q=>kk i2 (by simp) o q⟩
 item:=by
  intro X hP hw hK hc i pins s σ H E I hf st hg
  subst hP hw hK
  obtain⟨hz,hTI,⟨a,c,hTO⟩,h1,h2⟩:=st
  obtain⟨xs,ys,x,y,hq1,hq2,hx,hy⟩:=hg
  obtain⟨its,rv,p,_⟩:=I.sq hq1
  obtain⟨its2,rv2,p2,_⟩:=I.sq hq2
  obtain⟨u,hu,ru⟩:=rv.get hx
  obtain⟨u2,hu2,ru2⟩:=rv2.get hy
  have hl1:i<its.toArray.size:=by simpa using (j3.mp hu).1
  have hl2:i<its2.toArray.size:=by simpa using (j3.mp hu2).1
  have hh:X.A.in1.handled=none:=I.ok.hd hc
  refine Zi (Wg hh b1 i1 l1 n1 its.toArray) (Wg hh b2 i2 l2 n2 its2.toArray) ap hz hTI hTO ⟨h1,p⟩ ⟨h2,p2⟩ hl1 hl2 λv1 v2 h' tk e1 e2 hz' hTO' s1 s2 hT' hk=>?_
  have eu:v1=u:=by
   have:its[i]?=some v1:=by simpa using e1
   rw[hu]at this
   exact(o4 this).symm
  have eu2:v2=u2:=by
   have:its2[i]?=some v2:=by simpa using e2
   rw[hu2]at this
   exact(o4 this).symm
  subst eu eu2
  obtain⟨nd,az1,az2,ao1,ao2,a12,a21⟩:=ap
  simp only[u0B,q7,o5,u0J,u3e,u1G,u1L,and_true]at nd
  obtain⟨⟨m1,m2,m3,m4⟩,⟨m5,m6,m7⟩,⟨m8,m9⟩,m10⟩:=nd
  refine⟨_,rfl,wpAny_letOwnedTupleGo_zip hz' λh2' hz2 hs2=>?_⟩
  have hfr:H s.heap.objs.size=none:=I.hok.fresh (t6 _)
  have neZ:s.heap.objs.size≠z:=u0O (q4 hz)
  have hT2:IsPair h2' s.heap.objs.size v1 v2:=(hs2.2 _ neZ).trans hT'
  have hTI':IsPair h' TI (.ref i1) (.ref i2):=hk TI _ (by simp[i7 m1,m5,m6,m7]) hTI
  have lt:∀ b∈[z,TI,TO,i1,i2],b<s.heap.objs.size:=λb hb=>by
   simp only[q7,o5,u0J]at hb
   rcases hb with rfl | rfl | rfl | rfl | rfl
   .exact q4 hz
   .exact q4 hTI
   .exact q4 hTO
   .obtain⟨o,ho,_⟩:=ZP h1;exact q4 ho
   .obtain⟨o,ho,_⟩:=ZP h2;exact q4 ho
  refine⟨.ref s.heap.objs.size,upd H s.heap.objs.size (.tup [x,y]),?_,rfl,⟨_,x,y,rfl,hfr,rfl,λzs hz=>by rw[I.sq_inj hz hq1];exact hx,λzs hz=>by rw[I.sq_inj hz hq2];exact hy⟩,
   ⟨hz2,(hs2.2 TI (i7 m1)).trans hTI',⟨_,_,(hs2.2 TO (i7 m2)).trans hTO'⟩,X2 s1.1 λo q=>(hs2.2 i1 (i7 m3)).trans q,X2 s2.1 λo q=>(hs2.2 i2 (i7 m4)).trans q⟩,λb hb=>?_⟩
  .refine I.grown (ch:=[z,TI,TO,i1,i2]) hf (t6 _) (λb v hb q=>?_) ?_
   .have nb:b≠z:=λw=>hb (by simp[w])
    refine(hs2.2 b nb).trans (hk b v (λw=>hb ?_) q)
    simp only[q7,o5,u0J]at w ⊢
    rcases w with w | w | w | w
    .exact .inl w
    .exact .inr (.inr (.inl w))
    .exact .inr (.inr (.inr (.inl w)))
    .exact .inr (.inr (.inr (.inr w)))
   .exact⟨by show 2<=sizeLine;decide,[v1,v2],.cons ru (.cons ru2 .nil),⟨_,hT2,rfl,0,rfl⟩⟩
  .rw[zi (k6 (lt b hb))]
   exact(hf b hb).1
 done:=by
  intro X hP hw hK hc i pins s σ H E I hf st hg
  subst hP hw hK
  obtain⟨hz,hTI,⟨a,c,hTO⟩,h1,h2⟩:=st
  obtain⟨xs,hq,rfl⟩:=hg
  obtain⟨its,rv,p,_⟩:=I.sq hq
  have hl:=rv.length
  have hh:X.A.in1.handled=none:=I.ok.hd hc
  have D:=Wg (prog:=X.prog) (w:=X.w) hh b1 i1 l1 n1 its.toArray
  refine ZF D ap.z1 ?_ hz hTI ⟨by rw[t9,<- hl];exact h1,p⟩ λh' hk=>⟨rfl,I.turnedN (ch:=[z,TI,TO,i1,i2]) (t':=s.toks) hf λb v hb q=>hk b v (λw=>hb (by simp[w])) (λw=>hb (by simp[w])) q⟩
  have nd:=ap.nd
  simp only[u0B,q7,o5,u0J,u3e,u1G,u1L,and_true]at nd
  exact i7 nd.1.2.2.1
 self:=λ_ _ _ _ _ st h=>wpAny_pyIter_zip st.1 h
def iZip (K:zv)(c:TA):TI:=fun σ H R=>c σ H λd H1=>∃ b1 b2 a b f e,d=[.ref a,.ref b]/\Sq b1 K H1 a f/\Sq b2 K H1 b e/\R (Izp K b1 b2 a b) H1
def zoJ {X:Cx} {k:Nat} {p t:Pos} (S:Gl X "zip") (O:X.mg "zip"=none) (o:bootBuiltins "zip"=some (.type "zip")) (ha:PA X [a,b] L) (Z:starEach [a,b] X.env=[(false,eval a X.env),(false,eval b X.env)]:=by rfl) (v:starEach [b] X.env=[(false,eval b X.env)]:=by rfl):PI X (.Tuple Y k Q) (.Call (.Name "zip" p) [a,b] [] t) (iZip X.K L):=by
 intro g s σ H R I h
 refine Call_ (WN I S O o (u0i (thn (ha t g s σ H _ I h) λus c hh9=>?_) (by rw[Z,v]) (by rw[v];rfl)))
 obtain⟨vs,H1,I1,r1,N⟩:=hh9
 obtain⟨b1,b2,x,z,xs,ys,e,A,J,q⟩:=N
 subst e
 obtain⟨u,u2,rfl,T,B⟩:=zj1 r1
 cases T
 cases B
 obtain⟨a0,rv,p1,d⟩:=I1.sq A
 obtain⟨K,P,V,r⟩:=I1.sq J
 refine zbu p1 V λh2 M D F C E U=>wpAny_pyIter_zip M ?_
 have w:∀ b,c.heap.objs.size<=b->zdG X g H1 b:=λb o=>I1.fpOk o (I1.hok.fresh o)
 have W:zkr (c.heap.objs.size+4) (c.heap.objs.size+2) (c.heap.objs.size+3) c.heap.objs.size (c.heap.objs.size+1) [c.heap.objs.size,x] [c.heap.objs.size+1,z]:=by
  have N:x≠c.heap.objs.size:=k6 d
  have y:∀ j:Nat,c.heap.objs.size+j≠x:=λj e=>u0h _ (q5 (by rw[<-e]at d;exact d) (u0l _ _))
  have G:∀ j:Nat,c.heap.objs.size+j≠z:=λj e=>u0h _ (q5 (by rw[<-e]at r;exact r) (u0l _ _))
  have f:∀ i j:Nat,i≠j->c.heap.objs.size+i≠c.heap.objs.size+j:=λi j h e=>h (Nat.add_left_cancel e)
  have l:∀ i:Nat,i≠0->c.heap.objs.size+i≠c.heap.objs.size:=λi h e=>h (Nat.add_left_cancel (n:=c.heap.objs.size) (m:=i) (k:=0) e)
  refine⟨?_,?_,?_,?_,?_,?_,?_⟩
  .simp only[u0B,q7,o5,u0J,u3e,u1G,u1L,and_true]
   exact⟨⟨f 4 2 (by decide),f 4 3 (by decide),l 4 (by decide),f 4 1 (by decide)⟩,⟨f 2 3 (by decide),l 2 (by decide),f 2 1 (by decide)⟩,⟨l 3 (by decide),f 3 1 (by decide)⟩,i7 (l 1 (by decide))⟩
  .simp only[q7,o5,u0J,u3e];exact⟨l 4 (by decide),y 4⟩
  .simp only[q7,o5,u0J,u3e];exact⟨f 4 1 (by decide),G 4⟩
  .simp only[q7,o5,u0J,u3e];exact⟨l 3 (by decide),y 3⟩
  .simp only[q7,o5,u0J,u3e];exact⟨f 3 1 (by decide),G 3⟩
  .simp only[q7,o5,u0J,u3e];exact⟨i7 (l 1 (by decide)),G 0⟩
  .simp only[q7,o5,u0J,u3e];exact⟨l 1 (by decide),y 1⟩
 refine⟨_,_,_,_,H1,rfl,I1.kept (t':=c.toks) U,zjs b1 b2 x z _ _ _ _ _ W (k6 d) (k6 (u0y r)),⟨M,D,⟨_,_,F⟩,C,E⟩,λb o=>?_,q⟩
 simp only[q7,o5,u0J]at o
 rcases o with rfl | rfl | rfl | rfl | rfl
 .exact w _ (u0l _ _)
 .exact w _ (u0l _ _)
 .exact w _ (u0l _ _)
 .exact w _ (t6 _)
 .exact w _ (u0l _ _)
end L2
namespace OwnSort
open PySem PyProof.Rows
section pure
variable {κ:KeyKind}{xs:Array Keyed}
def up1 (b:SortedToK κ xs x)(f:1<=x)(h:κ.kle (KK κ xs (x-1)) (KK κ xs x)):SortedToK κ xs (x+1):=λi j a e=>by
 by_cases c:j<x
 .exact b i j a c
 .obtain rfl:j=x:=by omega
  by_cases d:i=j
  .rw[d];exact u0A _
  .exact u1U (b i (j-1) (by omega) (by omega)) h
def zjB (b:NonIncK κ xs x)(f:1<=x)(h:κ.kle (KK κ xs x) (KK κ xs (x-1))):NonIncK κ xs (x+1):=λi j a e=>by
 by_cases c:j<x
 .exact b i j a c
 .obtain rfl:j=x:=by omega
  by_cases d:i=j
  .rw[d];exact u0A _
  .exact u1U h (b i (j-1) (by omega) (by omega))
def Wv (e:∀ i,KK κ b i=KK κ xs i)(h:NonIncK κ xs n):NonIncK κ b n:=λi j a c=>by rw[e,e];exact h i j a c
def turned {n:Nat}(a:n<=xs.size)(h:NonIncK κ xs n):SortedToK κ (mirror xs 0 n ((n-0)/2)) n:=λi j b c=>by
 rw[KK_mirror a,KK_mirror a,t7 ⟨by omega,by omega⟩,t7 ⟨by omega,by omega⟩]
 exact h _ _ (by omega) (by omega)
def zfb:SortedToK κ xs 1:=λi j a b=>by
 obtain rfl:i=j:=by omega
 exact u0A _
def zft:NonIncK κ xs 1:=λi j a b=>by
 obtain rfl:i=j:=by omega
 exact u0A _
end pure
structure SB (k:SortKind) (a₀:Array Keyed) (st:SortSt):Prop where
 pm:(arrOf st).Perm a₀
 kd:kindOf st=k
 fl:failedOf st=none
 pd:pendingOf st=#[]
def SB.sz {k:SortKind}{b:Array Keyed}(B:SB k b a):(arrOf a).size=b.size:=B.pm.size_eq
def SB.put {k:SortKind}{b:Array Keyed}(B:SB k c a)(p:b.Perm (arrOf a)):SB k c (setArr a b):=⟨p.trans B.pm,B.kd,B.fl,B.pd⟩
section
variable {prog:zP}{w:World}{A:zR}{E:yU}{s:zn}{a₀:Array Keyed}{κ:KeyKind}{k:SortKind}{st:SortSt}
def LtOk (prog:zP)(w:World)(A:zR)(E:yU)(s:zn)(a₀:Array Keyed)(κ:KeyKind)(k:SortKind):Prop :=
 ∀ (st:SortSt) (i j:Nat) (Q:Option Bool->SortSt->Prop),SB k a₀ st->i<a₀.size->j<a₀.size->Q (some (κ.blt (KK κ (arrOf st) i) (KK κ (arrOf st) j))) st->wpS (model prog w) A E s (ltAt' i j) Q st
def zg9 {a n:Nat}{Q:AscSt->SortSt->Prop}(L:LtOk prog w A E s a₀ κ k)(o:n<=a₀.size)(j:1<=a)(f:a<=n)(B:SB k a₀ st)(g:SortedToK κ (arrOf st) a)
 (h:∀ m,a<=m->m<=n->SortedToK κ (arrOf st) m->(m=n\/κ.klt (KK κ (arrOf st) m) (KK κ (arrOf st) (m-1)))->Q (none,m) st):wpS (model prog w) A E s (ascLoop a n) Q st:=by
 unfold ascLoop
 refine u1T (I:=λx c t=>(t=st/\c=(none,x))/\SortedToK κ (arrOf st) x) (λx c t i l d=>?_) (λc t d=>?_) ⟨⟨rfl,rfl⟩,g⟩
 .obtain⟨⟨rfl,rfl⟩,b⟩:=d
  refine p9 (L _ x (x-1) _ B (by omega) (by omega) ?_)
  cases c:κ.blt (KK κ (arrOf t) x) (KK κ (arrOf t) (x-1)) with
  | true=>exact u0s (h x i (by omega) b (.inr c))
  | false=>exact u0s ⟨⟨rfl,rfl⟩,up1 b (by omega) c⟩
 .obtain⟨⟨rfl,rfl⟩,b⟩:=d
  have e:max a n=n:=by omega
  rw[e]at b ⊢
  exact h n f (t6 _) b (.inl rfl)
def zdX {n m:Nat}{Q:Option Nat->SortSt->Prop}(L:LtOk prog w A E s a₀ κ k)(b:m<=a₀.size)(c:1<=n)(a:n<=m)(B:SB k a₀ st)(d:NonIncK κ (arrOf st) n)
 (h:∀ r t,SB k a₀ t->1<=r->r<=m->SortedToK κ (arrOf t) r->Q (some r) t):wpS (model prog w) A E s (tail3 n m) Q st:=by
 unfold tail3
 have B':=B.put (mirror_perm (arrOf st) 0 n ((n-0)/2))
 exact p9 (wpS_reverse (p9 (zg9 L b c a B' (turned (by rw[B.sz];omega) d) λr g f e _=>u0s (h r _ B' (by omega) f e))))
def zjE {n m:Nat}{Q:DescSt->SortSt->Prop}(L:LtOk prog w A E s a₀ κ k)(F:m<=a₀.size)(z:1<=n)(u:n<=m)(B:SB k a₀ st)(J:NonIncK κ (arrOf st) n)
 (h:∀ r q t,SB k a₀ t->n<=r->r<=m->NonIncK κ (arrOf t) r->q+1<=r->(∀ i,r-(q+1)<=i->i<r->KK κ (arrOf t) i=KK κ (arrOf t) (r-1))->Q (none,r,q) t):wpS (model prog w) A E s (descLoop n m) Q st:=by
 unfold descLoop
 refine u1T (I:=λx c t=>∃ q,c=(none,x,q)/\SB k a₀ t/\NonIncK κ (arrOf t) x/\q+1<=x/\∀ i,x-(q+1)<=i->i<x->KK κ (arrOf t) i=KK κ (arrOf t) (x-1))
  (λx c t D C y=>?_) (λc t y=>?_) ⟨0,rfl,B,J,z,λi l b=>by rw[show i=n-1 from u2d (u07 b) l]⟩
 .obtain⟨q,rfl,B1,g,v,j⟩:=y
  have a:x<a₀.size:=q5 C F
  have f:x-1<a₀.size:=l7 (Nat.sub_le _ _) a
  have o:1<=x:=r0 z D
  have H:x<=(arrOf t).size:=by rw[B1.sz];exact i4 a
  refine p9 (L _ x (x-1) _ B1 a f ?_)
  cases c:κ.blt (KK κ (arrOf t) x) (KK κ (arrOf t) (x-1)) with
  | true =>
   have d:=zjB g o (u1D c)
   by_cases p:q>0
   .show wpS _ _ _ _ (if q>0 then _ else _) _ _
    rw[t7 p]
    exact p9 (wpS_reverse (u0s ⟨0,rfl,B1.put (mirror_perm _ _ _ _),Wv (KK_mirror_equal H j) d,u1d (u0b _),λi l b=>by rw[show i=x+1-1 from u2d (i6 b) l]⟩))
   .show wpS _ _ _ _ (if q>0 then _ else _) _ _
    rw[j6 p]
    exact u0s ⟨0,rfl,B1,d,u1d (u0b _),λi l b=>by rw[show i=x+1-1 from u2d (i6 b) l]⟩
  | false =>
   refine p9 (L _ (x-1) x _ B1 f a ?_)
   cases b:κ.blt (KK κ (arrOf t) (x-1)) (KK κ (arrOf t) x) with
   | true=>exact u0s (h x q t B1 D (i4 C) g v j)
   | false =>
    have same:KK κ (arrOf t) x=KK κ (arrOf t) (x-1):=KeyOrd.kle_antisymm b c
    refine u0s ⟨q+1,rfl,B1,zjB g o b,u1d v,λi K M=>?_⟩
    show KK κ (arrOf t) i=KK κ (arrOf t) x
    by_cases G:i=x
    .rw[G]
    .rw[same];exact j i (by omega) (by omega)
 .obtain⟨q,rfl,B1,g,v,j⟩:=y
  have e:max n m=m:=Nat.max_eq_right u
  rw[e]at g v j ⊢
  exact h m q t B1 u (t6 _) g v j
def Xy {n m:Nat}{Q:Option Nat->SortSt->Prop}(L:LtOk prog w A E s a₀ κ k)(b:m<=a₀.size)(c:n+1<=m)(B:SB k a₀ st)(f:NonIncK κ (arrOf st) (n+1))
 (h:∀ r t,SB k a₀ t->1<=r->r<=m->SortedToK κ (arrOf t) r->Q (some r) t):wpS (model prog w) A E s (descPart n m) Q st:=by
 unfold descPart
 refine p9 (wpS_lift (u1K ⟨rfl,p9 (zjE L b (by omega) c B f λr q t B1 j d e l g=>?_)⟩))
 have i:r<=(arrOf t).size:=by rw[B1.sz];omega
 by_cases a:q>0
 .show wpS _ _ _ _ (if q>0 then _ else _) _ _
  rw[t7 a]
  exact p9 (wpS_reverse (zdX (n:=r) L b (by omega) d (B1.put (mirror_perm _ _ _ _)) (Wv (KK_mirror_equal i g) e) h))
 .show wpS _ _ _ _ (if q>0 then _ else _) _ _
  rw[j6 a]
  exact zdX (n:=r) L b (by omega) d B1 e h
def zm0 {m:Nat}{Q:Option Nat->SortSt->Prop}(L:LtOk prog w A E s a₀ κ k)(b:m<=a₀.size)(u:1<=m)(B:SB k a₀ st)
 (h:∀ r t,SB k a₀ t->1<=r->r<=m->SortedToK κ (arrOf t) r->Q (some r) t):wpS (model prog w) A E s (countRun' 0 m) Q st:=by
 rw[countRun0_eq]
 refine p9 (zg9 L b (t6 1) u B zfb λn l o a or=>?_)
 show wpS _ _ _ _ (if (n == m)=true then _ else if n>1 then _ else _) _ _
 by_cases e:n=m
 .rw[t7 (by rw[e];exact u0T m)]
  exact u0s (h n st B l o a)
 .rw[j6 (λz=>e (eq_of_beq z))]
  have f:=or.resolve_left e
  by_cases g:n>1
  .rw[t7 g]
   refine p9 (L _ 0 (n-1) _ B (by omega) (by omega) ?_)
   cases c:κ.blt (KK κ (arrOf st) 0) (KK κ (arrOf st) (n-1)) with
   | true=>exact u0s (h n st B l o a)
   | false =>
    have v:n<=(arrOf st).size:=by rw[B.sz];omega
    have d:∀ i,0<=i->i<n->KK κ (arrOf st) i=KK κ (arrOf st) (n-1):=λi _ q =>
     KeyOrd.kle_antisymm (a i (n-1) (by omega) (by omega)) (u1U c (a 0 i (by omega) q))
    have x:NonIncK κ (arrOf st) n:=λi j _ p=>by rw[d i (by omega) (by omega),d j (by omega) p];exact u0A _
    exact p9 (wpS_reverse (Xy L b (by omega) (B.put (mirror_perm _ _ _ _)) (Wv (KK_mirror_equal v d) (zjB x (by omega) (u1D f))) h))
  .rw[j6 g]
   obtain rfl:n=1:=by omega
   exact Xy L b (by omega) B (zjB zft (t6 1) (u1D f)) h
def zqw {l u a:Nat}(h:(l+u)/2=a)(c:¬ l >= u):l<=a/\a<u:=by
 have b:l<u:=Nat.lt_of_not_le c
 rw[<-h]
 exact⟨(Nat.le_div_iff_mul_le (by decide)).mpr (by rw[Nat.mul_two];exact u0P (i4 b) l),(Nat.div_lt_iff_lt_mul (by decide)).mpr (by rw[Nat.mul_two];exact Nat.add_lt_add_right b u)⟩
def zr0 {l u a x y:Nat}(c:l<=a)(d:a<u)(b:u-l<=x-y):a-l<=x-(y+1) :=
 r0 (u07 (Nat.sub_lt_sub_right c d)) (u10 b 1)
def zrU {l u a x y:Nat}(b:l<=a)(c:u-l<=x-y):u-(a+1)<=x-(y+1) :=
 r0 (Nat.sub_le_sub_left (u1d b) u) (u10 c 1)
def zoX (r n:Nat):min (max (max r 1) n) n=n:=u2T (Nat.le_max_right _ _)
def zn7 {r n:Nat}(a:¬ r=0)(b:r<=n):min (max r 1) n=r:=by
 rw[Nat.max_eq_left (Nat.pos_of_ne_zero a),u1t b]
def zo6 {i j r:Nat}(c:r=0)(a:i<=j)(b:j<min (max r 1) n):i=j:=by
 subst c
 have h0:j=0:=Nat.lt_one_iff.mp (q5 b (Nat.min_le_left _ _))
 subst h0
 exact Nat.le_zero.mp a
def znh {n r:Nat}{Q:Bool->SortSt->Prop}(L:LtOk prog w A E s a₀ κ k)(Y:n<=a₀.size)(V:r<=n)(B:SB k a₀ st)(X:SortedToK κ (arrOf st) r)
 (h:∀ t,SB k a₀ t->SortedToK κ (arrOf t) n->Q true t):wpS (model prog w) A E s (binarySort' 0 n r) Q st:=by
 rw[binarySort'_eq]
 refine p9 (wpS_mono (u1T (I:=λx c t=>(c=(none,())/\SB k a₀ t)/\SortedToK κ (arrOf t) (min x n)) (Q:=λc t=>(c=(none,())/\SB k a₀ t)/\SortedToK κ (arrOf t) n)
  (λx c t g1 N C=>?_) (λc t C=>?_) ⟨⟨rfl,B⟩,?_⟩) λc t C=>?_)
 .obtain⟨⟨rfl,B1⟩,b⟩:=C
  rw[u1t (i4 N)]at b
  have M:x<a₀.size:=q5 N Y
  refine p9 (wpS_mono (u1T
   (I:=λy c g=>g=t/\∃ l u,c=(none,l,u)/\(l<=u/\u<=x/\u-l<=x-y)/\(∀ i,i<l->κ.kle (KK κ (arrOf t) i) (KK κ (arrOf t) x))/\∀ i,u<=i->i<x->κ.klt (KK κ (arrOf t) x) (KK κ (arrOf t) i))
   (Q:=λc g=>g=t/\∃ l u,c=(none,l,u)/\l<=x/\(∀ i,i<l->κ.kle (KK κ (arrOf t) i) (KK κ (arrOf t) x))/\∀ i,l<=i->i<x->κ.klt (KK κ (arrOf t) x) (KK κ (arrOf t) i))
   (λy c g Z y2 H=>?_) (λc g H=>?_) ⟨rfl,0,x,rfl,⟨u0b _,t6 _,t6 _⟩,λi W=>absurd W (Nat.not_lt_zero _),λi d o=>absurd (l7 d o) (u0h _)⟩) λc g H=>?_)
  .obtain⟨rfl,l,u,rfl,⟨F,f,P⟩,z,v⟩:=H
   show wpS _ _ _ _ (if l >= u then _ else _) _ _
   by_cases D:l >= u
   .rw[t7 D]
    obtain rfl:l=u:=u2d F D
    exact u0s ⟨rfl,l,l,rfl,f,z,v⟩
   .rw[j6 D]
    generalize J:(l+u)/2=md
    obtain⟨O,G⟩:=zqw J D
    clear J D F
    refine p9 (L _ (0+x) (0+md) _ B1 (by rw[g8];exact M) (by rw[g8];exact q5 G (r0 f (i4 M))) ?_)
    rw[g8,g8]
    cases T:κ.blt (KK κ (arrOf g) x) (KK κ (arrOf g) md) with
    | true=>exact u0s ⟨rfl,l,md,rfl,⟨O,r0 (i4 G) f,zr0 O G P⟩,z,λi d o=>KeyOrd.klt_of_klt_of_kle T (b _ _ d o)⟩
    | false=>exact u0s ⟨rfl,md+1,u,rfl,⟨G,f,zrU O P⟩,λi d=>u1U (b i md (i6 d) (q5 G f)) T,v⟩
  .obtain⟨rfl,l,u,rfl,⟨F,f,P⟩,z,v⟩:=H
   obtain rfl:l=u:=by omega
   exact⟨rfl,l,l,rfl,f,z,v⟩
  .obtain⟨rfl,l,u,rfl,f,z,v⟩:=H
   show wpS _ _ _ _ (do moveDown' (0+x) (0+l);pure (ForInStep.yield (none,()))) _ _
   rw[moveDown'_eq,g8,g8]
   refine p9 (wpS_modify (u0s ⟨⟨rfl,B1.put (bubble_perm _ _ _)⟩,?_⟩))
   have S:x<(arrOf g).size:=by rw[B1.sz];exact M
   rw[u1t (Nat.succ_le_of_lt N)]
   show SortedToK κ (bubble (arrOf g) x (x-l)) (x+1)
   intro i j a m
   rw[KK_bubble S (Nat.sub_le _ _),KK_bubble S (Nat.sub_le _ _),Nat.sub_sub_self f]
   by_cases d:i=l
   .rw[t7 d]
    by_cases p:j=l
    .rw[t7 p];exact u0A _
    .have q:l<j:=u2u (by rw[<-d];exact a) (λe=>p e.symm)
     rw[j6 p,t7 ⟨q,i6 m⟩];exact u1D (v _ (u07 q) (q5 (Nat.sub_lt (u2J q) Nat.one_pos) (i6 m)))
   .rw[j6 d]
    by_cases o:l<i/\i<=x
    .have q:=q5 o.1 a
     rw[t7 o,j6 (λe=>absurd q (by rw[e];exact u0h _)),t7 ⟨q,i6 m⟩];exact b _ _ (u10 a 1) (q5 (Nat.sub_lt (u2J q) Nat.one_pos) (i6 m))
    .rw[j6 o]
     have U:i<l:=u2u (u0E λh=>o ⟨h,r0 a (i6 m)⟩) d
     clear o d
     by_cases p:j=l
     .rw[t7 p];exact z i U
     .rw[j6 p]
      by_cases K:l<j/\j<=x
      .rw[t7 K];exact b _ _ (u07 (Nat.lt_trans U K.1)) (q5 (Nat.sub_lt (u2J K.1) Nat.one_pos) (i6 m))
      .rw[j6 K];exact b _ _ a (q5 (u2u (u0E λh=>K ⟨h,i6 m⟩) p) f)
 .obtain⟨⟨F,B1⟩,b⟩:=C
  rw[zoX]at b
  exact⟨⟨F,B1⟩,b⟩
 .by_cases R:r=0
  .intro i j a m
   obtain rfl:i=j:=zo6 R a m
   exact u0A _
  .rw[zn7 R V];exact X
 .obtain⟨⟨rfl,B1⟩,b⟩:=C
  exact u0s (h t B1 b)
def own_runs {Q:Unit->SortSt->Prop}(L:LtOk prog w A E s a₀ κ k)(B:SB k a₀ st)(C:2<=a₀.size)(v:a₀.size<64)
 (h:∀ t,(arrOf t).Perm a₀->failedOf t=none->SortedToK κ (arrOf t) a₀.size->Q () t):wpS (model prog w) A E s sortRuns' Q st:=by
 rw[sortRuns'_eq]
 have l:minRun' a₀.size a₀.size 0=a₀.size:=by
  cases e:a₀.size with
  | zero=>omega
  | succ f=>rw[minRun'_succ,t7 (by omega),Nat.add_zero]
 refine p9 (wpS_get ?_)
 simp only[B.sz,l]
 let Dn:SortSt->Prop:=λt=>(arrOf t).Perm a₀/\failedOf t=none/\pendingOf t=#[(0,a₀.size,0)]/\SortedToK κ (arrOf t) a₀.size
 have fin:∀ t,SB k a₀ t->SortedToK κ (arrOf t) a₀.size->Dn (setPending t ((pendingOf t).push (0,a₀.size,0))):=λt B1 p=>⟨B1.pm,B1.fl,by show(pendingOf t).push _=_;rw[B1.pd];rfl,p⟩
 refine p9 (wpS_mono (u1T (I:=λx c t=>(x=0/\c=(none,0)/\SB k a₀ t)\/(1<=x/\c=(none,a₀.size)/\Dn t)) (Q:=λc t=>c=(none,a₀.size)/\Dn t)
  (λx c t G D a=>?_) (λc t a=>?_) (.inl ⟨rfl,rfl,B⟩)) λc t a=>?_)
 .rcases a with ⟨rfl,rfl,B1⟩ | ⟨_,rfl,D1⟩
  .show wpS _ _ _ _ (if 0 >= a₀.size then _ else _) _ _
   rw[j6 (by omega)]
   simp only[Nat.sub_zero,Nat.min_self,g8]
   refine p9 (zm0 L (t6 _) (by omega) B1 λr g B2 F n i=>?_)
   show wpS _ _ _ _ (if r<a₀.size then _ else _) _ _
   by_cases d:r<a₀.size
   .rw[t7 d]
    refine p9 (wpS_lift (u1K ⟨rfl,p9 (znh L (t6 _) n B2 i λj B3 o=>?_)⟩))
    refine p9 (wpS_get ?_)
    rw[show(pendingOf j).back?=none by rw[B3.pd];rfl]
    exact p9 (wpS_modify (u0s (.inr ⟨by omega,rfl,fin j B3 o⟩)))
   .rw[j6 d]
    obtain rfl:r=a₀.size:=by omega
    refine p9 (wpS_get ?_)
    rw[show(pendingOf g).back?=none by rw[B2.pd];rfl]
    exact p9 (wpS_modify (u0s (.inr ⟨by omega,rfl,fin g B2 i⟩)))
  .show wpS _ _ _ _ (if a₀.size >= a₀.size then _ else _) _ _
   rw[t7 (t6 _)]
   exact u0s ⟨rfl,D1⟩
 .rcases a with ⟨z,_,_⟩ | ⟨_,e,D1⟩
  .omega
  .exact⟨e,D1⟩
 .obtain⟨rfl,m,y,u,q⟩:=a
  refine p9 (wpS_mono (u1T (I:=λ_ c b=>b=t/\c=(none,())) (Q:=λc b=>b=t/\c=(none,())) (λx c b _ _ a=>?_) (λ_ _ z=>z) ⟨rfl,rfl⟩) λc b a=>?_)
  .obtain⟨rfl,rfl⟩:=a
   refine p9 (wpS_get ?_)
   rw[t7 (by rw[u];exact t6 1)]
   exact u0s ⟨rfl,rfl⟩
  .obtain⟨rfl,rfl⟩:=a
   exact u0s (h _ m y q)
end
abbrev Pr:=Int × Int
def bltP (s t:Pr):Bool:=decide (s.1<t.1\/(s.1=t.1/\s.2<t.2))
def TP (h:Heap) (v:Value) (t:Pr):Prop:=∃ a o n b ty,v=.ref a/\h.get? a=some o/\o.cls=.type "tuple"/\o.data=.seq #[.int t.1 b,.int t.2 ty] n
def TP.uniq {t:Pr}(x:TP h v s)(y:TP h v t):s=t:=by
 obtain⟨a,o,n,m,ty,rfl,g,_,f⟩:=x
 obtain⟨b,i,l,k,j,e,d,_,c⟩:=y
 cases e
 rw[g]at d
 cases d
 rw[f]at c
 injection c with c _
 have:=u0x Array.toList c
 simp at this
 exact u2v this.1.1 this.2.1
def TP.keep {h c:Heap}{t:Pr}(x:TP h v t)(k:∀ b o,h.get? b=some o->c.get? b=some o):TP c v t:=by
 obtain⟨a,o,n,f,ty,e,d,r⟩:=x
 exact⟨a,o,n,f,ty,e,k _ _ d,r⟩
open Classical in
noncomputable def keyP (h:Heap)(v:Value):Option Pr:=if x:∃ t,TP h v t then some x.choose else none
@[reducible] noncomputable def kindP (h:Heap):KeyKind where
 α:=Pr
 blt:=bltP
 irrefl a:=by unfold bltP;exact t8 (by omega)
 trans a b c h1 h2:=by unfold bltP at *;rw[j9]at *;omega
 negTrans a b c h:=by unfold bltP at *;rw[j9]at *;rw[j9];omega
 total a b h1 h2:=by
  unfold bltP at *
  rw[g9]at *
  exact u2v (by omega) (by omega)
 keyOf:=keyP h
 dflt:=(0,0)
def zie (b:Bool)(x y:Value):keyLt' (tuples' b) x y=(do
 let xs<-Builtin.List.listItems x
 let ys<-Builtin.List.listItems y
 for ((p,q),i)in (xs.toList.zip ys.toList).zipIdx do
  if !(<- eqBool p q)then return<-oneLt' (b&&i == 0) p q
 return xs.size<ys.size):=rfl
def zg0 (v:Value):firstOfTuple' v=(do
 if (<- typeOf v) != .type "tuple" then return none
 return (<- Builtin.List.listItems v)[0]?):=rfl
section
variable {prog:zP}{w:World}{A:zR}{E:yU}{s:zn}
def lt0 {a b:Int}{t:Tok}{Q:Bool->Shared->Prop}(h:Q (decide (a<b)) s):wpAny (model prog w) A (oneLt' false (.int a t) (.int b u)) Q E s:=by
 rw[oneLt'_eq]
 rw[j6 u7]
 exact u5 (PyProof.Rows.lt_int (u0e h))
def zew:∀ {a:zB},(∀ f∈a,∃ i t,f=.int i t)->a.mapM typeOf=pure (a.map λ_=>Value.type "int")
 | [],_=>by simp
 | f::a,h=>by
  obtain⟨i,t,rfl⟩:=h f f8
  rw[List.mapM_cons,zew λg b=>h g (r4 _ b),show typeOf (.int i t)=pure (.type "int")from rfl]
  simp
end
end OwnSort
namespace OwnTim
open PySem PyProof.Rows
def ky (κ:KeyKind)(x:Keyed):κ.α:=(κ.keyOf x.1).getD κ.dflt
def LtE (a:zP)(w:World)(A:zR)(E:yU)(s:zn)(κ:KeyKind)(k:SortKind)(D:Keyed->Prop):Prop :=
 ∀ (b:SortSt) (x y:Keyed) (Q:Option Bool->SortSt->Prop),kindOf b=k->D x->D y->Q (some (κ.blt (ky κ x) (ky κ y))) b->wpS (model a w) A E s (lt' x y) Q b
section
variable {prog:zP}{w:World}{A:zR}{E:yU}{s:zn}{a₀:Array Keyed}{κ:KeyKind}{k:SortKind}{st:SortSt}
def zoz {i:Nat}(h:a[i]?=some x):KK κ a i=ky κ x:=by
 unfold KK
 rw[h]
 rfl
def znE (L:LtE prog w A E s κ k (·∈a₀.toList)):OwnSort.LtOk prog w A E s a₀ κ k:=by
 intro st i j Q S c f q
 have a:∀ {i},i<a₀.size->∃ x,(arrOf st)[i]?=some x/\x∈a₀.toList:=λ{i} c=>by
  have b:i<(arrOf st).size:=by rw[S.sz];exact c
  exact⟨(arrOf st)[i],getElem?_pos _ i b,(u2j.mp S.pm).mem_iff.mp (by simp)⟩
 obtain⟨x,e,g⟩:=a c
 obtain⟨y,d,h⟩:=a f
 rw[zoz e,zoz d]at q
 rw[ltAt'_eq]
 refine p9 (wpS_get ?_)
 show wpS _ _ _ _ (elem' (arrOf st) i>>=λx=>elem' (arrOf st) j>>=λy=>lt' x y) Q st
 rw[elem'_eq,elem'_eq,e,d]
 exact p9 (u0s (p9 (u0s (L _ _ _ _ S.kd g h q))))
def own_runsE {Q:Unit->SortSt->Prop}(L:LtE prog w A E s κ k (·∈a₀.toList))(b:(arrOf st).Perm a₀)(e:kindOf st=k)(c:failedOf st=none)(f:pendingOf st=#[])
 (h:∀ t,(arrOf t).Perm a₀->failedOf t=none->SortedToK κ (arrOf t) a₀.size->Q () t) (d:2<=a₀.size) (a:a₀.size<64):wpS (model prog w) A E s sortRuns' Q st:=OwnSort.own_runs (znE L) ⟨b,e,c,f⟩ d a h
end
end OwnTim
namespace OwnSortT
open PySem PyProof.Rows OwnSort
def lex_irr:∀ a:zC,HT.lexLt a a=false:=by
 intro a
 induction a with
 | nil=>rfl
 | cons x c b=>rw[HT.lexLt_cons,t7 rfl,b]
def lex_trans:∀ a b c:zC,HT.lexLt a b=true->HT.lexLt b c=true->HT.lexLt a c=true:=by
 intro a
 induction a with
 | nil =>
  intro b c e d
  cases c with
  | nil=>cases b <;> cases d
  | cons _ _=>rfl
 | cons x j h =>
  intro b c e d
  cases b with
  | nil=>cases e
  | cons y i=>cases c with
   | nil=>cases d
   | cons z zs =>
    rw[HT.lexLt_cons]at e d ⊢
    by_cases g:x=y
    .rw[t7 g]at e
     by_cases f:y=z
     .rw[t7 f]at d;rw[t7 (g.trans f)];exact h _ _ e d
     .rw[j6 f,j9]at d;rw[j6 (by omega),j9];omega
    .rw[j6 g,j9]at e
     by_cases f:y=z
     .rw[j6 (by omega),j9];omega
     .rw[j6 f,j9]at d;rw[j6 (by omega),j9];omega
def lex_total:∀ a b:zC,HT.lexLt a b=false->HT.lexLt b a=false->a=b:=by
 intro a
 induction a with
 | nil =>
  intro b c d
  cases b with
  | nil=>rfl
  | cons _ _=>cases c
 | cons x h f =>
  intro b c d
  cases b with
  | nil=>cases d
  | cons y g =>
   rw[HT.lexLt_cons]at c d
   by_cases e:x=y
   .rw[t7 e]at c;rw[t7 e.symm]at d;rw[e,f _ c d]
   .rw[j6 e,g9]at c;rw[j6 (i7 e),g9]at d;omega
def lex_neg (a b c:zC)(h:HT.lexLt a c=true):HT.lexLt a b=true\/HT.lexLt b c=true:=by
 cases e:HT.lexLt a b with
 | true=>exact .inl rfl
 | false =>
  refine .inr ?_
  cases d:HT.lexLt b a with
  | true=>exact lex_trans _ _ _ d h
  | false=>rw[<-lex_total _ _ e d];exact h
def TT (h:Heap) (v:Value) (t:zC):Prop:=∃ a o n b,v=.ref a/\h.get? a=some o/\o.cls=.type "tuple"/\o.data=.seq b.toArray n/\IntsAre b t/\t≠[]
def zh3:∀ {c:zB} {ns a:zC},IntsAre c ns->IntsAre c a->ns=a:=by
 intro c ns a h
 induction h generalizing a with
 | nil=>intro b;cases b;rfl
 | cons n t h d=>intro b;cases b with | cons f g e=>rw[d e]
def TT.uniq {t:zC}(x:TT h v s)(y:TT h v t):s=t:=by
 obtain⟨a,o,n,d,rfl,k,_,i,j,_⟩:=x
 obtain⟨b,p,m,c,e,f,_,g,l,_⟩:=y
 cases e
 rw[k]at f
 cases f
 rw[i]at g
 have q:d.toArray=c.toArray:=by injection g
 cases List.toArray_inj q
 exact zh3 j l
def TT.keep {h d:Heap}{t:zC}(x:TT h v t)(k:∀ b o,h.get? b=some o->d.get? b=some o):TT d v t:=by
 obtain⟨a,o,n,c,e,f,r⟩:=x
 exact⟨a,o,n,c,e,k _ _ f,r⟩
def TT.keepT {h f:Heap} {t:zC} (x:TT h v t) (k:∀ b o,o.cls=.type "tuple"->h.get? b=some o->f.get? b=some o):TT f v t:=by
 obtain⟨a,o,n,d,e,g,c,r⟩:=x
 exact⟨a,o,n,d,e,k _ _ c g,c,r⟩
open Classical in
noncomputable def keyTT (h:Heap)(v:Value):Option zC:=if x:∃ t,TT h v t then some x.choose else none
def keyTT_of {t:zC}(x:TT h v t):keyTT h v=some t:=by
 unfold keyTT
 have y:∃ t,TT h v t:=⟨t,x⟩
 rw[dif_pos y,y.choose_spec.uniq x]
@[reducible] noncomputable def zdU (h:Heap):KeyKind where
 α:=zC
 blt:=HT.lexLt
 irrefl:=lex_irr
 trans:=lex_trans
 negTrans:=lex_neg
 total:=lex_total
 keyOf:=keyTT h
 dflt:=[]
section
variable {prog:zP}{w:World}{A:zR}{E:yU}{s:zn}
def zn0 (d:Bool):zC->zC->Bool
 | x::xs,y::ys=>if x=y then zn0 d xs ys else decide (x<y)
 | _,_=>d
def zmZ:∀ a b:zC,zn0 (decide (a.length<b.length)) a b=HT.lexLt a b:=by
 intro a
 induction a with
 | nil=>intro b;cases b with
  | nil=>rfl
  | cons _ _=>rfl
 | cons x d e=>intro b;cases b with
  | nil=>rfl
  | cons y c =>
   rw[HT.lexLt_cons,<- e c]
   show(if x=y then zn0 (decide (d.length+1<c.length+1)) d c else decide (x<y))=_
   rw[show decide (d.length+1<c.length+1)=decide (d.length<c.length) by congr 1;apply propext;omega]
def zf7 (x:(Value × Value) × Nat)(_:Option Bool × Unit):Sem (ForInStep (Option Bool × Unit)):=do
 let b<-eqBool x.1.1 x.1.2
 if (!b)=true then do
  let c<-oneLt' (true&&x.2 == 0) x.1.1 x.1.2
  pure (ForInStep.done (some c,()))
 else pure (ForInStep.yield (none,()))
def zjK {d:Bool}:∀ {f:zB} {ns:zC} {b:zB} {a:zC} {k:Nat} {Q:Option Bool × Unit->Shared->Prop},IntsAre f ns->IntsAre b a->(∀ r:Option Bool × Unit,r.1.getD d=zn0 d ns a->Q r s) ->
 wpAny (model prog w) A (forIn ((f.zip b).zipIdx k) ((none,()):Option Bool × Unit) zf7) Q E s:=by
 intro f ns b a k Q h
 induction h generalizing b a k with
 | nil=>intro e q;exact t5 (q (none,()) rfl)
 | cons x t h i =>
  intro e q
  cases e with
  | nil=>exact t5 (q (none,()) rfl)
  | cons y u e =>
   rw[u2t,u2S,u1o]
   refine u5 (u5 (u2z x t y u prog w E _ ?_))
   by_cases c:x=y
   .rw[show(x == y)=true by rw[c];exact u0T _]
    refine t5 (i e λr j=>q r (j.trans ?_))
    show _=(if x=y then zn0 d _ _ else decide (x<y))
    rw[t7 c]
   .rw[show(x == y)=false by simpa using c]
    have g:Q (some (decide (x<y)),()) s:=q _ (by
     show decide (x<y)=(if x=y then zn0 d _ _ else decide (x<y))
     rw[j6 c])
    cases k with
    | zero=>exact u5 (oneLt_int (t5 (t5 g)))
    | succ k=>exact u5 (lt0 (t5 (t5 g)))
def zmh {Q:Bool->Shared->Prop}(l:TT s.heap x a)(j:TT s.heap y b)(h:Q (HT.lexLt a b) s):wpAny (model prog w) A (keyLt' (tuples' true) x y) Q E s:=by
 obtain⟨p,o,n,c,rfl,t,_,k,g,_⟩:=l
 obtain⟨q,D,F,f,rfl,B,_,C,i,_⟩:=j
 rw[zie]
 refine u5 (listItems_at t k (u5 (listItems_at B C ?_)))
 show wpAny _ _ (forIn ((c.zip f).zipIdx 0) ((none,()):Option Bool × Unit) zf7>>=_) _ _ _
 refine u5 (zjK (d:=decide (c.length<f.length)) g i λr z=>?_)
 have e:Q (r.1.getD (decide (c.length<f.length))) s:=by
  rw[z,g.length,i.length,zmZ];exact h
 obtain⟨m,u⟩:=r
 cases m with
 | none=>exact t5 e
 | some v=>exact t5 e
def zjy {d:zB}(j:∀ v∈d,∃ t,TT s.heap v t):OwnTim.LtE prog w A E s (zdU s.heap) (tuples' true) (·∈(pairsOf d).toList):=by
 intro o x y Q m i f h
 have c:∀ {x:Keyed},x∈(pairsOf d).toList->∃ t,TT s.heap x.1 t/\OwnTim.ky (zdU s.heap) x=t:=λ{x} hm=>by
  rw[pairsOf_toList]at hm
  obtain⟨t,e⟩:=j _ (mem_zip_self hm).2
  refine⟨t,e,?_⟩
  unfold OwnTim.ky
  show(keyTT s.heap x.1).getD _=t
  rw[keyTT_of e]
  rfl
 obtain⟨a,k,l⟩:=c i
 obtain⟨b,n,g⟩:=c f
 rw[l,g]at h
 rw[lt'_eq]
 refine p9 (wpS_get ?_)
 rw[m]
 exact p9 (wpS_lift (u0Q (zmh k n ⟨rfl,u0s h⟩)))
def VR:∀ {g:zB} {Q:List (Option Value)->Shared->Prop},(∀ v∈g,∃ t,TT s.heap v t)->(∀ c:zB,c.length=g.length->(∀ f∈c,∃ i t,f=.int i t)->Q (c.map some) s)->wpAny (model prog w) A (g.mapM firstOfTuple') Q E s
 | [],Q,_,h=>by rw[List.mapM_nil];exact t5 (h [] rfl (by simp))
 | v::g,Q,hT,h=>by
  obtain⟨t,a,o,n,k,rfl,l,q,p,m,j⟩:=hT v f8
  obtain⟨z,zs,d,e,rfl,rfl⟩:∃ z zs d e,k=z::zs/\z=.int d e:=by
   cases m with
   | nil=>exact absurd rfl j
   | cons d e m=>exact⟨_,_,_,_,rfl,rfl⟩
  rw[List.mapM_cons,zg0]
  refine u5 (u5 (u1S (T:="tuple") ⟨o,l,q⟩ ?_))
  rw[j6 (by simp)]
  refine u5 (listItems_at l p (t5 (u5 (VR (λu y=>hT u (r4 _ y)) λc r x=>t5 ?_))))
  exact h (.int d e::c) (by simp[r]) λf b=>by
   rcases q7.mp b with rfl | b
   .exact⟨_,_,rfl⟩
   .exact x f b
def zha {Q:SortKind->Shared->Prop}(g:∀ v∈b::c,∃ t,TT s.heap v t)(h:Q (tuples' true) s):wpAny (model prog w) A (keyKind' (b::c).toArray) Q E s:=by
 rw[keyKind'_eq,List.mapM_toArray,<- bind_pure_comp,bind_assoc]
 refine u5 (VR g λa i j=>u5 (t5 ?_))
 cases a with
 | nil=>simp at i
 | cons f a =>
  rw[t7 (by simp)]
  have d:((f::a).map some).toArray.filterMap id=(f::a).toArray:=by simp
  refine u5 (u1K ?_)
  rw[d,oneTypeOnly'_eq,List.mapM_toArray,zew j]
  simp only[map_pure,pure_bind]
  rw[show(List.map (λ_=>Value.type "int") (f::a)).toArray[0]?=some (Value.type "int") by simp]
  have e:((List.map (λ_=>Value.type "int") (f::a)).toArray.all λx=>x == Value.type "int")=true:=by
   simp only[List.all_toArray,u1N,p4]
   intro _ _
   rfl
  simp only[e,u1X,pure_bind,Option.any_some]
  rw[show(Value.type "int" != Value.type "tuple")=true by decide +kernel]
  exact t5 h
end
def Rise (h:Heap)(c:zB):Prop:=∃ d:ZI,c.length=d.length/\(∀ (i:Nat) (v:Value) (t:zC),c[i]?=some v->d[i]?=some t->TT h v t)/\d.Pairwise λa b=>HT.lexLt b a=false
def za0 {xs:Array Keyed}(w:∀ v∈a,∃ t,TT h v t)(y:∀ v t,TT h v t->TT c v t)(l:xs.Perm (pairsOf a))(o:SortedToK (zdU c) xs (pairsOf a).size):(xs.map (·.2)).toList.Perm a/\Rise h (xs.map (·.2)).toList:=by
 have m:xs.toList.Perm (a.zip a):=by rw[<-pairsOf_toList];exact u2j.mp l
 have q:∀ p∈xs.toList,p.1=p.2/\p.1∈a:=λp z=>mem_zip_self (m.mem_iff.mp z)
 have x:(xs.map (·.2)).toList=xs.toList.map (·.2):=by simp
 rw[x]
 refine⟨?_,xs.toList.map λp=>(keyTT c p.1).getD ([]:zC),by simp,λi v t e b=>?_,?_⟩
 .have:=m.map (·.2)
  rwa[show(a.zip a).map (·.2)=a from List.map_snd_zip (t6 _)]at this
 .rw[k9]at e b
  cases g:xs.toList[i]? with
  | none=>rw[g]at e;cases e
  | some p =>
   rw[g]at e b
   cases e
   cases b
   obtain⟨u,r⟩:=q p (o8 g)
   obtain⟨t,b⟩:=w _ r
   show TT h p.2 ((keyTT c p.1).getD ([]:zC))
   rw[keyTT_of (y _ _ b),<- u]
   exact b
 .rw[List.pairwise_iff_getElem]
  intro i j s n f
  have k:i<xs.size:=by simpa using s
  have d:j<xs.size:=by simpa using n
  have:=o i j (i4 f) (by rw[<-l.size_eq];exact d)
  unfold KK at this
  rw[getElem?_pos xs i k,getElem?_pos xs j d]at this
  have this:HT.lexLt ((keyTT c xs[j].1).getD ([]:zC)) ((keyTT c xs[i].1).getD ([]:zC))=false:=this
  simpa using this
section
variable {prog:zP}{w:World}{A:zR}{E:yU}{s:zn}
def ownT_list_sort {d:zB} {P:Fin->Shared->Prop} (m:s.heap.get? a=some (seqObj "list" d.toArray n)) (y:∀ v∈d,∃ t,TT s.heap v t) (D:d.length<64) (h:∀ f:wq,f.toList.Perm d->Rise s.heap f.toList->P (.done (.ret .none)) { s with heap:=sortedHeap s.heap a d f }):wpAny (model prog w) A (Builtin.«list.sort» ⟨[.ref a],[]⟩) P E s:=by
 have L:a<s.heap.objs.size:=q4 m
 have M:d.toArray.size=d.length:=t9
 obtain⟨g,H⟩:∃ g,(s.heap.update a (Obj.mapSeq λ_=>#[])).get? a=some (seqObj "list" #[] g):=⟨_,get?_update_seq m (λ_=>#[])⟩
 have u:(((s.heap.update a (Obj.mapSeq λ_=>#[])).push (seqObj "tuple" d.toArray 0)).push (seqObj "list" #[] 0)).get? a=some (seqObj "list" #[] g):=u6 _ (u6 _ H)
 have G:∀ b o,o.cls=.type "tuple"->s.heap.get? b=some o->(((s.heap.update a (Obj.mapSeq λ_=>#[])).push (seqObj "tuple" d.toArray 0)).push (seqObj "list" #[] 0)).get? b=some o:=λb o c e=>by
  refine u6 _ (u6 _ ((h9 _ _ λz=>?_).trans e))
  subst z
  rw[m]at e
  cases e
  exact absurd (show Value.type "list"=Value.type "tuple" from c) (by decide +kernel)
 have p:∀ v∈d,∃ t,TT (((s.heap.update a (Obj.mapSeq λ_=>#[])).push (seqObj "tuple" d.toArray 0)).push (seqObj "list" #[] 0)) v t:=λv K=>let ⟨t,l⟩:=y v K;⟨t,l.keepT G⟩
 rw[list_sort_plain]
 refine u5 (listItems_at m rfl (u5 (listUpdate_at m rfl (u5 (seqEpoch_at H rfl (u5 (wpAny_newTuple (u5 (wpAny_newList (l8 ?_))))))))))
 show wpAny (model prog w) A _ P E { s with heap:=((s.heap.update a (Obj.mapSeq λ_=>#[])).push (seqObj "tuple" d.toArray 0)).push (seqObj "list" #[] 0) }
 by_cases k:d.toArray.size<2
 .rw[t7 k,t7 k]
  refine u5 (t5 ?_)
  dsimp only
  rw[StateT.run_pure]
  refine u5 (t5 ?_)
  obtain⟨F,x⟩:=za0 (xs:=pairsOf d) y (λv t l=>l) (Array.Perm.refl _) (λi j J I=>by
   obtain rfl:i=j:=by rw[u2C]at I;omega
   exact u0A _)
  refine u5 (seqEpoch_at u rfl (u5 (listUpdate_at u rfl ?_ (hsz2:=by rw[Array.size_map];show(pairsOf d).size<=_;rw[u2C,u0I];omega))))
  rw[show(g != g)=false by simp]
  exact t5 (h _ F x)
 .rw[j6 k,j6 k]
  cases d with
  | nil=>simp at k
  | cons r rest =>
   refine u5 (zha p ?_)
   refine u5 (g6 (OwnTim.own_runsE (st:=SortSt.mk' (tuples' true) ((r::rest).toArray.zip (r::rest).toArray) #[] 7 none) (Q:=λ_ t=>(arrOf t).Perm (pairsOf (r::rest))/\failedOf t=none/\SortedToK (zdU _) (arrOf t) (pairsOf (r::rest)).size)
    (zjy p) (Array.Perm.refl _) rfl rfl rfl (λt q B C=>⟨q,B,C⟩) (by rw[u2C];rw[t9]at k;omega) (by rw[u2C];exact D)) ?_ λ_ _ e=>e)
   rintro⟨⟨⟩,t⟩ N ⟨rfl,q,B,C⟩
   obtain⟨F,x⟩:=za0 y (λv t l=>l.keepT G) q C
   refine u5 (seqEpoch_at u rfl (u5 (listUpdate_at u rfl ?_ (hsz2:=by rw[Array.size_map];show(arrOf t).size<=_;rw[q.size_eq,u2C,u0I];omega))))
   rw[B,show(g != g)=false by simp]
   exact t5 (h _ F x)
end
end OwnSortT
namespace OwnSort
open PySem PyProof.Rows
def Rise (h:Heap)(c:zB):Prop:=∃ d:List Pr,c.length=d.length/\(∀ (i:Nat) (v:Value) (t:Pr),c[i]?=some v->d[i]?=some t->TP h v t)/\d.Pairwise λa b=>bltP b a=false
def TP.tt {t:Pr}(x:TP h v t):OwnSortT.TT h v [t.1,t.2]:=by
 obtain⟨a,o,n,e,ty,f,b,d,c⟩:=x
 exact⟨a,o,n,[.int t.1 e,.int t.2 ty],f,b,d,c,.cons _ _ (.cons _ _ .nil),List.cons_ne_nil _ _⟩
end OwnSort
namespace Dl
open PySem L2
class KK where
 K:W.Frag
 dk:Addr
inductive D where
 | non | bl (b:Bool) | int (i:Int) | str (x:Str) | tup (ds:List D) | lst (ds:List D) | scr (ns:zC)
  | dct (z t:Bool) (ks:List (List Key)) (vs:List D)
  | obj (w h:D) (ps:List D)
 deriving Inhabited
abbrev zjX:=List D->Option (List D)
abbrev wm:=List D->Option D
abbrev ziQ:=List D->Option Nat
abbrev xz:=D->D->Option D
abbrev zbB:=D->Option (List (Option D))
abbrev zm:=List D
def Wc (b a:V) (q:Addr):List (Str × V):=[("web",b),("heap",a),("past",.ref q)]
section
variable [KK]
def zdj (o:HO)(t:Bool)(b:List (List Key))(c:zx):Prop :=
 if t=true then ∃ a,o=.dT a/\a.map (·.1)=b/\a.map (·.2)=c else ∃ a:List (Key × V),o=.dK a/\a.map (λp=>[p.1])=b/\a.map (·.2)=c
def zac (H:Hp)(a:Addr)(z t:Bool)(b:List (List Key))(d:zx):Prop :=
 ∃ u,zdj u t b d/\if z=true then ∃ c,H a=some (.frz c u)else H a=some u
def zac.mono {t:Bool}{d:zx}(s:zX H H')(h:zac H a z t c d):zac H' a z t c d:=by
 obtain⟨u,e,b⟩:=h
 refine⟨u,e,?_⟩
 cases z with
 | true =>
  rw[t7 rfl]at b ⊢
  obtain⟨f,b⟩:=b
  exact⟨f,s _ _ b⟩
 | false =>
  rw[j6 u7]at b ⊢
  exact s _ _ b
def zac.rd {t:Bool}{d:zx}(h:zac H a z t c d):∃ u,zdj u t c d/\Rd H a u:=by
 obtain⟨u,e,b⟩:=h
 refine⟨u,e,?_⟩
 cases z with
 | true =>
  rw[t7 rfl]at b
  obtain⟨f,b⟩:=b
  exact .inr ⟨f,b⟩
 | false =>
  rw[j6 u7]at b
  exact .inl b
mutual
def At (H:Hp):D->V->Prop
 | .non,v=>v=.non
 | .bl b,v=>v=.bl b
 | .int i,v=>v=.int i
 | .str x,v=>v=.str x
 | .tup ds,v=>∃ a c,v=.ref a/\H a=some (.tup c)/\AtL H ds c
 | .lst ds,v=>∃ a c,v=.ref a/\H a=some (.lst c)/\AtL H ds c
 | .scr ns,v=>∃ a,v=.ref a/\SqL KK.K H a (ns.map V.int)
 | .dct z t ks vs,v=>∃ a c,v=.ref a/\zac H a z t ks c/\AtL H vs c
 | .obj w h ps,v=>∃ p f q e d c,v=.ref p/\H p=some (.ins KK.dk f (Wc e d q))/\H q=some (.lst c)/\At H w e/\At H h d/\AtL H ps c
def AtL (H:Hp):zm->zx->Prop
 | [],xs=>xs=[]
 | d::ds,xs=>∃ x r,xs=x::r/\At H d x/\AtL H ds r
end
mutual
def At.mono (s:zX H H'):∀ {d:D} {v:V},At H d v->At H' d v
 | .non,_,h=>by unfold At at h ⊢;exact h
 | .bl _,_,h=>by unfold At at h ⊢;exact h
 | .int _,_,h=>by unfold At at h ⊢;exact h
 | .str _,_,h=>by unfold At at h ⊢;exact h
 | .tup ds,_,h=>by
  unfold At at h ⊢
  obtain⟨a,f,e,b,c⟩:=h
  exact⟨a,f,e,s _ _ b,AtL.mono s c⟩
 | .lst ds,_,h=>by
  unfold At at h ⊢
  obtain⟨a,f,e,b,c⟩:=h
  exact⟨a,f,e,s _ _ b,AtL.mono s c⟩
 | .scr ns,_,h=>by
  unfold At at h ⊢
  obtain⟨a,e,b⟩:=h
  exact⟨a,e,s.seq b⟩
 | .dct z t ks vs,_,h=>by
  unfold At at h ⊢
  obtain⟨a,f,e,b,c⟩:=h
  exact⟨a,f,e,b.mono s,AtL.mono s c⟩
 | .obj w d ps,_,h=>by
  unfold At at h ⊢
  obtain⟨p,i,q,k,g,f,e,b,m,l,j,c⟩:=h
  exact⟨p,i,q,k,g,f,e,s _ _ b,s _ _ m,At.mono s l,At.mono s j,AtL.mono s c⟩
def AtL.mono (s:zX H H'):∀ {a:zm} {b:zx},AtL H a b->AtL H' a b
 | [],_,h=>by unfold AtL at h ⊢;exact h
 | d::a,_,h=>by
  unfold AtL at h ⊢
  obtain⟨x,r,e,c,f⟩:=h
  exact⟨x,r,e,At.mono s c,AtL.mono s f⟩
end
mutual
def noL:D->Bool
 | .tup ds=>zep ds
 | .lst _=>false
 | .scr _=>false
 | .dct _ _ _ _=>false
 | .obj _ _ _=>false
 | _=>true
def zep:zm->Bool
 | []=>true
 | d::ds=>noL d&&zep ds
end
mutual
def At.flat {G F:Hp}(h:∀ q b,G q=some (.tup b)->F q=some (.tup b)):∀ {d:D} {v:V},noL d=true->At G d v->At F d v
 | .non,_,_,a=>by unfold At at a ⊢;exact a
 | .bl _,_,_,a=>by unfold At at a ⊢;exact a
 | .int _,_,_,a=>by unfold At at a ⊢;exact a
 | .str _,_,_,a=>by unfold At at a ⊢;exact a
 | .tup ds,_,n,a=>by
  unfold At at a ⊢
  unfold noL at n
  obtain⟨p,b,e,c,f⟩:=a
  exact⟨p,b,e,h _ _ c,AtL.flat h n f⟩
 | .lst ds,_,n,_=>by unfold noL at n;cases n
 | .scr ds,_,n,_=>by unfold noL at n;cases n
 | .dct _ _ _ _,_,n,_=>by unfold noL at n;cases n
 | .obj _ _ _,_,n,_=>by unfold noL at n;cases n
def AtL.flat {G F:Hp}(h:∀ q b,G q=some (.tup b)->F q=some (.tup b)):∀ {c:zm} {b:zx},zep c=true->AtL G c b->AtL F c b
 | [],_,_,a=>by unfold AtL at a ⊢;exact a
 | d::c,_,n,a=>by
  unfold AtL at a ⊢
  unfold zep at n
  rw[j0]at n
  obtain⟨x,r,e,f,g⟩:=a
  exact⟨x,r,e,At.flat h n.1 f,AtL.flat h n.2 g⟩
end
section
variable {H H':Hp}{d:D}{ds es:zm}{v x:V}{xs ys:zx}
def At.int:At H (.int i) (.int i):=by unfold At;rfl
def At.bl:At H (.bl b) (.bl b):=by unfold At;rfl
def At.non:At H .non .non:=by unfold At;rfl
def At.str:At H (.str y) (.str y):=by unfold At;rfl
def At.tup {a:Addr}(h:H a=some (.tup xs))(b:AtL H ds xs):At H (.tup ds) (.ref a):=by unfold At;exact⟨a,xs,rfl,h,b⟩
def At.lst {a:Addr}(h:H a=some (.lst xs))(b:AtL H ds xs):At H (.lst ds) (.ref a):=by unfold At;exact⟨a,xs,rfl,h,b⟩
def AtL.nil:AtL H [] []:=by unfold AtL;rfl
def AtL.cons (h:At H d x)(a:AtL H ds xs):AtL H (d::ds) (x::xs):=by unfold AtL;exact⟨x,xs,rfl,h,a⟩
def At.int_inv (h:At H (.int i) v):v=.int i:=by unfold At at h;exact h
def At.bl_inv (h:At H (.bl b) v):v=.bl b:=by unfold At at h;exact h
def At.non_inv (h:At H .non v):v=.non:=by unfold At at h;exact h
def At.str_inv (h:At H (.str y) v):v=.str y:=by unfold At at h;exact h
def At.tup_inv (h:At H (.tup ds) v):∃ a xs,v=.ref a/\H a=some (.tup xs)/\AtL H ds xs:=by unfold At at h;exact h
def At.lst_inv (h:At H (.lst ds) v):∃ a xs,v=.ref a/\H a=some (.lst xs)/\AtL H ds xs:=by unfold At at h;exact h
def At.scr_inv {ns:zC}(h:At H (.scr ns) v):∃ a,v=.ref a/\SqL KK.K H a (ns.map V.int):=by unfold At at h;exact h
def At.dct_inv {t:Bool}(h:At H (.dct z t b c) v):∃ a xs,v=.ref a/\zac H a z t b xs/\AtL H c xs:=by unfold At at h;exact h
def At.obj_inv {w d:D}(h:At H (.obj w d b) v):∃ p e q c a xs,v=.ref p/\H p=some (.ins KK.dk e (Wc c a q))/\H q=some (.lst xs)/\At H w c/\At H d a/\AtL H b xs:=by unfold At at h;exact h
def AtL.nil_inv (h:AtL H [] xs):xs=[]:=by unfold AtL at h;exact h
def AtL.cons_inv (h:AtL H (d::ds) xs):∃ x r,xs=x::r/\At H d x/\AtL H ds r:=by unfold AtL at h;exact h
def AtL.length:∀ {ds:zm} {xs:zx},AtL H ds xs->xs.length=ds.length
 | [],_,h=>by rw[h.nil_inv];rfl
 | _::_,_,h=>by
  obtain⟨x,r,rfl,_,a⟩:=h.cons_inv
  rw[k7,k7,AtL.length a]
def AtL.get:∀ {ds:zm} {xs:zx} {i:Nat} {d:D},AtL H ds xs->ds[i]?=some d->∃ x,xs[i]?=some x/\At H d x
 | [],_,_,_,_,e=>by simp at e
 | _::_,_,i,_,h,e=>by
  obtain⟨x,r,rfl,a,c⟩:=h.cons_inv
  cases i with
  | zero =>
   simp at e
   subst e
   exact⟨x,rfl,a⟩
  | succ i =>
   obtain⟨y,f,b⟩:=AtL.get (i:=i) c (by simpa using e)
   exact⟨y,by simpa using f,b⟩
def AtL.append:∀ {ds es:zm} {xs ys:zx},AtL H ds xs->AtL H es ys->AtL H (ds++es) (xs++ys)
 | [],_,_,_,h,k=>by rw[h.nil_inv];exact k
 | _::_,_,_,_,h,k=>by
  obtain⟨x,r,rfl,a,b⟩:=h.cons_inv
  exact .cons a (AtL.append b k)
def AtL.snoc (h:AtL H ds xs)(k:At H d v):AtL H (ds++[d]) (xs++[v]):=h.append (.cons k .nil)
def AtL.take:∀ (n:Nat) {ds:zm} {xs:zx},AtL H ds xs->AtL H (ds.take n) (xs.take n)
 | 0,_,_,_=>by simpa using AtL.nil
 | n+1,[],_,h=>by rw[h.nil_inv];simpa using AtL.nil
 | n+1,_::_,_,h=>by
  obtain⟨x,r,rfl,a,b⟩:=h.cons_inv
  rw[List.take_succ_cons,List.take_succ_cons]
  exact .cons a (AtL.take n b)
def AtL.drop:∀ (n:Nat) {ds:zm} {xs:zx},AtL H ds xs->AtL H (ds.drop n) (xs.drop n)
 | 0,_,_,h=>h
 | n+1,[],_,h=>by rw[h.nil_inv];simpa using AtL.nil
 | n+1,_::_,_,h=>by
  obtain⟨x,r,rfl,b,a⟩:=h.cons_inv
  rw[u2a,u2a]
  exact AtL.drop n a
def AtL.set:∀ (n:Nat) {ds:zm} {xs:zx},AtL H ds xs->At H d v->AtL H (ds.set n d) (xs.set n v)
 | _,[],_,h,_=>by rw[h.nil_inv];simpa using AtL.nil
 | 0,_::_,_,h,k=>by
  obtain⟨x,r,rfl,b,a⟩:=h.cons_inv
  exact .cons k a
 | n+1,_::_,_,h,k=>by
  obtain⟨x,r,rfl,b,a⟩:=h.cons_inv
  exact .cons b (AtL.set n a k)
def AtL.rep (h:AtL H ds xs):∀ k:Nat,AtL H (List.replicate k ds).flatten (List.replicate k xs).flatten
 | 0=>.nil
 | k+1=>by
  rw[u0p,u0p,u0L,u0L]
  exact h.append (AtL.rep h k)
def AtL.ints (ns:zC):AtL H (ns.map D.int) (ns.map V.int):=by
 induction ns with
 | nil=>exact .nil
 | cons n r a=>exact .cons .int a
def AtL.of_ints:∀ {ns:zC} {xs:zx},AtL H (ns.map D.int) xs->xs=ns.map V.int
 | [],_,h=>h.nil_inv
 | n::r,_,h=>by
  obtain⟨x,c,rfl,b,a⟩:=AtL.cons_inv (by simpa using h)
  rw[b.int_inv,AtL.of_ints a]
  rfl
end
def tyN:D->String
 | .non=>"NoneType" | .bl _=>"bool" | .int _=>"int" | .str _=>"str" | .tup _=>"tuple" | .lst _=>"list" | .scr _=>"list" | .dct _ _ _ _=>"dict" | .obj _ _ _=>"object"
def Hid (F':Hp)(p:Addr)(o:HO):Prop:=F' p=none\/((∃ a,o=.tup a)/\F' p=some o)
def Keep (F H F' H':Hp):Prop:=∀ p o,F p=none->H p=some o->Hid F' p o/\H' p=some o
structure Gr (F H F' H':Hp):Prop where
 ff:zX F F'
 fh:zX F' H'
 kp:Keep F H F' H'
def Gr.refl (s:zX F H):Gr F H F H:=⟨zX.refl _,s,λ_ _ a b=>⟨.inl a,b⟩⟩
def Gr.trans (a:Gr F H F1 H1)(b:Gr F1 H1 F2 H2):Gr F H F2 H2 :=
 ⟨a.ff.trans b.ff,b.fh,λp o f e=>by
  obtain⟨x,y⟩:=a.kp p o f e
  rcases x with x | ⟨d,c⟩
  .exact b.kp p o x y
  .exact⟨.inr ⟨d,b.ff _ _ c⟩,b.fh _ _ (b.ff _ _ c)⟩⟩
def Gr.kl {F H F' H':Hp}{p:Addr}(g:Gr F H F' H')(n:∀ a,o≠.tup a)(d:F p=none)(c:H p=some o):F' p=none/\H' p=some o:=by
 obtain⟨x,y⟩:=g.kp p o d c
 rcases x with x | ⟨⟨a,b⟩,_⟩
 .exact⟨x,y⟩
 .exact absurd b (n a)
def Gr.alloc {H:Hp}{p:Addr}(s:zX F H)(h:H p=none)(o:HO):Gr F H (upd F p o) (upd H p o):=by
 have a:F p=none:=s.free h
 refine⟨λb u q=>?_,λb u q=>?_,λb u q r=>?_⟩
 .rw[zi (ze q a)];exact q
 .by_cases e:b=p
  .subst e;rw[zl]at q ⊢;exact q
  .rw[zi e]at q ⊢;exact s b u q
 .have e:b≠p:=ze r h
  rw[zi e];exact⟨.inl (by rw[zi e];exact q),r⟩
def Gr.hide {H:Hp}{p:Addr}(s:zX F H)(h:H p=none)(o:HO):Gr F H F (upd H p o):=by
 refine⟨zX.refl _,λb u q=>?_,λb u q r=>?_⟩
 .rw[zi (ze (s b u q) h)];exact s b u q
 .have e:b≠p:=ze r h
  rw[zi e];exact⟨.inl q,r⟩
def Gr.show {F H:Hp}{p:Addr}{H0:Hp}(g:Gr F0 H0 F H)(h0:H0 p=none)(a:F p=none)(h:H p=some o):Gr F0 H0 (upd F p o) H:=by
 refine⟨λb u q=>?_,λb u q=>?_,λb u q r=>?_⟩
 .have:=g.ff b u q
  rw[zi (ze this a)];exact this
 .by_cases e:b=p
  .subst e;rw[zl]at q;rw[<-q];exact h
  .rw[zi e]at q;exact g.fh b u q
 .have e:b≠p:=ze r h0
  obtain⟨x,y⟩:=g.kp b u q r
  refine⟨?_,y⟩
  unfold Hid
  rw[zi e]
  exact x
abbrev Ev:=List (Option D)
abbrev yx:=Ev->Option (List D)
abbrev vr:=Ev->Option Bool
abbrev zaV:=Ev->Option Nat
abbrev zU:=Ev->Option D
def VAt (F:Hp)(ρ:Ev)(σ:St):Prop:=∀ (i:Nat) (d:D),ρ[i]?=some (some d)->∃ v,σ[i]?=some (some v)/\At F d v
def VAt.mono (h:VAt F ρ σ)(s:zX F F'):VAt F' ρ σ:=λi d e=>let ⟨v,e1,a⟩:=h i d e;⟨v,e1,a.mono s⟩
def RE (t:TE)(f:zU):Prop :=
 ∀ (σ:St) (ρ:Ev) (F H:Hp) (d:D) (Q:VK),zX F H->VAt F ρ σ->f ρ=some d->(∀ F' H' v,Gr F H F' H'->At F' d v->Q v H')->t σ H Q
def RT (t:TT)(f:vr):Prop :=
 ∀ (σ:St) (ρ:Ev) (F H:Hp) (b:Bool) (Q:Bool->Hp->Prop),zX F H->VAt F ρ σ->f ρ=some b->(∀ F' H',Gr F H F' H'->Q b H')->t σ H Q
def RA (t:TA)(f:yx):Prop :=
 ∀ (σ:St) (ρ:Ev) (F H:Hp) (a:zm) (Q:zx->Hp->Prop),zX F H->VAt F ρ σ->f ρ=some a->(∀ F' H' b,Gr F H F' H'->AtL F' a b->Q b H')->t σ H Q
def RF (t:TE)(f:yx):Prop :=
 ∀ (σ:St) (ρ:Ev) (F H:Hp) (a:zm) (Q:VK),zX F H->VAt F ρ σ->f ρ=some a->(∀ F' H' p b,Gr F H F' H'->H p=none->F' p=none->H' p=some (.lst b)->AtL F' a b->Q (.ref p) H')->t σ H Q
def ED (X:Cx)(e:Expr)(f:zU):Prop:=∃ t,PE X e t/\RE t f
def TD (X:Cx)(e:Expr)(f:vr):Prop:=∃ t,PT X e t/\RT t f
def WD (X:Cx)(e:Expr)(f:vr):Prop:=∃ t,PW X e t/\RT t f
def AD (X:Cx)(a:y9)(f:yx):Prop:=∃ t,PA X a t/\RA t f
def FL (X:Cx)(e:Expr)(f:yx):Prop:=∃ t,PE X e t/\RF t f
section
variable {X:Cx}{a b c:Expr}{pos:Pos}
def xq (f:yx):zU:=fun ρ=>(f ρ).map .lst
def YW {f:yx}(h:FL X a f):ED X a (xq f):=by
 obtain⟨t,i,r⟩:=h
 refine⟨t,i,fun σ ρ F H d Q s o e q=>?_⟩
 obtain⟨n,l,rfl⟩:=t4.mp e
 refine r σ ρ F H n Q s o l λF' H' p v g h0 c j k=>?_
 have m:=g.show h0 c j
 exact q _ _ _ m (At.lst zl (k.mono (λb u e=>by rw[zi (ze e c)];exact e)))
def zc (i:Nat):zU:=fun ρ=>(ρ[i]?).getD none
def zoT (i:Nat)(h:PE X a (Y2 i)):ED X a (zc i):=by
 refine⟨_,h,fun σ ρ F H d Q s b e q=>?_⟩
 have f:ρ[i]?=some (some d):=by
  unfold zc at e
  cases h:ρ[i]? with
  | none=>rw[h]at e;cases e
  | some x=>rw[h]at e;cases x with
   | none=>cases e
   | some y=>cases e;rfl
 obtain⟨v,g,c⟩:=b i d f
 exact⟨v,g,q _ _ _ (.refl s) c⟩
def eC (d:D):zU:=λ_=>some d
def zt (h:PE X a (tC (.int i))):ED X a (eC (.int i)):=⟨_,h,λ_ _ _ _ _ _ s _ e q=>by cases e;exact q _ _ _ (.refl s) .int⟩
def zfa (h:PE X a (tC (.bl i))):ED X a (eC (.bl i)):=⟨_,h,λ_ _ _ _ _ _ s _ e q=>by cases e;exact q _ _ _ (.refl s) .bl⟩
def zQ (h:PE X a (tC (.str i))):ED X a (eC (.str i)):=⟨_,h,λ_ _ _ _ _ _ s _ e q=>by cases e;exact q _ _ _ (.refl s) .str⟩
def VT (h:PE X a (tC .non)):ED X a (eC .non):=⟨_,h,λ_ _ _ _ _ _ s _ e q=>by cases e;exact q _ _ _ (.refl s) .non⟩
def OpD (r:R2)(g:xz):Prop :=
 ∀ (F H:Hp) (x y:V) (d e z:D) (Q:VK),zX F H->At F d x->At F e y->g d e=some z->(∀ F' H' v,Gr F H F' H'->At F' z v->Q v H')->r x y H Q
def zh (g:xz)(f h:zU):zU:=fun ρ=>(f ρ).bind λx=>(h ρ).bind λy=>g x y
def zfD {g:xz}{c:TE}{f:zU}(k:OpD r g)(m:RE c f)(A:RE i h):RE (tOp r c i) (zh g f h):=by
 intro σ ρ F H z Q s d e q
 obtain⟨x,l,e⟩:=u4.mp e
 obtain⟨y,p,e⟩:=u4.mp e
 refine m σ ρ F H x _ s d l λF1 H1 v b o=>?_
 refine A σ ρ F1 H1 y _ b.fh (d.mono b.ff) p λF2 H2 u a n=>?_
 exact k F2 H2 v u x y z Q a.fh (o.mono a.ff) n e λF3 H3 w j t=>q F3 H3 w ((b.trans a).trans j) t
def Vy {c:Operator}{g:xz}{f:zU}(i:OpR X (binaryOp c) r)(j:OpD r g)(d:ED X a f)(e:ED X b h):ED X (.BinOp a c b pos) (zh g f h) :=
 let ⟨_,pa,ra⟩:=d
 let ⟨_,pb,rb⟩:=e
 ⟨_,zgr i pa pb,zfD j ra rb⟩
def Y0 {c:CmpOp}{g:xz}{f:zU}(j:OpR X (compareOp c) r)(k:OpD r g)(d:behindInMarks c b=false)(e:ED X a f)(i:ED X b h):ED X (.Compare a [c] [b] pos) (zh g f h) :=
 let ⟨_,pa,ra⟩:=e
 let ⟨_,pb,rb⟩:=i
 ⟨_,zgD j pa pb d,zfD k ra rb⟩
def asB:D->Option Bool
 | .bl b=>some b
 | _=>none
def X6 {d:D}{b:Bool}(h:asB d=some b):d=.bl b:=by
 cases d <;> first | (cases h;rfl) | cases h
def tOf (f:zU):vr:=fun ρ=>(f ρ).bind asB
def zkt {t:TE}{f:zU}(r:RE t f):RT (zeP t) (tOf f):=by
 intro σ ρ F H b Q s a e q
 obtain⟨x,g,e⟩:=u4.mp e
 cases X6 e
 exact r σ ρ F H _ _ s a g λF1 H1 v d c=>⟨b,c.bl_inv,q F1 H1 d⟩
def zS {c:CmpOp}{g:xz}{f:zU}(j:OpR X (compareOp c) r)(k:OpD r g)(d:behindInMarks c b=false)(e:ED X a f)(i:ED X b h):TD X (.Compare a [c] [b] pos) (tOf (zh g f h)) :=
 let ⟨_,pa,ra⟩:=e
 let ⟨_,pb,rb⟩:=i
 ⟨_,zaB j pa pb d,zkt (zfD k ra rb)⟩
def wD {f:zU}(d:ED X a f)(c:∀ b,isTrue a X.env b=(do let v<-b;standAt a.pos;holding [v] (truthy v)):=by intro _;rfl):TD X a (tOf f) :=
 let ⟨_,pa,ra⟩:=d
 ⟨_,zk5 pa c,zkt ra⟩
def YA (f g:vr):vr:=fun ρ=>(f ρ).bind λc=>if c=true then g ρ else some false
def X8 (f g:vr):vr:=fun ρ=>(f ρ).bind λc=>if c=true then some true else g ρ
def yn (f:vr):vr:=fun ρ=>(f ρ).map (!·)
def zhe {f:vr}(b:TD X a f):WD X (.BoolOp .And [a] pos) f:=let ⟨_,pa,ra⟩:=b;⟨_,zm8 pa,ra⟩
def zdS {f:vr}(b:TD X a f):WD X (.BoolOp .Or [a] pos) f:=let ⟨_,pa,ra⟩:=b;⟨_,zk7 pa,ra⟩
def zlf {rest:y9}{f g:vr}(k:TD X a f)(l:WD X (.BoolOp .And (b::rest) pos) g):WD X (.BoolOp .And (a::b::rest) pos) (YA f g):=by
 obtain⟨p,h,o⟩:=k
 obtain⟨r,i,m⟩:=l
 refine⟨_,zpg h i,fun σ ρ F H z Q s d e q=>?_⟩
 obtain⟨x,j,e⟩:=u4.mp e
 refine o σ ρ F H x _ s d j λF1 H1 c=>?_
 cases x with
 | true =>
  rw[t7 rfl]at e ⊢
  exact m σ ρ F1 H1 z Q c.fh (d.mono c.ff) e λF2 H2 n=>q F2 H2 (c.trans n)
 | false =>
  rw[j6 u7]at e ⊢
  cases e
  exact q F1 H1 c
def zkY {rest:y9}{f g:vr}(k:TD X a f)(l:WD X (.BoolOp .Or (b::rest) pos) g):WD X (.BoolOp .Or (a::b::rest) pos) (X8 f g):=by
 obtain⟨p,h,o⟩:=k
 obtain⟨r,i,m⟩:=l
 refine⟨_,zp2 h i,fun σ ρ F H z Q s d e q=>?_⟩
 obtain⟨x,j,e⟩:=u4.mp e
 refine o σ ρ F H x _ s d j λF1 H1 c=>?_
 cases x with
 | false =>
  rw[j6 u7]at e ⊢
  exact m σ ρ F1 H1 z Q c.fh (d.mono c.ff) e λF2 H2 n=>q F2 H2 (c.trans n)
 | true =>
  rw[t7 rfl]at e ⊢
  cases e
  exact q F1 H1 c
def zqh {f:vr}(h:WD X a f):TD X a f:=let ⟨_,p,r⟩:=h;⟨_,p.pt,r⟩
def wl {f:vr}(h:TD X a f):TD X (.UnaryOp .Not a pos) (yn f):=by
 obtain⟨j,i,b⟩:=h
 refine⟨_,zlm i,fun σ ρ F H z Q s c e q=>?_⟩
 obtain⟨x,g,rfl⟩:=t4.mp e
 exact b σ ρ F H x _ s c g λF1 H1 d=>q F1 H1 d
def YR (f g:zU):zU:=fun ρ=>((f ρ).bind asB).bind λc=>if c=true then g ρ else some (.bl false)
def eOr (f g:zU):zU:=fun ρ=>((f ρ).bind asB).bind λc=>if c=true then some (.bl true)else g ρ
def zbf (f:zU):zU:=fun ρ=>((f ρ).bind asB).map λc=>.bl (!c)
def zlc {op}{f:zU}(ha:ED X a f):ED X (.BoolOp op [a] pos) f:=let ⟨_,pa,ra⟩:=ha;⟨_,zoo pa,ra⟩
def zk6 {rest:y9}{f g:zU}(n:ED X a f)(o:ED X (.BoolOp .And (b::rest) pos) g):ED X (.BoolOp .And (a::b::rest) pos) (YR f g):=by
 obtain⟨u,k,t⟩:=n
 obtain⟨A,l,p⟩:=o
 refine⟨_,zpX k l,fun σ ρ F H z Q s h e q=>?_⟩
 obtain⟨x,d,e⟩:=u4.mp e
 obtain⟨y,d,m⟩:=u4.mp d
 cases X6 m
 refine t σ ρ F H _ _ s h d λF1 H1 v c j=>⟨x,j.bl_inv,?_⟩
 cases x with
 | true =>
  rw[t7 rfl]at e ⊢
  exact p σ ρ F1 H1 z Q c.fh (h.mono c.ff) e λF2 H2 w r i=>q F2 H2 w (c.trans r) i
 | false =>
  rw[j6 u7]at e ⊢
  cases e
  exact q F1 H1 _ c .bl
def zpQ {f:zU}(j:ED X a f):ED X (.UnaryOp .Not a pos) (zbf f):=by
 obtain⟨l,g,k⟩:=j
 refine⟨_,zpi g,fun σ ρ F H z Q s c e q=>?_⟩
 obtain⟨x,b,rfl⟩:=t4.mp e
 obtain⟨y,b,i⟩:=u4.mp b
 cases X6 i
 exact k σ ρ F H _ _ s c b λF1 H1 v h d=>⟨x,d.bl_inv,q F1 H1 _ h .bl⟩
def eIf (t:vr)(f g:zU):zU:=fun ρ=>(t ρ).bind λc=>if c=true then f ρ else g ρ
def zps {t:vr}{f g:zU}(l:TD X c t)(r:ED X a f)(u:ED X b g):ED X (.IfExp c a b pos) (eIf t f g):=by
 obtain⟨B,k,n⟩:=l
 obtain⟨A,m,y⟩:=r
 obtain⟨C,o,v⟩:=u
 refine⟨_,zkm k m o,fun σ ρ F H z Q s i e q=>?_⟩
 obtain⟨x,p,e⟩:=u4.mp e
 refine n σ ρ F H x _ s i p λF1 H1 d=>?_
 cases x with
 | true =>
  rw[t7 rfl]at e ⊢
  exact y σ ρ F1 H1 z Q d.fh (i.mono d.ff) e λF2 H2 w j h=>q F2 H2 w (d.trans j) h
 | false =>
  rw[j6 u7]at e ⊢
  exact v σ ρ F1 H1 z Q d.fh (i.mono d.ff) e λF2 H2 w j h=>q F2 H2 w (d.trans j) h
def eUn (g:D->Option D)(f:zU):zU:=fun ρ=>(f ρ).bind g
def ZT:D->Option D
 | .int i=>some (.int (-i))
 | _=>none
def XC {f:zU}(i:ED X a f):ED X (.UnaryOp .USub a pos) (eUn ZT f):=by
 obtain⟨k,d,j⟩:=i
 refine⟨_,zpS zll d,fun σ ρ F H z Q s b e q=>?_⟩
 obtain⟨x,h,e⟩:=u4.mp e
 cases x <;> try cases e
 exact j σ ρ F H _ _ s b h λF1 H1 v g c=>⟨_,c.int_inv,q F1 H1 _ g .int⟩
def zj:yx:=λ_=>some []
def za (f:zU)(g:yx):yx:=fun ρ=>(f ρ).bind λd=>(g ρ).map (d::·)
def zg:AD X [] zj:=⟨_,yF,λ_ _ _ _ _ _ s _ e q=>by cases e;exact q _ _ _ (.refl s) .nil⟩
def zb {a:y9}{f:zU}{g:yx}(r:ED X e f)(n:AD X a g)(h:starEach (e::a) X.env=(false,eval e X.env)::starEach a X.env:=by rfl):AD X (e::a) (za f g):=by
 obtain⟨y,l,u⟩:=r
 obtain⟨A,m,t⟩:=n
 refine⟨_,zu l m h,fun σ ρ F H z Q s c e q=>?_⟩
 obtain⟨x,o,e⟩:=u4.mp e
 obtain⟨j,p,rfl⟩:=t4.mp e
 refine u σ ρ F H x _ s c o λF1 H1 v b k=>?_
 exact t σ ρ F1 H1 j _ b.fh (c.mono b.ff) p λF2 H2 w d i=>q F2 H2 _ (b.trans d) (.cons (k.mono d.ff) i)
def lim (n:Nat):Bool:=decide (n<=sizeLine)
def wW (g:yx):zU:=fun ρ=>(g ρ).bind λa=>if lim a.length=true then some (.tup a)else none
def yi (g:yx):yx:=fun ρ=>(g ρ).bind λa=>if lim a.length=true then some a else none
def w6 {d:y9}{x1}{g:yx}(h:AD X d g):ED X (.Tuple d x1 pos) (wW g):=by
 obtain⟨r,k,o⟩:=h
 refine⟨_,zdQ k,fun σ ρ F H z Q s i e q=>?_⟩
 obtain⟨f,l,e⟩:=u4.mp e
 split at e <;> cases e
 rename_i n
 refine o σ ρ F H f _ s i l λF1 H1 j b a=>⟨by rw[a.length];exact k8 n,λp m=>?_⟩
 have c:=Gr.alloc b.fh m (.tup j)
 exact q _ _ _ (b.trans c) (.tup zl (a.mono c.ff))
def vl {c:y9}{g:yx}(h:AD X c g):FL X (.List c pos) (yi g):=by
 obtain⟨t,r,l⟩:=h
 refine⟨_,zb4 r,fun σ ρ F H z Q s m e q=>?_⟩
 obtain⟨v,j,e⟩:=u4.mp e
 split at e <;> cases e
 rename_i n
 refine l σ ρ F H _ _ s m j λF1 H1 i a d=>⟨by rw[d.length];exact k8 n,λp b=>?_⟩
 have k:=Gr.hide a.fh b (.lst i)
 have h0:H p=none:=by
  cases e:H p with
  | none=>rfl
  | some o =>
   cases f:F p with
   | none=>rw[(a.kp p o f e).2]at b;cases b
   | some u=>rw[a.fh _ _ (a.ff _ _ f)]at b;cases b
 exact q _ _ _ _ (a.trans k) h0 (a.fh.free b) zl d
end
end
end Dl
namespace Dl
open PySem L2
variable [KK]
structure Pst where
 z:Option (Addr × Addr × Addr)
 l:zm
 deriving Inhabited
inductive Sl where
 | no | v (d:D) | o (ds:zm) | m (t:Bool) (ks:List (List Key)) (vs:zm) | k (w h:D) (ps:Pst)
 deriving Inhabited
abbrev SE:=List Sl
abbrev vL:=D->SE->Option SE
abbrev xa:=SE->Option Nat
abbrev Z4:=SE->Prop
def Sl.f:Sl->Option D
 | .v d=>some d
 | _=>none
def Sl.g:Sl->Option D
 | .v d=>some d
 | .o ds=>some (.lst ds)
 | .m t a b=>some (.dct false t a b)
 | .k w h ps=>some (.obj w h ps.l)
 | .no=>none
def Sl.isO:Sl->Bool
 | .o _=>true
 | .m _ _ _=>true
 | .k _ _ _=>true
 | _=>false
def Sl.isK:Sl->Bool
 | .k _ _ _=>true
 | _=>false
def visF (ρ:SE):Ev:=ρ.map Sl.f
def visG (ρ:SE):Ev:=ρ.map Sl.g
def zen (F:Hp)(o:HO):Sl->Prop
 | .o b=>∃ a,o=.lst a/\AtL F b a
 | .m t f b=>∃ a,zdj o t f a/\AtL F b a
 | .k w h _=>∃ e d c q,o=.ins KK.dk e (Wc d c q)/\At F w d/\At F h c
 | _=>False
def zen.mono (h:zen F o s)(k:zX F F'):zen F' o s:=by
 cases s with
 | no=>exact h
 | v d=>exact h
 | o j=>obtain⟨c,e,a⟩:=h;exact⟨c,e,a.mono k⟩
 | m t l j=>obtain⟨c,e,a⟩:=h;exact⟨c,e,a.mono k⟩
 | k w d ps=>obtain⟨g,i,f,q,e,a,b⟩:=h;exact⟨g,i,f,q,e,a.mono k,b.mono k⟩
def zen.isO {s:Sl}(h:zen F o s):s.isO=true:=by
 cases s with
 | no=>exact h.elim
 | v d=>exact h.elim
 | o a=>rfl
 | m t b a=>rfl
 | k w d c=>rfl
def zen.ntup (h:zen F o s)(f:zx):o≠.tup f:=by
 cases s with
 | no=>exact h.elim
 | v d=>exact h.elim
 | o b=>obtain⟨c,rfl,_⟩:=h;intro e;cases e
 | m t n b =>
  obtain⟨c,e,_⟩:=h
  unfold zdj at e
  split at e
  .obtain⟨a,rfl,_⟩:=e;intro e;cases e
  .obtain⟨a,rfl,_⟩:=e;intro e;cases e
 | k w d j=>obtain⟨i,l,g,q,rfl,_⟩:=h;intro e;cases e
def zen.at {G:Hp}{s:Sl}{d:D}{p:Addr}(h:zen F o s)(e:s.g=some d)(b:G p=some o)(k:zX F G)(c:s.isK=false):At G d (.ref p):=by
 cases s with
 | no=>exact h.elim
 | v d=>exact h.elim
 | o ds =>
  cases e
  obtain⟨xs,rfl,a⟩:=h
  exact .lst b (a.mono k)
 | m t f ds =>
  cases e
  obtain⟨xs,e,a⟩:=h
  unfold At
  exact⟨p,xs,rfl,⟨o,e,b⟩,a.mono k⟩
 | k w d ps=>cases c
def DkF (Hb F H:Hp)(ρ:SE)(σ:St):Prop:=∀ (i:Nat) (w h:D) (b:Pst),ρ[i]?=some (Sl.k w h b)->∃ (p c q:Addr) (f e:V) (d:zx),σ[i]?=some (some (.ref p))/\H p=some (.ins KK.dk c (Wc f e q))/\Hb q=none/\F q=none/\H q=some (.lst d)/\AtL F b.l d/\(∀ (j:Nat) (s:Sl),ρ[j]?=some s->s.isO=true->σ[j]?≠some (some (.ref q)))/\(∀ (j:Nat) (s:Sl),ρ[j]?=some s->s.isK=true->j=i)/\∀ a,b.z=some a->a=(p,c,q)
def Sl.isK_eq {s:Sl}(h:s.isK=true):∃ w d a,s=.k w d a:=by
 cases s with
 | k w d a=>exact⟨w,d,a,rfl⟩
 | _=>cases h
def DkF.step {Hb F H Hb' F' H':Hp}{g:St}(r:DkF Hb F H ρ σ)(n:∀ (i:Nat) (w h:D) (a:Pst),l[i]?=some (.k w h a)->ρ[i]?=some (.k w h a)/\g[i]?=σ[i]?)(P:zX F F') (G:∀ (i:Nat) (w h:D) (a:Pst) (p d q:Addr) (f c:V) (b:zx),ρ[i]?=some (.k w h a)->σ[i]?=some (some (.ref p))->H p=some (.ins KK.dk d (Wc f c q))->Hb q=none->F q=none->H q=some (.lst b)->(∀ (j:Nat) (s:Sl),ρ[j]?=some s->s.isO=true->σ[j]?≠some (some (.ref q))) ->
 H' p=some (.ins KK.dk d (Wc f c q))/\Hb' q=none/\F' q=none/\H' q=some (.lst b)/\∀ (j:Nat) (s:Sl),l[j]?=some s->s.isO=true->g[j]?≠some (some (.ref q))):DkF Hb' F' H' l g:=λi w h a e=>by
 obtain⟨m,N⟩:=n i w h a e
 obtain⟨p,d,q,f,c,b,o,A,C,z,E,v,x,I,M⟩:=r i w h a m
 obtain⟨L,B,u,Q,J⟩:=G i w h a p d q f c b m o A C z E x
 refine⟨p,d,q,f,c,b,by rw[N];exact o,L,B,u,Q,v.mono P,J,λj s t y=>?_,M⟩
 obtain⟨K,O,k,rfl⟩:=Sl.isK_eq y
 exact I j _ (n j K O k t).1 rfl
def zpk {d:V}(h:Wc e d q=Wc a b c):q=c:=by
 unfold Wc at h
 simp at h
 exact h.2.2
def zpc {f d:Addr}{g:V}(h:(some (HO.ins C f (Wc g e q)):Option HO)=some (.ins C b (Wc a c d))):q=d:=zpk (HO.ins.inj (o4 h)).2.2
structure Rl (Fb Hb F H:Hp) (ρ:SE) (σ:St):Prop where
 gr:Gr Fb Hb F H
 vals:∀ (i:Nat) (d:D),ρ[i]?=some (.v d)->∃ v,σ[i]?=some (some v)/\At F d v
 ows:∀ (i:Nat) (s:Sl),ρ[i]?=some s->s.isO=true->∃ p o,σ[i]?=some (some (.ref p))/\Hb p=none/\F p=none/\H p=some o/\zen F o s
 dis:∀ (i j:Nat) (p:Addr) (s t:Sl),ρ[i]?=some s->ρ[j]?=some t->s.isO=true->t.isO=true->σ[i]?=some (some (.ref p))->σ[j]?=some (some (.ref p))->i=j
 len:ρ.length=σ.length
 dk:DkF Hb F H ρ σ
section
variable {Fb Hb F H F' H':Hp}{ρ ρ':SE}{σ σ':St}
def Rl.owns (r:Rl Fb Hb F H ρ σ)(i:Nat)(c:zm)(e:ρ[i]?=some (.o c)):∃ p b,σ[i]?=some (some (.ref p))/\Hb p=none/\F p=none/\H p=some (.lst b)/\AtL F c b:=by
 obtain⟨p,o,h,d,g,f,b,rfl,a⟩:=r.ows i _ e rfl
 exact⟨p,b,h,d,g,f,a⟩
def Rl.grow (r:Rl Fb Hb F H ρ σ)(g:Gr F H F' H'):Rl Fb Hb F' H' ρ σ:=by
 refine⟨r.gr.trans g,λi d e=>?_,λi s e h=>?_,r.dis,r.len,r.dk.step (λ_ _ _ _ e=>⟨e,rfl⟩) g.ff λi w h B p J q K I G b f k j x n A=>?_⟩
 .obtain⟨v,b,a⟩:=r.vals i d e
  exact⟨v,b,a.mono g.ff⟩
 .obtain⟨p,o,b,f,k,j,a⟩:=r.ows i s e h
  obtain⟨l,c⟩:=g.kl a.ntup k j
  exact⟨p,o,b,f,l,c,a.mono g.ff⟩
 .obtain⟨C,o,m,E,t,D,a⟩:=r.ows i _ b rfl
  rw[f]at m
  cases m
  obtain⟨l,c⟩:=g.kl (λ_ z=>by cases z) t k
  obtain⟨y,u⟩:=g.kl (λ_ z=>by cases z) x n
  exact⟨c,j,y,u,A⟩
def Rl.visF (r:Rl Fb Hb F H ρ σ):VAt F (visF ρ) σ:=λi d e=>by
 unfold Dl.visF at e
 rw[k9]at e
 cases h:ρ[i]? with
 | none=>rw[h]at e;cases e
 | some x =>
  rw[h]at e
  cases x with
  | no=>cases e
  | v f =>
   cases e
   exact r.vals i d h
  | o a=>cases e
  | m t c a=>cases e
  | k w d b=>cases e
def Own (ρ:SE)(σ:St)(H:Hp)(p:Addr):Prop:=∃ (i:Nat) (s:Sl) (r:Addr),ρ[i]?=some s/\s.isO=true/\σ[i]?=some (some (.ref r))/\(p=r\/(s.isK=true/\∃ b c a,H r=some (.ins KK.dk b (Wc c a p))))
open Classical in
noncomputable def gOf (ρ:SE)(σ:St)(F H:Hp):Hp:=λp=>if Own ρ σ H p then H p else F p
open Classical in
noncomputable def fOf (ρ:SE)(σ:St)(H G:Hp):Hp:=λp=>if Own ρ σ H p then none else G p
def Rl.own (r:Rl Fb Hb F H ρ σ){p:Addr}(h:Own ρ σ H p):Hb p=none/\F p=none/\∃ o,H p=some o/\∀ f,o≠.tup f:=by
 obtain⟨i,s,L,c,B,j,b⟩:=h
 rcases b with b | ⟨t,J,K,I,b⟩
 .subst b
  obtain⟨q,o,g,A,n,D,a⟩:=r.ows i s c B
  rw[j]at g
  cases g
  exact⟨A,n,o,D,a.ntup⟩
 .obtain⟨w,d,l,rfl⟩:=Sl.isK_eq t
  obtain⟨G,m,q,y,C,f,k,e,v,u,x,E,_⟩:=r.dk i w d l c
  rw[j]at k
  cases k
  rw[b]at e
  cases zpc e
  exact⟨v,u,_,x,λ_ z=>by cases z⟩
def zq9 (ρ:SE)(σ:St)(H:Hp)(q:Addr):Prop:=(∀ (j:Nat) (s:Sl),ρ[j]?=some s->s.isO=true->σ[j]?≠some (some (.ref q)))/\∀ (j:Nat) (w h:D) (a:Pst) (p b:Addr) (d c:V),ρ[j]?=some (.k w h a)->σ[j]?=some (some (.ref p))->H p≠some (.ins KK.dk b (Wc d c q))
def Rl.notown (r:Rl Fb Hb F H ρ σ)(g:Gr F H F' H')(h:H q=none):zq9 ρ σ H' q:=by
 refine⟨λj s a c e=>?_,λj w d i p R S Q a c e=>?_⟩
 .obtain⟨p,o,b,_,_,f,_⟩:=r.ows j s a c
  rw[e]at b
  cases b
  rw[h]at f
  cases f
 .obtain⟨J,t,U,y,D,P,b,L,N,f,O,I,_⟩:=(r.grow g).dk j w d i a
  obtain⟨K,u,G,v,C,B,n,x,E,W,m,T,_⟩:=r.dk j w d i a
  rw[c]at b n
  cases b
  cases n
  obtain⟨M,o,k,_,A,V,_⟩:=r.ows j _ a rfl
  rw[c]at k
  cases k
  have l:=(g.kl (λ_ z=>by cases z) A x).2
  rw[e]at l
  cases zpc l
  rw[h]at m
  cases m
def Rl.notbase (r:Rl Fb Hb F H ρ σ)(h:H q=none):Hb q=none:=by
 cases z:Hb q with
 | none=>rfl
 | some o =>
  cases a:Fb q with
  | none=>rw[(r.gr.kp q o a z).2]at h;cases h
  | some u=>rw[r.gr.fh _ _ (r.gr.ff _ _ a)]at h;cases h
def Rl.fg (r:Rl Fb Hb F H ρ σ):zX F (gOf ρ σ F H):=λp o e=>by
 unfold gOf
 split
 .exact r.gr.fh p o e
 .exact e
def Rl.gh (r:Rl Fb Hb F H ρ σ):zX (gOf ρ σ F H) H:=λp o e=>by
 unfold gOf at e
 split at e
 .exact e
 .exact r.gr.fh p o e
def Rl.visG (r:Rl Fb Hb F H ρ σ):VAt (gOf ρ σ F H) (visG ρ) σ:=λi d e=>by
 unfold Dl.visG at e
 rw[k9]at e
 cases h:ρ[i]? with
 | none=>rw[h]at e;cases e
 | some x =>
  rw[h]at e
  have e:x.g=some d:=o4 e
  have own:x.isO=true->∃ v,σ[i]?=some (some v)/\At (gOf ρ σ F H) d v:=λg=>by
   obtain⟨p,o,b,S,T,c,a⟩:=r.ows i x h g
   cases j:x.isK with
   | false =>
    refine⟨_,b,a.at e ?_ r.fg j⟩
    unfold gOf
    rw[t7 ⟨i,x,p,h,g,b,.inl rfl⟩]
    exact c
   | true =>
    obtain⟨w,y,f,rfl⟩:=Sl.isK_eq j
    cases e
    obtain⟨N,s,q,u,n,E,z,l,Q,P,D,A,_⟩:=r.dk i w y f h
    rw[b]at z
    cases z
    obtain⟨B,C,L,M,K,J,G⟩:=a
    rw[c]at l
    cases l
    cases K
    refine⟨_,b,?_⟩
    unfold At
    refine⟨p,s,q,u,n,E,rfl,?_,?_,J.mono r.fg,G.mono r.fg,A.mono r.fg⟩
    .unfold gOf
     rw[t7 ⟨i,_,p,h,rfl,b,.inl rfl⟩]
     exact c
    .unfold gOf
     rw[t7 ⟨i,_,p,h,rfl,b,.inr ⟨rfl,s,u,n,c⟩⟩]
     exact D
  cases x with
  | no=>cases e
  | v R =>
   cases e
   obtain⟨v,b,a⟩:=r.vals i d h
   exact⟨v,b,a.mono r.fg⟩
  | o I=>exact own rfl
  | m t O I=>exact own rfl
  | k w d f=>exact own rfl
def Rl.back {G':Hp}(r:Rl Fb Hb F H ρ σ)(g:Gr (gOf ρ σ F H) H G' H'):Gr F H (fOf ρ σ H G') H'/\∀ q xs,G' q=some (.tup xs)->fOf ρ σ H G' q=some (.tup xs):=by
 refine⟨⟨λp o e=>?_,λp o e=>?_,λp o b a=>?_⟩,λq xs e=>?_⟩
 .unfold fOf
  rw[j6 (λh=>by rw[(r.own h).2.1]at e;cases e)]
  exact g.ff p o (r.fg p o e)
 .unfold fOf at e
  split at e
  .cases e
  .exact g.fh p o e
 .by_cases h:Own ρ σ H p
  .refine⟨.inl (by unfold fOf;rw[t7 h]),g.fh p o (g.ff p o ?_)⟩
   unfold gOf
   rw[t7 h]
   exact a
  .obtain⟨x,y⟩:=g.kp p o (by unfold gOf;rw[j6 h];exact b) a
   refine⟨?_,y⟩
   unfold Hid fOf
   rw[j6 h]
   exact x
 .unfold fOf
  rw[j6 (λh=>?_)]
  .exact e
  .obtain⟨_,_,o,a,n⟩:=r.own h
   have:G' q=some o:=g.ff q _ (by unfold gOf;rw[t7 h];exact a)
   rw[this]at e
   cases e
   exact n xs rfl
def Rl.out (r:Rl Fb Hb F H ρ σ)(g:Gr (gOf ρ σ F H) H G' H'):Gr Fb Hb G' H':=by
 refine⟨λp o e=>g.ff p o (r.fg p o (r.gr.ff p o e)),g.fh,λp o i b=>?_⟩
 obtain⟨a,f⟩:=r.gr.kp p o i b
 have c:gOf ρ σ F H p=F p:=by
  unfold gOf
  rw[j6 (λh=>by rw[(r.own h).1]at b;cases b)]
 rcases a with a | ⟨a,d⟩
 .exact g.kp p o (by rw[c];exact a) f
 .have:=g.ff p o (by rw[c];exact d)
  exact⟨.inr ⟨a,this⟩,g.fh _ _ this⟩
def Rl.set (r:Rl Fb Hb F H ρ σ){d:D}(a:At F d v):Rl Fb Hb F H (ρ.set i (.v d)) (σ.set i (some v)):=by
 have g:∀ {j:Nat} {s:Sl},(ρ.set i (.v d))[j]?=some s->s.isO=true->i≠j:=λ{j s} h f e=>by
  subst e
  rw[u0o]at h
  simp only[u1X]at h
  split at h <;> cases h
  cases f
 have A:∀ {j:Nat} {w h:D} {l:Pst},(ρ.set i (.v d))[j]?=some (.k w h l)->i≠j:=λh=>g h rfl
 refine⟨r.gr,λj e h=>?_,λj s h f=>?_,λj k p s t c m o n u x=>?_,by simp[r.len],r.dk.step (λj w h l e=>?_) (zX.refl _) λj w h l p N q O M L K P G E C y I=>⟨G,E,C,y,λk s c f=>?_⟩⟩
 .by_cases b:i=j
  .subst b
   rw[u0o]at h
   simp only[u1X]at h
   split at h
   .rename_i J
    cases h
    refine⟨v,?_,a⟩
    rw[u0o]
    simp[<-r.len,J]
   .cases h
  .rw[u8 b]at h ⊢
   exact r.vals j e h
 .have b:=g h f
  rw[u8 b]at h ⊢
  exact r.ows j s h f
 .have B:=g c o
  have z:=g m n
  rw[u8 B]at c u
  rw[u8 z]at m x
  exact r.dis j k p s t c m o n u x
 .have b:=A e
  rw[u8 b]at e ⊢
  exact⟨e,rfl⟩
 .have b:=g c f
  rw[u8 b]at c ⊢
  exact I k s c f
def Rl.setW (r:Rl Fb Hb F H ρ σ){w:Sl}{p:Addr}(h0:Hb p=none)(S:F p=none)(J:H p=some o)(a:zen F o w)(A:zq9 ρ σ H p)(C:w.isK=false:=by rfl):Rl Fb Hb F H (ρ.set i w) (σ.set i (some (.ref p))):=by
 have b:∀ {s:Sl},(ρ.set i w)[i]?=some s->i<ρ.length/\s=w:=λ{s} h=>by
  rw[u0o]at h
  simp only[u1X]at h
  split at h
  .rename_i g
   cases h
   exact⟨g,rfl⟩
  .cases h
 have c:i<ρ.length->(σ.set i (some (V.ref p)))[i]?=some (some (.ref p)):=λg=>by
  rw[u0o]
  simp[<-r.len,g]
 have Q:∀ {j:Nat} {x h:D} {u:Pst},(ρ.set i w)[j]?=some (.k x h u)->i≠j:=λ{j x h u} e z=>by
  subst z
  have y:=(b e).2
  rw[<-y]at C
  cases C
 refine⟨r.gr,λj e h=>?_,λj s h B=>?_,λj k q s t f v G E m n=>?_,by simp[r.len],r.dk.step (λj x h u e=>?_) (zX.refl _) λj x h u L O q P N W K y I T R M U=>⟨I,T,R,M,λk s f B=>?_⟩⟩
 .by_cases d:i=j
  .subst d
   have e:=(b h).2
   have:=a.isO
   rw[<-e]at this
   cases this
  .rw[u8 d]at h ⊢
   exact r.vals j e h
 .by_cases d:i=j
  .subst d
   obtain⟨g,e⟩:=b h
   subst e
   exact⟨p,o,c g,h0,S,J,a⟩
  .rw[u8 d]at h ⊢
   exact r.ows j s h B
 .by_cases d:i=j
  .subst d
   by_cases l:i=k
   .exact l
   .obtain⟨g,_⟩:=b f
    rw[c g]at m
    cases m
    rw[u8 l]at v n
    exact absurd n (A.1 k t v E)
  .by_cases l:i=k
   .subst l
    obtain⟨g,_⟩:=b v
    rw[c g]at n
    cases n
    rw[u8 d]at f m
    exact absurd m (A.1 j s f G)
   .rw[u8 d]at f m
    rw[u8 l]at v n
    exact r.dis j k q s t f v G E m n
 .have d:=Q e
  rw[u8 d]at e ⊢
  exact⟨e,rfl⟩
 .by_cases l:i=k
  .subst l
   rw[c (b f).1]
   intro z
   cases z
   exact A.2 j x h u L O P N K y I
  .rw[u8 l]at f ⊢
   exact U k s f B
def Rl.setO (r:Rl Fb Hb F H ρ σ){p:Addr}(h0:Hb p=none)(d:F p=none)(e:H p=some (.lst b))(a:AtL F c b)(f:zq9 ρ σ H p):Rl Fb Hb F H (ρ.set i (.o c)) (σ.set i (some (.ref p))):=r.setW h0 d e ⟨b,rfl,a⟩ f
def Rl.mutW (r:Rl Fb Hb F H ρ σ){i:Nat}{w v:Sl}{p:Addr}{D:HO}(e:ρ[i]?=some w)(hw:w.isO=true)(A:σ[i]?=some (some (.ref p)))(a:zen F D v)(V:w.isK=false:=by rfl)(L:v.isK=false:=by rfl):Rl Fb Hb F (upd H p D) (ρ.set i v) σ:=by
 obtain⟨q,o,Q,h0,R,hH,_⟩:=r.ows i w e hw
 rw[A]at Q
 cases Q
 have B:i<ρ.length:=(j3.mp e).1
 have n:∀ {j:Nat} {s:Sl} {q:Addr},i≠j->ρ[j]?=some s->s.isO=true->σ[j]?=some (some (.ref q))->q≠p:=λ{j s q} hne m l E z=>by
  subst z
  exact hne (r.dis i j q w s e m hw l A E)
 refine⟨⟨r.gr.ff,λb o z=>?_,λb o W N=>?_⟩,λj d h=>?_,λj s h l=>?_,λj k q s t m E Y X Z h4=>?_,by simp[r.len],r.dk.step (λj x h S y=>?_) (zX.refl _) λj x h S p' dx q vw vh xs g u I G J T C=>⟨?_,G,J,?_,λk s m l=>?_⟩⟩
 .rw[zi (ze z R)]
  exact r.gr.fh b o z
 .rw[zi (ze N h0)]
  exact r.gr.kp b o W N
 .by_cases c:i=j
  .subst c
   rw[r6 B]at h
   cases h
   exact(Bool.noConfusion a.isO)
  .rw[u8 c]at h
   exact r.vals j d h
 .by_cases c:i=j
  .subst c
   rw[r6 B]at h
   cases h
   exact⟨p,D,A,h0,R,zl,a⟩
  .rw[u8 c]at h
   obtain⟨q,z,g,u,I,G,J⟩:=r.ows j s h l
   refine⟨q,z,g,u,I,?_,J⟩
   rw[zi (n c h l g)]
   exact G
 .have f:∀ {j:Nat} {s:Sl},(ρ.set i v)[j]?=some s->s.isO=true->∃ P,ρ[j]?=some P/\P.isO=true:=λ{j s} h l=>by
   by_cases c:i=j
   .subst c;exact⟨w,e,hw⟩
   .rw[u8 c]at h;exact⟨s,h,l⟩
  obtain⟨g,g1,K⟩:=f m Y
  obtain⟨u,U,M⟩:=f E X
  exact r.dis j k q g u g1 U K M Z h4
 .by_cases c:i=j
  .subst c
   rw[r6 B]at y
   cases y
   cases L
  .rw[u8 c]at y
   exact⟨y,rfl⟩
 .have c:i≠j:=λz=>by
   subst z
   rw[e]at g
   cases g
   cases V
  rw[zi (n c g rfl u)]
  exact I
 .rw[zi (λz=>C i w e hw (by rw[z];exact A))]
  exact T
 .by_cases O:i=k
  .subst O
   exact C i w e hw
  .rw[u8 O]at m
   exact C k s m l
def Rl.mutate (r:Rl Fb Hb F H ρ σ){i:Nat}{d:zm}{p:Addr}(e:ρ[i]?=some (.o d))(f:σ[i]?=some (some (.ref p)))(a:AtL F c b):Rl Fb Hb F (upd H p (.lst b)) (ρ.set i (.o c)) σ :=
 r.mutW e rfl f ⟨b,rfl,a⟩
def Sl.fz:Sl->Sl
 | .o c=>.v (.lst c)
 | .m t a b=>.v (.dct false t a b)
 | .k _ _ _=>.no
 | s=>s
def zqK (ρ:SE)(i:Nat):SE:=ρ.set i ((ρ[i]?).getD .no).fz
def Rl.freeze (r:Rl Fb Hb F H ρ σ)(i:Nat):∃ F',Rl Fb Hb F' H (zqK ρ i) σ:=by
 unfold zqK
 cases h:ρ[i]? with
 | none =>
  refine⟨F,?_⟩
  rw[List.set_eq_of_length_le (List.getElem?_eq_none_iff.mp h)]
  exact r
 | some s =>
  have O:i<ρ.length:=(j3.mp h).1
  have same:s.fz=s->∃ F',Rl Fb Hb F' H (ρ.set i ((some s).getD .no).fz) σ:=λe=>by
   refine⟨F,?_⟩
   show Rl Fb Hb F H (ρ.set i s.fz) σ
   rw[e]
   have:ρ.set i s=ρ:=by
    apply List.ext_getElem?
    intro j
    by_cases g:i=j
    .subst g;rw[r6 O,h]
    .rw[u8 g]
   rw[this]
   exact r
  have A:∀ d,s.isO=true->s.isK=false->s.g=some d->s.fz=.v d->∃ F',Rl Fb Hb F' H (ρ.set i ((some s).getD .no).fz) σ:=λd X T Z hz=>by
   obtain⟨p,o,S,e2,Y,e4,a⟩:=r.ows i s h X
   have Q:zX F (upd F p o):=λb u e=>by rw[zi (ze e Y)];exact e
   show ∃ F',Rl Fb Hb F' H (ρ.set i s.fz) σ
   rw[hz]
   have n:∀ {j:Nat} {t:Sl},(ρ.set i (.v d))[j]?=some t->t.isO=true->i≠j:=λ{j t} h c e=>by
    subst e
    rw[r6 O]at h
    cases h
    cases c
   refine⟨upd F p o,r.gr.show e2 Y e4,λj e z=>?_,λj t z c=>?_,λj k q t u f C L K V W=>?_,by simp[r.len],r.dk.step (λj x U M B=>?_) Q λj x U M p' dx q vw vh xs D G I E J R P=>⟨I,E,?_,R,λk t f c=>?_⟩⟩
   .by_cases g:i=j
    .subst g
     rw[r6 O]at z
     cases z
     exact⟨_,S,a.at Z zl Q T⟩
    .rw[u8 g]at z
     obtain⟨v,D,G⟩:=r.vals j e z
     exact⟨v,D,G.mono Q⟩
   .have g:=n z c
    rw[u8 g]at z
    obtain⟨q,y,D,G,I,E,J⟩:=r.ows j t z c
    refine⟨q,y,D,G,?_,E,J.mono Q⟩
    rw[zi (λw=>g (r.dis i j p s t h z X c S (by rw[<-w];exact D)))]
    exact I
   .have a1:=n f L
    have a2:=n C K
    rw[u8 a1]at f
    rw[u8 a2]at C
    exact r.dis j k q t u f C L K V W
   .have g:=n B rfl
    rw[u8 g]at B
    exact⟨B,rfl⟩
   .rw[zi (λz=>P i s h X (by rw[z];exact S))]
    exact J
   .have g:=n f c
    rw[u8 g]at f
    exact P k t f c
  cases s with
  | no=>exact same rfl
  | v d=>exact same rfl
  | o ds=>exact A _ rfl rfl rfl rfl
  | m t ks ds=>exact A _ rfl rfl rfl rfl
  | k w d M =>
   refine⟨F,?_⟩
   have n:∀ {j:Nat} {t:Sl},(ρ.set i Sl.no)[j]?=some t->t≠.no->i≠j:=λ{j t} h c e=>by
    subst e
    rw[r6 O]at h
    cases h
    exact c rfl
   have N:∀ {t:Sl},t.isO=true->t≠.no:=λ{t} h e=>by subst e;cases h
   refine⟨r.gr,λj e z=>?_,λj t z c=>?_,λj l q t u f C L K V W=>?_,by simp[r.len,Sl.fz],r.dk.step (λj x U M B=>?_) (zX.refl _) λj x U M p' dx q vw vh xs D G I E J R P=>⟨I,E,J,R,λl t f c=>?_⟩⟩
   .rw[u8 (n z (λz=>by cases z))]at z
    exact r.vals j e z
   .rw[u8 (n z (N c))]at z
    exact r.ows j t z c
   .rw[u8 (n f (N L))]at f
    rw[u8 (n C (N K))]at C
    exact r.dis j l q t u f C L K V W
   .rw[u8 (n B (λz=>by cases z))]at B
    exact⟨B,rfl⟩
   .rw[u8 (n f (N c))]at f
    exact P l t f c
end
inductive Ctl where
 | nx (ρ:SE) | rt (d:D) | bk (ρ:SE) | ct (ρ:SE) | no
 deriving Inhabited
abbrev zz:=SE->Ctl
def SOk (Fb Hb:Hp)(E:Vp):Ctl->Prop
 | .nx ρ=>∀ F H σ,Rl Fb Hb F H ρ σ->E.nx σ H
 | .bk ρ=>∀ F H σ,Rl Fb Hb F H ρ σ->E.bk σ H
 | .ct ρ=>∀ F H σ,Rl Fb Hb F H ρ σ->E.ct σ H
 | .rt d=>∀ F H v,Gr Fb Hb F H->At F d v->E.rt v H
 | .no=>False
def RS (t:TS)(g:zz):Prop:=∀ (Fb Hb F H:Hp) (ρ:SE) (σ:St) (E:Vp),Rl Fb Hb F H ρ σ->SOk Fb Hb E (g ρ)->t E σ H
def SD (X:Cx)(a:Stmt)(g:zz):Prop:=∃ t,PS X a t/\RS t g
def SDs (X:Cx)(a:wU)(g:zz):Prop:=∃ t,PSs X a t/\RS t g
section
variable {X:Cx}{st:Stmt}{sts:wU}{a b c e:Expr}{pos pos':Pos}
def zD:zz:=.nx
noncomputable def zK (g h:zz):zz:=fun ρ=>match g ρ with
 | .nx ρ'=>h ρ'
 | .rt d=>.rt d
 | .bk ρ'=>.bk ρ'
 | .ct ρ'=>.ct ρ'
 | .no=>.no
def zY:SDs X [] zD:=⟨_,zcL,λ_ _ F H ρ σ E r h=>h F H σ r⟩
def zA {g:zz}(i:SD X st g)(j:SDs X sts h):SDs X (st::sts) (zK g h):=by
 obtain⟨t,p,r⟩:=i
 obtain⟨u,l,f⟩:=j
 refine⟨_,xu p l,λFb Hb F H ρ σ E c k=>?_⟩
 refine r Fb Hb F H ρ σ { E with nx:=u E } c ?_
 unfold zK at k
 cases e:g ρ with
 | nx m =>
  rw[e]at k
  exact λF' H' b a=>f Fb Hb F' H' m b E a k
 | rt d=>rw[e]at k;exact k
 | bk d=>rw[e]at k;exact k
 | ct d=>rw[e]at k;exact k
 | no=>rw[e]at k;exact k
def zG {g:zz}(a:SD X st g):SDs X [st] g:=let ⟨_,p,r⟩:=a;⟨_,wO p,r⟩
def sFz (i:Nat)(g:zz):zz:=fun ρ=>g (zqK ρ i)
def zgY {g:zz}(i:Nat)(h:SDs X sts g):SDs X sts (sFz i g):=by
 obtain⟨t,p,r⟩:=h
 refine⟨_,p,λFb Hb F H ρ σ E b k=>?_⟩
 obtain⟨F',a⟩:=b.freeze i
 exact r Fb Hb F' H _ σ E a k
def sNo:zz:=λ_=>.no
def vq:SD X st sNo:=⟨_,zdW,λ_ _ _ _ _ _ _ _ h=>h.elim⟩
noncomputable def yr (f:zU):zz:=fun ρ=>match f (visG ρ) with
 | some d=>.rt d
 | none=>.no
def y8 {f:zU}(h:ED X e f):SD X (.Return (some e) pos) (yr f):=by
 obtain⟨t,p,r⟩:=h
 refine⟨_,Y7 p,λFb Hb F H ρ σ E a k=>?_⟩
 unfold yr at k
 cases h:f (visG ρ) with
 | none=>rw[h]at k;exact k.elim
 | some d =>
  rw[h]at k
  exact r σ _ _ H d _ a.gh a.visG h λF' H' v g b=>k F' H' v (a.out g) b
def Zp:zz:=λ_=>.rt .non
def vEv (m:Bool)(f:zU)(ρ:SE):Option D:=if m=true then (f (visG ρ)).bind λd=>if noL d=true then some d else none else f (visF ρ)
def RE.at {f:zU}{t:TE}{d:D}{Q:VK}(r:RE t f)(a:Rl Fb Hb F H ρ σ)(h:vEv m f ρ=some d)(q:∀ F' H' v,Gr F H F' H'->At F' d v->Q v H'):t σ H Q:=by
 unfold vEv at h
 cases m with
 | false =>
  rw[j6 u7]at h
  exact r σ _ _ H d _ a.gr.fh a.visF h q
 | true =>
  rw[t7 rfl]at h
  obtain⟨l,c,b⟩:=u4.mp h
  split at b <;> cases b
  rename_i k
  refine r σ _ _ H d _ a.gh a.visG c λF' H' v g j=>?_
  obtain⟨i,e⟩:=a.back g
  exact q _ H' v i (j.flat e k)
def xD (m:Bool)(i:Nat)(f:zU):zz:=fun ρ=>match vEv m f ρ with
 | some d=>.nx (ρ.set i (.v d))
 | none=>.no
def wJ {i:Nat}{f:zU}(o:X.N.Nodup)(j:X.N[i]?=some x)(c:Loc X.env.scope x)(n:ED X e f)(l:swapsWith e (some (.Name x pos')) pos.line X.env=pure false:=by rfl)(q:X.fn x=true\/X.env.scope.names.lookup x=some .local:=by first | exact .inl rfl | exact .inr rfl | assumption):SD X (.Assign [.Name x pos'] e pos) (xD m i f):=by
 obtain⟨t,p,r⟩:=n
 refine⟨_,vK o j c p l q,λFb Hb F H ρ σ E a k=>?_⟩
 unfold xD at k
 cases h:vEv m f ρ with
 | none=>rw[h]at k;exact k.elim
 | some d =>
  rw[h]at k
  exact r.at a h λF' H' v g b=>k F' H' _ ((a.grow g).set b)
noncomputable def vx (f:zU):zz:=fun ρ=>match f (visG ρ) with
 | some _=>.nx ρ
 | none=>.no
def WB {f:zU}(c:ED X e f)(b:swapsWith e none pos.line X.env=pure false:=by rfl):SD X (.Expr e pos) (vx f):=by
 obtain⟨t,p,r⟩:=c
 refine⟨_,Zj p b,λFb Hb F H ρ σ E a k=>?_⟩
 unfold vx at k
 cases h:f (visG ρ) with
 | none=>rw[h]at k;exact k.elim
 | some d =>
  rw[h]at k
  exact r σ _ _ H d _ a.gh a.visG h λF' H' v g i=>k _ H' σ (a.grow (a.back g).1)
def Wr (i:Nat)(f:yx):zz:=fun ρ=>match f (visF ρ) with
 | some a=>.nx (ρ.set i (.o a))
 | none=>.no
def zlA {i:Nat}{f:yx}(s:X.N.Nodup)(j:X.N[i]?=some x)(b:Loc X.env.scope x)(n:FL X e f)(l:swapsWith e (some (.Name x pos')) pos.line X.env=pure false:=by rfl)(u:X.fn x=true\/X.env.scope.names.lookup x=some .local:=by first | exact .inl rfl | exact .inr rfl | assumption):SD X (.Assign [.Name x pos'] e pos) (Wr i f):=by
 obtain⟨t,p,r⟩:=n
 refine⟨_,vK s j b p l u,λFb Hb F H ρ σ E a k=>?_⟩
 unfold Wr at k
 cases h:f (visF ρ) with
 | none=>rw[h]at k;exact k.elim
 | some m =>
  rw[h]at k
  refine r σ _ _ H m _ a.gr.fh a.visF h λF' H' q v g h0 o d b=>?_
  have c:=a.grow g
  exact k F' H' _ (c.setO (a.notbase h0) o d b (a.notown g h0))
noncomputable def sIf (t:vr)(g h:zz):zz:=fun ρ=>match t (visG ρ) with
 | some true=>g ρ
 | some false=>h ρ
 | none=>.no
def xM {e f:wU}{t:vr}{g:zz}(i:TD X c t)(o:SDs X e g)(p:SDs X f h):SD X (.If c e f pos) (sIf t g h):=by
 obtain⟨u,n,j⟩:=i
 obtain⟨s,r,m⟩:=o
 obtain⟨v,l,q⟩:=p
 refine⟨_,zgf n r l,λFb Hb F H ρ σ E b k=>?_⟩
 unfold sIf at k
 cases h:t (visG ρ) with
 | none=>rw[h]at k;exact k.elim
 | some d =>
  rw[h]at k
  refine j σ _ _ H d _ b.gh b.visG h λF' H' g=>?_
  have a:=b.grow (b.back g).1
  cases d with
  | true=>rw[t7 rfl];exact m Fb Hb _ H' ρ σ E a k
  | false=>rw[j6 u7];exact q Fb Hb _ H' ρ σ E a k
def RG (t:TG)(b:vL):Prop:=∀ (Fb Hb F H:Hp) (ρ c:SE) (σ:St) (d:D) (v:V) (Q:v7),Rl Fb Hb F H ρ σ->At F d v->b d ρ=some c->(∀ a,Rl Fb Hb F H c a->Q a H)->t v σ H Q
def RGs (t:TGs)(b:zm->SE->Option SE):Prop:=∀ (Fb Hb F H:Hp) (ρ e:SE) (σ:St) (c:zm) (d:zx) (Q:v7),Rl Fb Hb F H ρ σ->AtL F c d->b c ρ=some e->(∀ a,Rl Fb Hb F H e a->Q a H)->t d σ H Q
def BD (X:Cx)(a:Expr)(b:vL):Prop:=∃ t,PG X a t/\RG t b
def BDs (X:Cx)(a:y9)(b:zm->SE->Option SE):Prop:=∃ t,PGs X a t/\RGs t b
def wc (i:Nat):vL:=λd ρ=>some (ρ.set i (.v d))
def Zb (h:PG X a (Vv i)):BD X a (wc i):=by
 refine⟨_,h,λFb Hb F H ρ f σ d v Q b c e q=>?_⟩
 cases e
 exact q _ (b.set c)
def V0:zm->SE->Option SE
 | [],ρ=>some ρ
 | _,_=>none
def wQ (b:vL)(c:zm->SE->Option SE):zm->SE->Option SE
 | d::ds,ρ=>(b d ρ).bind (c ds)
 | [],_=>none
def zdh:BDs X [] V0:=by
 refine⟨_,zmv,λFb Hb F H ρ f σ a d Q b c e q=>?_⟩
 cases a with
 | nil=>cases e;exact⟨c.nil_inv,q _ b⟩
 | cons _ _=>cases e
def ZR {a:y9}{b:vL}{c:zm->SE->Option SE}(m:BD X e b)(n:BDs X a c)
 (v:(assignEach (e::a) X.env).map (·.2)=assign e X.env::(assignEach a X.env).map (·.2):=by rfl):BDs X (e::a) (wQ b c):=by
 obtain⟨t,p,r⟩:=m
 obtain⟨u,o,k⟩:=n
 refine⟨_,ziW p o v,λFb Hb F H ρ s σ g C Q j B e q=>?_⟩
 cases g with
 | nil=>cases e
 | cons d g =>
  obtain⟨x,h,rfl,y,w⟩:=B.cons_inv
  obtain⟨i,l,A⟩:=u4.mp e
  exact⟨x,h,rfl,r Fb Hb F H ρ i σ d x _ j y l λz f=>k Fb Hb F H i s z g h Q f w A q⟩
def Vu (n:Nat)(c:zm->SE->Option SE):vL
 | .tup ds,ρ=>if ds.length=n then c ds ρ else none
 | _,_=>none
def ziK {b:y9}{k:Nat}{n:Nat}{c:zm->SE->Option SE}(l:X.calm=true)(h:BDs X b c)
 (x:(assignEach b X.env).length=n:=by rfl) (f:(assignEach b X.env).findIdx? (·.1)=none:=by rfl):BD X (.Tuple b k pos) (Vu n c):=by
 obtain⟨t,p,r⟩:=h
 refine⟨_,zqi l p x f,λFb Hb F H ρ o σ d v Q g w e q=>?_⟩
 cases d with
 | tup s =>
  unfold Vu at e
  dsimp only at e
  split at e
  .rename_i u
   obtain⟨a,j,rfl,m,i⟩:=w.tup_inv
   exact⟨a,j,rfl,SqT.of (g.gr.fh _ _ m),by rw[i.length];exact u,r Fb Hb F H ρ o σ s j Q g i e q⟩
  .cases e
 | _=>cases e
def zea (m:Bool)(f:zU)(b:vL):zz:=fun ρ=>match (vEv m f ρ).bind λd=>b d ρ with
 | some ρ'=>.nx ρ'
 | none=>.no
def W4 (m:Bool)(i:Nat)(a b:zU):zz:=fun ρ=>match (vEv m b ρ).bind λd=>(a (visG ρ)).bind λk=>match ρ[i]?,k with
 | some (.o ds),.int k=>(ixN ds.length k).map λj=>ρ.set i (.o (ds.set j d))
 | _,_=>none with
 | some ρ'=>.nx ρ'
 | none=>.no
def zp7 {f:Expr}{w:zU}(R:ED X e y)(W:PE X a (Y2 i))(N:ED X f w)(l:swapsWithSole [.Subscript a f pos'] e pos.line X.env=pure false:=by rfl)(hw:swappedStores [.Subscript a f pos'] e X.env=pure none:=by rfl)(L:(assignEach [.Subscript a f pos'] X.env).map (·.2)=[assign (.Subscript a f pos') X.env]:=by rfl) (S:∀ v,assign (.Subscript a f pos') X.env v=(do
 let ov<-holding [v] (eval a X.env)
 let iv<-holding [v,ov] (eval f X.env)
 standAt pos'
 holding [v,ov,iv] (setItem ov iv v)
 release [v,ov,iv] []):=by intro _;rfl):SD X (.Assign [.Subscript a f pos'] e pos) (W4 m i w y):=by
 obtain⟨t,p,r⟩:=R
 obtain⟨tk,O,P⟩:=N
 refine⟨_,zo2 p (zpO W O zkG S) l hw L,λFb Hb F H ρ σ E B k=>?_⟩
 unfold W4 at k
 cases h:(vEv m y ρ).bind λd=>(w (visG ρ)).bind λk=>match ρ[i]?,k with
  | some (.o u),.int k=>(ixN u.length k).map λj=>ρ.set i (.o (u.set j d))
  | _,_=>none with
 | none=>rw[h]at k;exact k.elim
 | some Z =>
  rw[h]at k
  obtain⟨d,K,b⟩:=u4.mp h
  obtain⟨J,U,b⟩:=u4.mp b
  cases l:ρ[i]? with
  | none=>rw[l]at b;cases b
  | some Q =>
   rw[l]at b
   cases Q with
   | no=>cases b
   | v _=>cases b
   | m _ _ _=>cases b
   | k _ _ _=>cases b
   | o u =>
    cases J with
    | int V =>
     obtain⟨j,T,rfl⟩:=t4.mp b
     refine r.at B K λF' H' v g Y=>?_
     have c:=B.grow g
     obtain⟨q,xs,A,_⟩:=c.owns i u l
     refine⟨_,A,?_⟩
     refine P σ _ _ H' _ _ c.gh c.visG U λF3 H3 v3 I z=>?_
     obtain⟨C,_⟩:=c.back I
     have n:=c.grow C
     obtain⟨q3,x,s,_,_,M,G⟩:=n.owns i u l
     rw[A]at s
     cases s
     refine⟨q,x,V,j,rfl,z.int_inv,M,by rw[G.length];exact T,?_⟩
     exact k _ _ σ (n.mutate l A (G.set j (Y.mono C.ff)))
    | _=>cases b
end
end Dl
namespace L2
open PySem PySem.Spec PyProof.Rows
section
variable {X:Cx}{tg:Expr}
def iSeq (K:zv)(c:TE):TI:=fun σ H R=>c σ H λx H1=>(∃ a,x=.ref a/\(∃ b,SqL K H1 a b)/\R (Itl K a) H1)\/(∃ a,x=.ref a/\(∃ b,SqT K H1 a b)/\R (Itt K a) H1)
def zpb {k:TE}(r:PE X l k):PI X tg l (iSeq X.K k):=by
 intro d s σ H R I h
 refine thn (r d s σ H _ I h) λv c hh9=>?_
 obtain⟨x,H1,I1,j,m⟩:=hh9
 rcases m with ⟨a,e,⟨u,g⟩,q⟩ | ⟨a,e,⟨u,g⟩,q⟩
 .subst e
  cases j
  obtain⟨f,t,p,n⟩:=I1.list g
  refine u0M p.isList ?_
  refine⟨c.heap.objs.size,[c.heap.objs.size],_,_,H1,rfl,I1.kept (t':=c.toks) λb o e=>u6 _ e,ziI a _,⟨_,j8 _ rfl,rfl,rfl⟩,λb i=>?_,q⟩
  have e:b=c.heap.objs.size:=by simpa using i
  subst e
  exact I1.fpOk (t6 _) (I1.hok.fresh (t6 _))
 .subst e
  cases j
  obtain⟨f,t,p,n⟩:=I1.tuple g
  refine i9 (show c.heap.IsTuple a f.toArray from p) ?_
  refine⟨c.heap.objs.size,[c.heap.objs.size],_,_,H1,rfl,I1.kept (t':=c.toks) λb o e=>u6 _ e,zeM a _,⟨_,j8 _ rfl,rfl,rfl⟩,λb i=>?_,q⟩
  have e:b=c.heap.objs.size:=by simpa using i
  subst e
  exact I1.fpOk (t6 _) (I1.hok.fresh (t6 _))
end
end L2
namespace Dl
open PySem L2
variable [KK]
def zom (J:It)(F:Hp)(a:zm):Prop:=∀ (i:Nat) (F2 H2:Hp),zX F F2->zX F2 H2->(i=a.length->J.stop i H2) /\
 ∀ d,a[i]?=some d->J.go i H2/\∀ x H3,J.yld i H2 x H3->∃ F3,Gr F2 H2 F3 H3/\At F3 d x
def RI (b:TI)(f:yx):Prop :=
 ∀ (σ:St) (ρ:Ev) (F H:Hp) (a:zm) (R:It->Hp->Prop),zX F H->VAt F ρ σ->f ρ=some a->(∀ F' H' J,Gr F H F' H'->zom J F' a->R J H')->b σ H R
def ID (X:Cx)(c a:Expr)(f:yx):Prop:=∃ b,PI X c a b/\RI b f
def wk:D->Option zm
 | .lst a=>some a
 | .tup a=>some a
 | _=>none
section
variable {X:Cx}{tg a b c e:Expr}{pos:Pos}
def zoe {F:Hp}{p:Addr}{a:zx}{e:zm}(h:F p=some (.lst a))(g:AtL F e a):zom (Itl K p) F e:=by
 intro i F2 H2 j c
 have q:SqL K H2 p a:=SqL.of (c _ _ (j _ _ h))
 refine⟨λm=>⟨a,q,by rw[g.length,m];exact t6 _⟩,λd l=>?_⟩
 obtain⟨x,f,k⟩:=g.get l
 refine⟨⟨a,x,q,f⟩,λy H3 b=>?_⟩
 obtain⟨rfl,b⟩:=b
 have:=b a q
 rw[f]at this
 cases this
 exact⟨F2,.refl c,k.mono j⟩
def zoC {F:Hp}{p:Addr}{a:zx}{e:zm}(h:F p=some (.tup a))(g:AtL F e a):zom (Itt K p) F e:=by
 intro i F2 H2 j c
 have q:SqT K H2 p a:=SqT.of (c _ _ (j _ _ h))
 refine⟨λm=>⟨a,q,by rw[g.length,m];exact t6 _⟩,λd l=>?_⟩
 obtain⟨x,f,k⟩:=g.get l
 refine⟨⟨a,x,q,f⟩,λy H3 b=>?_⟩
 obtain⟨rfl,b⟩:=b
 have:=b a q
 rw[f]at this
 cases this
 exact⟨F2,.refl c,k.mono j⟩
def iOf (f:zU):yx:=fun ρ=>(f ρ).bind wk
def WZ {f:zU}(m:ED X a f):ID X tg a (iOf f):=by
 obtain⟨t,p,r⟩:=m
 refine⟨_,zpb p,fun σ ρ F H n R s j e q=>?_⟩
 obtain⟨d,k,l⟩:=u4.mp e
 refine r σ ρ F H d _ s j k λF1 H1 v c i=>?_
 cases d <;> try cases l
 .obtain⟨p,h,rfl,b,g⟩:=i.tup_inv
  exact .inr ⟨p,rfl,⟨h,SqT.of (c.fh _ _ b)⟩,q F1 H1 _ c (zoC b g)⟩
 .obtain⟨p,h,rfl,b,g⟩:=i.lst_inv
  exact .inl ⟨p,rfl,⟨h,SqL.of (c.fh _ _ b)⟩,q F1 H1 _ c (zoe b g)⟩
def VY (a:Int)(n:Nat):zm:=(List.range n).map λk:Nat=>.int (a+k)
def zhC (c:Int)(n:Nat):zom (Itr c n) F (VY c n):=by
 intro i F2 H2 j g
 have a:(VY c n).length=n:=by unfold VY;simp
 refine⟨λe=>by rw[a]at e;rw[e];exact t6 _,λd b=>?_⟩
 have f:i<n:=by
  have:=(j3.mp b).1
  omega
 refine⟨f,λy H3 h=>?_⟩
 obtain⟨rfl,rfl⟩:=h
 refine⟨F2,.refl g,?_⟩
 unfold VY at b
 rw[k9,List.getElem?_range f]at b
 cases b
 exact .int
@[irreducible] def zme (j:Int):Bool:=decide (-(2^62)<=j/\j<2^62)
omit [KK] in
def wA:zme j=true↔-(2^62)<=j/\j<2^62:=by unfold zme;exact decide_eq_true_iff
def Zl:zjX
 | [.int j]=>if zme j=true then some (VY 0 j.toNat)else none
 | _=>none
def zbj:zjX
 | [.int i,.int j]=>if zme i=true/\zme j=true then some (VY i (j-i).toNat)else none
 | _=>none
def VO (g:zjX)(f:yx):yx:=fun ρ=>(f ρ).bind g
def zfR {p:Pos} {f:yx} (l:Gl X "range") (g:X.mg "range"=none) (o:AD X [a] f) (h:starEach [a] X.env=[(false,eval a X.env)]:=by rfl):ID X tg (.Call (.Name "range" p) [a] [] pos) (VO Zl f):=by
 obtain⟨t,w,r⟩:=o
 refine⟨_,zbN l g w h,fun σ ρ F H y R s i e q=>?_⟩
 obtain⟨d,m,b⟩:=u4.mp e
 refine r σ ρ F H d _ s i m λF1 H1 v k j=>?_
 unfold Zl at b
 split at b
 .split at b
  .cases b
   rename_i c
   obtain⟨x,z,rfl,n,u⟩:=j.cons_inv
   cases u.nil_inv
   exact⟨_,by rw[n.int_inv],(wA.mp c).1,(wA.mp c).2,q F1 H1 _ k (zhC 0 _)⟩
  .cases b
 .cases b
def zgd {p:Pos} {f:yx} (k:Gl X "range") (j:X.mg "range"=none) (z:AD X [a,b] f) (m:starEach [a,b] X.env=[(false,eval a X.env),(false,eval b X.env)]:=by rfl) (h:starEach [b] X.env=[(false,eval b X.env)]:=by rfl) :
 ID X tg (.Call (.Name "range" p) [a,b] [] pos) (VO zbj f):=by
 obtain⟨t,C,r⟩:=z
 refine⟨_,zig k j C m h,fun σ ρ F H E R s n e q=>?_⟩
 obtain⟨d,l,c⟩:=u4.mp e
 refine r σ ρ F H d _ s n l λF1 H1 v u o=>?_
 unfold zbj at c
 split at c
 .split at c
  .cases c
   rename_i g
   obtain⟨x,B,rfl,w,i⟩:=o.cons_inv
   obtain⟨y,B,rfl,A,i⟩:=i.cons_inv
   cases i.nil_inv
   exact⟨_,_,by rw[w.int_inv,A.int_inv],⟨(wA.mp g.1).1,(wA.mp g.1).2,(wA.mp g.2).1,(wA.mp g.2).2⟩,q F1 H1 _ u (zhC _ _)⟩
  .cases c
 .cases c
def XM (n:Nat):zm->zm
 | []=>[]
 | d::ds=>.tup [.int n,d]::XM (n+1) ds
omit [KK] in
def vg (a:zm):∀ (n i:Nat),(XM n a)[i]?=(a[i]?).map λd=>.tup [.int ((n+i:Nat):Int),d]:=by
 induction a with
 | nil=>intro n i;simp[XM]
 | cons d a b =>
  intro n i
  cases i with
  | zero=>simp[XM]
  | succ i =>
   show(XM (n+1) a)[i]?=(a[i]?).map _
   rw[b]
   have:n+1+i=n+(i+1):=by omega
   rw[this]
omit [KK] in
def xP (ds:zm):∀ n,(XM n ds).length=ds.length:=by
 induction ds with
 | nil=>intro n;rfl
 | cons d ds a=>intro n;simp[XM,a]
def xX (f:yx):yx:=fun ρ=>(f ρ).bind λa=>match a with
 | [d]=>(wk d).map (XM 0)
 | _=>none
def zcD {k:Nat} {p:Pos} {f:yx} (K:Gl X "enumerate") (I:X.mg "enumerate"=none) (W:bootBuiltins "enumerate"=some (.type "enumerate")) (U:AD X [a] f) (N:starEach [a] X.env=[(false,eval a X.env)]:=by rfl):ID X (.Tuple G k J) (.Call (.Name "enumerate" p) [a] [] pos) (xX f):=by
 obtain⟨t,S,r⟩:=U
 refine⟨_,zmi K I W S N,fun σ ρ F H Z R s P e q=>?_⟩
 obtain⟨O,L,E⟩:=u4.mp e
 refine r σ ρ F H O _ s P L λF1 H1 v A Q=>?_
 split at E
 .obtain⟨x,r',rfl,l,Y⟩:=Q.cons_inv
  cases Y.nil_inv
  obtain⟨G,V,rfl⟩:=t4.mp E
  rename_i d
  cases d <;> try cases V
  .obtain⟨p,c,rfl,n,o⟩:=l.tup_inv
   refine⟨p,rfl,.inr ⟨c,SqT.of (A.fh _ _ n),q F1 H1 _ A λi F2 H2 w z=>?_⟩⟩
   have j:SqT X.K H2 p c:=SqT.of (z _ _ (w _ _ n))
   refine⟨λC=>⟨c,j,by rw[o.length,C,xP];exact t6 _⟩,λd u=>?_⟩
   rw[vg]at u
   obtain⟨M,g,rfl⟩:=t4.mp u
   obtain⟨x,b,l⟩:=o.get g
   refine⟨⟨c,x,j,b⟩,λy H3 h=>?_⟩
   obtain⟨T,y,rfl,B,rfl,h⟩:=h
   have:=h c j
   rw[b]at this
   cases this
   have m:=Gr.alloc z B (.tup [.int i,x])
   exact⟨_,m,.tup zl (.cons (by rw[g8];exact .int) (.cons (l.mono (w.trans m.ff)) .nil))⟩
  .obtain⟨p,c,rfl,n,o⟩:=l.lst_inv
   refine⟨p,rfl,.inl ⟨c,A.fh _ _ n,q F1 H1 _ A λi F2 H2 w z=>?_⟩⟩
   have j:SqL X.K H2 p c:=SqL.of (z _ _ (w _ _ n))
   refine⟨λC=>⟨c,j,by rw[o.length,C,xP];exact t6 _⟩,λd u=>?_⟩
   rw[vg]at u
   obtain⟨M,g,rfl⟩:=t4.mp u
   obtain⟨x,b,l⟩:=o.get g
   refine⟨⟨c,x,j,b⟩,λy H3 h=>?_⟩
   obtain⟨T,y,rfl,B,rfl,h⟩:=h
   have:=h c j
   rw[b]at this
   cases this
   have m:=Gr.alloc z B (.tup [.int i,x])
   exact⟨_,m,.tup zl (.cons (by rw[g8];exact .int) (.cons (l.mono (w.trans m.ff)) .nil))⟩
 .cases E
def hb2 (F1 Hb:Hp):Hp:=λp=>match F1 p with
 | some o=>some o
 | none=>Hb p
def YN {F1 Hb:Hp}{p:Addr}(h:F1 p=none):hb2 F1 Hb p=Hb p:=by unfold hb2;rw[h]
def zd5 {F1:Hp}{p:Addr}(h:F1 p=some o):hb2 F1 Hb p=some o:=by unfold hb2;rw[h]
def Gr.up (c:Gr Fb Hb F1 H1)(g:Gr F1 (hb2 F1 Hb) F H):Gr Fb Hb F H:=by
 refine⟨c.ff.trans g.ff,g.fh,λp o e a=>?_⟩
 rcases(c.kp p o e a).1 with n | ⟨d,b⟩
 .exact g.kp p o n (by rw[YN n];exact a)
 .exact⟨.inr ⟨d,g.ff _ _ b⟩,g.fh _ _ (g.ff _ _ b)⟩
def Gr.dn (g:Gr Fb Hb F H)(c:zX Fb F1)(s:zX F1 F):Gr F1 (hb2 F1 Hb) F H:=by
 refine⟨s,g.fh,λp o b a=>?_⟩
 rw[YN b]at a
 exact g.kp p o (c.free b) a
def Rl.up (g:Gr Fb Hb F1 H1)(r:Rl F1 (hb2 F1 Hb) F H ρ σ):Rl Fb Hb F H ρ σ:=by
 have b:∀ {p:Addr},hb2 F1 Hb p=none->Hb p=none:=λ{p} e=>by
  cases h:F1 p with
  | none=>rw[YN h]at e;exact e
  | some o=>rw[zd5 h]at e;cases e
 refine⟨g.up r.gr,r.vals,λi s e m=>?_,r.dis,r.len,r.dk.step (λ_ _ _ _ e=>⟨e,rfl⟩) (zX.refl _) λi w h n p v q x u t c d a k j f l=>⟨a,b k,j,f,l⟩⟩
 obtain⟨p,o,c,d,a⟩:=r.ows i s e m
 exact⟨p,o,c,b d,a⟩
def Rl.dn (r:Rl Fb Hb F H ρ σ)(j:zX Fb F1)(s:zX F1 F):Rl F1 (hb2 F1 Hb) F H ρ σ:=by
 refine⟨r.gr.dn j s,r.vals,λi t e l=>?_,r.dis,r.len,r.dk.step (λ_ _ _ _ e=>⟨e,rfl⟩) (zX.refl _) λi w h m p v q x u n c f a b d g k=>⟨a,by rw[YN (s.free d)];exact b,d,g,k⟩⟩
 obtain⟨p,o,c,f,a,b⟩:=r.ows i t e l
 refine⟨p,o,c,?_,a,b⟩
 rw[YN (s.free a)]
 exact f
def zel (b:vL)(g:zz):zm->SE->Ctl
 | [],ρ=>.nx ρ
 | d::ds,ρ=>match b d ρ with
  | none=>.no
  | some c=>match g c with
   | .nx a=>zel b g ds a
   | .ct a=>zel b g ds a
   | .bk a=>.nx a
   | .rt d=>.rt d
   | .no=>.no
noncomputable def XG (f:yx)(b:vL)(g:zz):zz:=fun ρ=>match f (visF ρ) with
 | some a=>zel b g a ρ
 | none=>.no
def zlP {E:Vp}{J:It}{g:TG}{a:zm}{b:vL}(q:zom J F1 a)(P:RG g b)(O:RS G l)(c:Rl Fb Hb F1 H1 ρ σ)(k:SOk Fb Hb E (zel b l a ρ)) :
 ∃ W:Nat->Nat->St->Hp->Prop,(∃ m,W 0 m σ H1)/\∀ i m σ H,W i m σ H ->
  (J.stop i H/\E.nx σ H)\/(J.go i H/\∃ N:v7,(∀ p H',N p H'->∃ A,A<m/\W (i+1) A p H')/\∀ x H',J.yld i H x H'->g x σ H' λu H2=>G { E with nx:=N,ct:=N,bk:=E.nx } u H2):=by
 refine⟨λi m σ H=>m=a.length-i/\i<=a.length/\∃ F ρ,zX F1 F/\Rl Fb Hb F H ρ σ/\SOk Fb Hb E (zel b l (a.drop i) ρ),⟨a.length,by simp,u0b _,F1,ρ,zX.refl _,c,k⟩,?_⟩
 rintro i m σ H ⟨rfl,V,F,ρ,C,t,k⟩
 obtain⟨n,U⟩:=q i F H C t.gr.fh
 by_cases f:i<a.length
 .have I:a.drop i=a[i]::a.drop (i+1):=u0a f
  rw[I]at k
  unfold zel at k
  obtain⟨L,S⟩:=U a[i] (by simp[f])
  refine .inr ⟨L,fun σ H=>∃ F ρ,zX F1 F/\Rl Fb Hb F H ρ σ/\SOk Fb Hb E (zel b l (a.drop (i+1)) ρ),λp H' w=>⟨a.length-(i+1),by omega,rfl,f,w⟩,λx H' K=>?_⟩
  obtain⟨F3,B,M⟩:=S x H' K
  cases r:b a[i] ρ with
  | none=>rw[r]at k;exact k.elim
  | some y =>
   rw[r]at k
   dsimp only at k
   refine P Fb Hb F3 H' ρ y σ _ x _ (t.grow B) M r λu z=>?_
   have Q:=C.trans B.ff
   refine O F1 (hb2 F1 Hb) F3 H' y u _ (z.dn c.gr.ff Q) ?_
   cases j:l y with
   | nx o=>rw[j]at k;exact λF4 H4 s h=>⟨F4,o,h.gr.ff,h.up c.gr,k⟩
   | ct o=>rw[j]at k;exact λF4 H4 s h=>⟨F4,o,h.gr.ff,h.up c.gr,k⟩
   | bk o=>rw[j]at k;exact λF4 H4 s h=>k F4 H4 s (h.up c.gr)
   | rt d=>rw[j]at k;exact λF4 H4 v T R=>k F4 H4 v (c.gr.up T) R
   | no=>rw[j]at k;exact k.elim
 .have e:i=a.length:=by omega
  subst e
  rw[u0R]at k
  exact .inl ⟨n rfl,k F H σ t⟩
def zlz {a:Expr}{c:wU}{f:yx}{b:vL}{g:zz}(w:PassesOwn (model X.prog X.w) X.A X.env X.xe)(e:X.calm=true)(j:ID X tg a f)(i:BD X tg b)(t:SDs X c g)
 (p:∀ x,foldedSetIterable a X.env x=pure x:=by intro _;rfl):SD X (.For tg a c [] pos) (XG f b g):=by
 obtain⟨y,m,s⟩:=j
 obtain⟨o,n,u⟩:=i
 obtain⟨z,l,v⟩:=t
 refine⟨_,zd0 w e m n l p,λFb Hb F H ρ σ E d k=>?_⟩
 unfold XG at k
 cases h:f (visF ρ) with
 | none=>rw[h]at k;exact k.elim
 | some q =>
  rw[h]at k
  exact s σ _ _ H q _ d.gr.fh d.visF h λF1 H1 J r ok=>zlP ok u v (d.grow r) k
end
def lcD (b:zbB)(t:vr)(f:zU)(ρ:Ev):zjX
 | []=>some []
 | d::ds=>(b d).bind λown=>(t (own++ρ)).bind λc=>if c=true then (f (own++ρ)).bind λy=>(lcD b t f ρ ds).map (y::·)else lcD b t f ρ ds
def fLC (i:yx)(b:zbB)(t:vr)(f:zU):yx:=fun ρ=>(i ρ).bind λa=>if lim a.length=true then lcD b t f ρ a else none
def b1:zbB:=λd=>some [some d]
def b2:zbB
 | .tup [x,y]=>some [some x,some y]
 | _=>none
def RB (n:Nat)(t:TG)(b:zbB):Prop:=∀ (σ:St) (ρ:Ev) (F H:Hp) (d:D) (v:V) (own:List (Option D)) (Q:v7),zX F H->VAt F ρ σ->At F d v->b d=some own->(∀ a,VAt F (own++ρ) a->Q a H)->t v (List.replicate n none++σ) H Q
def xp:vr:=λ_=>some true
def zlo:RT tYes xp:=λ_ _ _ _ _ _ s _ e q=>by cases e;exact q _ _ (.refl s)
def zmO {g:TG}{tt:TT}(ri:RI wi fi)(rg:RB n g b)(rt:RT tt X)(re:RE te fe) :
 RF (tLC wi n g tt te) (fLC fi b X fe):=by
 intro σ ρ F H S Q s va e q
 obtain⟨a,e1,M⟩:=u4.mp e
 split at M <;> try cases M
 rename_i w
 have w:a.length<=sizeLine:=k8 w
 refine ri σ ρ F H a _ s va e1 λF1 H1 J A ok=>?_
 intro P G
 have O:F1 P=none:=A.fh.free G
 have a0:H P=none:=by
  cases e:H P with
  | none=>rfl
  | some o =>
   cases M:F P with
   | none=>rw[(A.kp P o M e).2]at G;cases G
   | some u=>rw[A.fh _ _ (A.ff _ _ M)]at G;cases G
 refine⟨λi m L H2=>m=a.length-i/\i<=a.length/\∃ F2 done,Gr F1 H1 F2 H2/\Gr F1 (upd H1 P (.lst [])) F2 (upd H2 P (.lst []))/\F2 P=none/\H2 P=some (.lst L)/\AtL F2 done L/\done.length<=i/\∃ c,lcD b X fe ρ (a.drop i)=some c/\done++c=S,⟨a.length,by simp,u0b _,F1,[],Gr.hide A.fh G _,?_,O,zl,.nil,u0b _,S,M,rfl⟩,?_⟩
 .rw[zhB]
  exact .refl λb u z=>by rw[zi (ze z O)];exact A.fh b u z
 rintro i m L H2 ⟨rfl,hi,F2,done,B,a4,K,I,U,a2,c,d,f⟩
 obtain⟨T,go⟩:=ok i F2 H2 B.ff B.fh
 by_cases p:i<a.length
 .have hd:a.drop i=a[i]::a.drop (i+1):=u0a p
  rw[hd]at d
  unfold lcD at d
  obtain⟨own,hb,d⟩:=u4.mp d
  obtain⟨cb,hc,d⟩:=u4.mp d
  obtain⟨k1,k2⟩:=go a[i] (by simp[p])
  refine .inr ⟨k1,by rw[U.length];omega,λx H3 hy=>?_⟩
  obtain⟨F3,V,a3⟩:=k2 x H3 hy
  refine rg σ ρ F3 H3 a[i] x own _ V.fh (va.mono (A.ff.trans (B.ff.trans V.ff))) a3 hb fun σ4 N=>?_
  refine rt σ4 _ F3 H3 cb _ V.fh N hc λF5 H5 Z=>?_
  have l:=V.trans Z
  obtain⟨W,h5⟩:=l.kl (λ_ e=>by cases e) K I
  have j:∀ {F6 H6:Hp} {o:HO},Gr F2 H2 F6 H6->F6 P=none->Gr F1 (upd H1 P (.lst [])) F6 (upd (upd H6 P o) P (.lst [])):=λ{F6 H6 o} r C=>by
   rw[zhB]
   refine⟨B.ff.trans r.ff,λb u z=>?_,λb u Y E=>?_⟩
   .rw[zi (ze z C)];exact r.fh b u z
   .by_cases h:b=P
    .subst h
     rw[zl]at E ⊢
     exact⟨.inl C,E⟩
    .rw[zi h]at E ⊢
     exact(B.trans r).kp b u Y E
  have k:∀ {F6 H6:Hp} {o:HO},Gr F2 H2 F6 H6->F6 P=none->Gr F1 H1 F6 (upd H6 P o):=λ{F6 H6 o} r C=>by
   refine⟨B.ff.trans r.ff,λb u z=>?_,λb u Y E=>?_⟩
   .rw[zi (ze z C)];exact r.fh b u z
   .rw[zi (ze E G)]
    exact(B.trans r).kp b u Y E
  cases cb with
  | false =>
   rw[j6 u7]at d ⊢
   have R:H5=upd H5 P (.lst L):=by
    funext b
    by_cases h:b=P
    .subst h;rw[zl];exact h5
    .rw[zi h]
   refine⟨a.length-(i+1),by omega,rfl,p,F5,done,?_,?_,W,h5,U.mono l.ff,by omega,c,d,f⟩
   .rw[R];exact k l W
   .have:=j (o:=.lst L) l W
    rw[<-R]at this
    exact this
  | true =>
   rw[t7 rfl]at d ⊢
   obtain⟨y,hy,d⟩:=u4.mp d
   obtain⟨rest,a1,rfl⟩:=t4.mp d
   refine re σ4 _ F5 H5 y _ Z.fh (N.mono Z.ff) hy λF6 H6 v r a6=>?_
   have t:=l.trans r
   obtain⟨C,h6⟩:=t.kl (λ_ e=>by cases e) K I
   refine⟨h6,a.length-(i+1),by omega,rfl,p,F6,done++[y],k t C,j t C,C,zl,(U.mono t.ff).snoc a6,by rw[j4];simp;omega,rest,a1,by rw[<-f,u04];rfl⟩
 .have e:i=a.length:=by omega
  subst e
  rw[u0R]at d
  cases d
  rw[r8]at f
  subst f
  exact .inl ⟨T rfl,q F2 H2 P L (A.trans B) a0 K I U⟩
def rb1:RB 1 (Vv 0) b1:=by
 intro σ ρ F H d v own Q s a c e q
 cases e
 refine q _ λi b h=>?_
 cases i with
 | zero=>cases h;exact⟨v,rfl,c⟩
 | succ i=>exact a i b h
def tCan (f:zU):TE:=fun σ H Q=>∃ ρ F d,zX F H/\VAt F ρ σ/\f ρ=some d/\∀ F' H' v,Gr F H F' H'->At F' d v->Q v H'
def zo3 (f:vr):TT:=fun σ H Q=>∃ ρ F d,zX F H/\VAt F ρ σ/\f ρ=some d/\∀ F' H',Gr F H F' H'->Q d H'
def ED.can {f:zU}(h:ED X e f):PE X e (tCan f):=by
 obtain⟨t,p,r⟩:=h
 rintro a s σ H Q I ⟨ρ,F,d,c,i,b,g⟩
 exact p a s σ H Q I (r σ ρ F H d Q c i b g)
def TD.can {f:vr}(h:TD X e f):PT X e (zo3 f):=by
 obtain⟨t,p,r⟩:=h
 rintro a s σ H Q I ⟨ρ,F,d,c,i,b,g⟩
 exact p a s σ H Q I (r σ ρ F H d Q c i b g)
def zgk {f:zU}:RE (tCan f) f:=λ_ ρ F _ d _ a c e b=>⟨ρ,F,d,a,c,e,b⟩
def zpW {f:vr}:RT (zo3 f) f:=λ_ ρ F _ d _ a c e b=>⟨ρ,F,d,a,c,e,b⟩
def zd3 {X:Cx}{d:Expr}{L:zH}{k:zU}{g:TG}(o:X.calm=true)(S:wv X L M a i)(q:ID X e c l)(f:∀ (σ:St) (v:V) (H:Hp) (Q:v7),g v (List.replicate L.length none++σ) H Q->g v (List.replicate L.length none++σ) H (λm H2=>Xt (List.replicate L.length none++σ) m/\Q m H2))(j:RB L.length g b)(p:∀ s₀ H₀ ex pn,PG (XV X L M a i s₀ H₀ ex pn) e g)(r:∀ s₀ H₀ ex pn,ED (XV X L M a i s₀ H₀ ex pn) d k)(n:∀ x,foldedSetIterable c X.env x=pure x:=by intro _;rfl):FL X (.ListComp d [⟨e,c,[],0⟩] a h) (fLC l b xp k):=by
 obtain⟨u,s,t⟩:=q
 exact⟨_,zlv o S s f p (λ_ _ _ _=>zf6) (λ_ _ _ _=>(r _ _ _ _).can) n,zmO t j zlo zgk⟩
def zoc {X:Cx}{d:Expr}{L:zH}{f:Vr}{g:TG}(q:X.calm=true)(S:wv X L M a f)(s:ID X j d o)(k:∀ (σ:St) (v:V) (H:Hp) (Q:v7),g v (List.replicate L.length none++σ) H Q->g v (List.replicate L.length none++σ) H (λl H2=>Xt (List.replicate L.length none++σ) l/\Q l H2))(i:RB L.length g b)(r:∀ s₀ H₀ ex pn,PG (XV X L M a f s₀ H₀ ex pn) j g)(p:∀ s₀ H₀ ex pn,TD (XV X L M a f s₀ H₀ ex pn) c m)(w:∀ s₀ H₀ ex pn,ED (XV X L M a f s₀ H₀ ex pn) e n)(u:∀ x,foldedSetIterable d X.env x=pure x:=by intro _;rfl):FL X (.ListComp e [⟨j,d,[c],0⟩] a h) (fLC o b m n):=by
 obtain⟨z,t,y⟩:=s
 exact⟨_,zlv q S t k r (λ_ _ _ _=>znc (p _ _ _ _).can) (λ_ _ _ _=>(w _ _ _ _).can) u,zmO y i zpW zgk⟩
def zn9 {t:TE}{f:yx}(r:RF t f):RE t (xq f):=by
 intro σ ρ F H d Q s i e q
 obtain⟨h,k,rfl⟩:=t4.mp e
 refine r σ ρ F H h Q s i k λF' H' p m g h0 a c j=>?_
 have l:=g.show h0 a c
 exact q _ _ _ l (At.lst zl (j.mono (λb u e=>by rw[zi (ze e a)];exact e)))
def FLS (X:Cx)(i:Nat)(a:Stmt)(f:yx):Prop:=∃ t,PS X a (zn5 t (Vv i))/\RF t f
def zc7 {f:yx}(c:FLS X i a f):SD X a (xD m i (xq f)):=by
 obtain⟨t,p,r⟩:=c
 refine⟨_,p,λFb Hb F H ρ σ E b k=>?_⟩
 unfold xD at k
 cases h:vEv m (xq f) ρ with
 | none=>rw[h]at k;exact k.elim
 | some d =>
  rw[h]at k
  exact(zn9 r).at b h λF' H' v g e=>k F' H' _ ((b.grow g).set e)
def zcJ {i:Nat}{d:Pos}{X:Cx}{L:zH}{f:Pos}{p:yx}{g:TG}(C:X.N.Nodup)(n:X.N[i]?=some x)(B:Loc X.env.scope x)(s:X.calm=true)(S:wv X L M a j)(u:ID X h c p)(m:∀ (σ:St) (v:V) (H:Hp) (Q:v7),g v (List.replicate L.length none++σ) H Q->g v (List.replicate L.length none++σ) H (λo H2=>Xt (List.replicate L.length none++σ) o/\Q o H2))(k:RB L.length g b)(t:∀ s₀ H₀ ex pn,PG (XV X L M a j s₀ H₀ ex pn) h g)(z:∀ s₀ H₀ ex pn,ED (XV X L M a j s₀ H₀ ex pn) e q)(y:∀ x,foldedSetIterable c X.env x=pure x:=by intro _;rfl)(l:swapsWith (.ListComp e [⟨h,c,[],0⟩] a f) (some (.Name x r)) d.line X.env=pure true:=by rfl)(E:X.fn x=true\/X.env.scope.names.lookup x=some .local:=by first | exact .inl rfl | exact .inr rfl | assumption):FLS X i (.Assign [.Name x r] (.ListComp e [⟨h,c,[],0⟩] a f) d) (fLC p b xp q):=by
 obtain⟨F,w,A⟩:=u
 exact⟨_,zoD C n B s S w m t (λ_ _ _ _=>zf6) (λ_ _ _ _=>(z _ _ _ _).can) y l E,zmO A k zlo zgk⟩
noncomputable def fnD (n:Nat)(g:zz)(a:zm):Option D:=match g (a.map .v++List.replicate (n-a.length) .no) with
 | .rt d=>some d
 | .nx _=>some .non
 | _=>none
def spD (m:Nat)(p:wm):Sp:=λb H Q _=>∃ a d F,a.length=m/\zX F H/\AtL F a b/\p a=some d/\∀ F' H' v,Gr F H F' H'->At F' d v->Q v H'
def X5 {N:zH}{b:zm}{k:zx}(s:zX F H)(a:AtL F b k):Rl F H F H (b.map .v++List.replicate (N.length-b.length) .no) (L2.start N k):=by
 have l:=a.length
 have c:∀ (i:Nat) (t:Sl),(b.map Sl.v++List.replicate (N.length-b.length) Sl.no)[i]?=some t->t.isO=true->False:=λi t h g=>by
  by_cases f:i<b.length
  .rw[o9 (by simpa using f),k9]at h
   cases e:b[i]? with
   | none=>rw[e]at h;cases h
   | some d=>rw[e]at h;cases h;cases g
  .rw[o7 (by simpa using f),u0f]at h
   split at h <;> cases h
   cases g
 refine⟨.refl s,λi d h=>?_,λi t h g=>(c i t h g).elim,λi j p t u h _ g=>(c i t h g).elim,?_,λi w h o e=>(c i _ e rfl).elim⟩
 .by_cases f:i<b.length
  .rw[o9 (by simpa using f),k9]at h
   cases e:b[i]? with
   | none=>rw[e]at h;cases h
   | some q =>
    rw[e]at h
    cases h
    obtain⟨x,m,n⟩:=a.get e
    refine⟨x,?_,n⟩
    unfold L2.start
    rw[o9 (by simpa [l]using f),k9,m]
    rfl
  .rw[o7 (by simpa using f),u0f]at h
   split at h <;> cases h
 .unfold L2.start
  simp[l]
def Vo {w:World}{f:Addr}{N ps:zH}{k:Nat}{g:zz}(Fu:Fun K x b l f n)(S:yz N ps (zk l))(D:∀ (c:Value) (A:zR) (outer:List Env) (s:zn) (H:Hp) (E:XK),xk k (A.deeper (PyProof.Rows.envOfC b (zk l) s.heap.objs.size f c))->SDs (wZ CX0 P w K u i N b (zk l) f c A outer s H E).nox (ya l) g) :
 xB P w K u i CX0 (k+1) f n ps (spD ps.length (fnD N.length g)):=by
 refine Fu.ok S (λz H Q E h=>?_) λc A outer s H z Q E B h=>?_
 .obtain⟨m,d,F,o,_,a,_⟩:=h
  rw[a.length];exact o
 .obtain⟨m,d,F,o,C,a,e,q⟩:=h
  obtain⟨t,p,r⟩:=D c A outer s H E B
  refine⟨t,p,r F H F H _ _ _ (X5 C a) ?_⟩
  unfold fnD at e
  cases j:g (m.map .v++List.replicate (N.length-m.length) .no) with
  | rt I=>rw[j]at e;cases e;exact λF' H' v g G=>q F' H' v g G
  | nx ρ=>rw[j]at e;cases e;exact λF' H' σ y=>q F' H' _ y.gr .non
  | bk ρ=>rw[j]at e;cases e
  | ct ρ=>rw[j]at e;cases e
  | no=>rw[j]at e;cases e
def wE {w:World}{f:Addr}{g:wh}{k:Nat}{p q:wm}(F:xB P w K i a CX0 k f g c (spD m p))(h:∀ b d,b.length=m->q b=some d->p b=some d):xB P w K i a CX0 k f g c (spD m q) :=
 F.imp λr H Q E ⟨b,d,F',e,l,n,o,j⟩=>⟨b,d,F',e,l,n,h b d e o,j⟩
def zo (m:Nat)(p:wm)(f:yx):zU:=fun ρ=>(f ρ).bind λds=>if ds.length=m then p ds else none
def znO {X:Cx} {k:Nat} {f:Addr} {p:wm} (F:xB X.prog X.w X.K X.mg X.base CX0 k f l j (spD m p)) (K:xk k X.A) (w:Gl X x) (J:X.mg x=some (.ref f)) (z:W.keepIn X.K (.ref f)=true) (G:xG X.K l j []) (L:AD X (e::b) u) (i:(x == ("__debug__":Str))=false:=by decide) (E:starEach (e::b) X.env=(false,eval e X.env)::starEach b X.env:=by rfl) (c:(backTo a (starEach b X.env)).any (·.1)=false:=by rfl) :
 ED X (.Call (.Name x M) (e::b) [] a) (zo m p u):=by
 obtain⟨t,C,r⟩:=L
 refine⟨_,zah F K w J z G .nil zaG C i E c,fun σ ρ F0 H d Q s A e q=>?_⟩
 obtain⟨n,y,h⟩:=u4.mp e
 split at h <;> try cases h
 rename_i I
 refine r σ ρ F0 H n _ s A y λF1 H1 O o B=>?_
 refine⟨n,d,F1,I,o.fh,by rw[r8];exact B,h,λF' H' v g N=>q F' H' v (o.trans g) N⟩
end Dl
namespace Dl
open PySem L2
variable [KK]
section
variable {X:Cx}{a b c e:Expr}{pos:Pos}
def zL:bootBuiltins "isinstance"=some (.builtin "isinstance"):=by decide +kernel
def Yo:bootBuiltins "len"=some (.builtin "len"):=by decide +kernel
def zp9:bootBuiltins "min"=some (.builtin "min"):=by decide +kernel
def zp3:bootBuiltins "max"=some (.builtin "max"):=by decide +kernel
def zfE:bootBuiltins "sorted"=some (.builtin "sorted"):=by decide +kernel
def zor:bootBuiltins "sum"=some (.builtin "sum"):=by decide +kernel
def zlH:bootBuiltins "all"=some (.builtin "all"):=by decide +kernel
def zdJ:bootBuiltins "int"=some (.type "int"):=by decide +kernel
def zgo:bootBuiltins "bool"=some (.type "bool"):=by decide +kernel
def zem:bootBuiltins "tuple"=some (.type "tuple"):=by decide +kernel
def zap:bootBuiltins "list"=some (.type "list"):=by decide +kernel
def Wx:bootBuiltins "str"=some (.type "str"):=by decide +kernel
def Yt:bootBuiltins "enumerate"=some (.type "enumerate"):=by decide +kernel
def zpV:bootBuiltins "zip"=some (.type "zip"):=by decide +kernel
def zaN (C:Int->Int->Bool)(g:Int->Int->Int):xz
 | .int i,.int j=>if C i j=true then some (.int (g i j))else none
 | _,_=>none
def v6 (g:Int->Int->Int):xz
 | .int i,.int j=>some (.int (g i j))
 | _,_=>none
def za8 (g:Int->Int->Bool):xz
 | .int i,.int j=>some (.bl (g i j))
 | _,_=>none
def za2 {C:Int->Int->Prop}{Cb:Int->Int->Bool}{g:Int->Int->Int}(h:∀ i j,Cb i j=true->C i j):OpD (rI C λi j=>.int (g i j)) (zaN Cb g):=by
 intro F H x y d e z Q s c f a q
 cases d <;> try cases a
 cases e <;> try cases a
 unfold zaN at a
 dsimp only at a
 split at a <;> cases a
 rename_i b
 exact⟨_,_,c.int_inv,f.int_inv,h _ _ b,q F H _ (.refl s) .int⟩
def zcc {g:Int->Int->Int}:OpD (rI0 λi j=>.int (g i j)) (v6 g):=by
 intro F H x y d e z Q s b c a q
 cases d <;> try cases a
 cases e <;> try cases a
 exact⟨_,_,b.int_inv,c.int_inv,q F H _ (.refl s) .int⟩
def xU {g:Int->Int->Bool}:OpD (rI0 λi j=>.bl (g i j)) (za8 g):=by
 intro F H x y d e z Q s b c a q
 cases d <;> try cases a
 cases e <;> try cases a
 exact⟨_,_,b.int_inv,c.int_inv,q F H _ (.refl s) .bl⟩
def zby {r i:R2}{g j:xz}(h:OpD r g)(k:OpD i j):OpD (λx y H Q=>r x y H Q\/i x y H Q) (λd e=>(g d e).or (j d e)):=by
 intro F H x y d e z Q s c f a q
 dsimp only at a
 cases b:g d e with
 | some l=>rw[b]at a;cases a;exact .inl (h F H x y d e z Q s c f b q)
 | none=>rw[b]at a;exact .inr (k F H x y d e z Q s c f a q)
def zqy:xz
 | .tup a,.tup b=>if lim (a.length+b.length)=true then some (.tup (a++b))else none
 | _,_=>none
def zjq:D->D->Option zm
 | .lst a,.lst b=>if lim (a.length+b.length)=true then some (a++b)else none
 | _,_=>none
def zhN (d e:D):Option D:=(zjq d e).map .lst
def zo8:xz
 | .str a,.str b=>if lim (a.length+b.length)=true then some (.str (a++b))else none
 | _,_=>none
def zj7:OpD (zlt K) zqy:=by
 intro F H x y d e z Q s l n a q
 cases d <;> try cases a
 cases e <;> try cases a
 unfold zqy at a
 dsimp only at a
 split at a <;> cases a
 rename_i t
 obtain⟨p,h,rfl,f,b⟩:=l.tup_inv
 obtain⟨o,i,rfl,c,bl⟩:=n.tup_inv
 refine⟨p,o,h,i,rfl,rfl,SqT.of (s _ _ f),SqT.of (s _ _ c),by rw[b.length,bl.length];exact k8 t,λj=>?_,λ_ m=>?_,λ_ _ r k=>?_⟩
 .subst j
  have:(_:zm)=[]:=u0g.mp b.length.symm
  subst this
  exact q F H _ (.refl s) (.tup c bl)
 .subst m
  have:(_:zm)=[]:=u0g.mp bl.length.symm
  subst this
  rw[r8]at q
  exact q F H _ (.refl s) (.tup f b)
 .have g:=Gr.alloc s k (.tup (h++i))
  exact q _ _ _ g (.tup zl ((b.append bl).mono g.ff))
def zkz:OpD zrw zhN:=by
 intro F H x y d e z Q s j l a q
 cases d <;> try cases a
 cases e <;> try cases a
 unfold zhN zjq at a
 dsimp only at a
 split at a <;> cases a
 rename_i n
 obtain⟨p,c,rfl,i,b⟩:=j.lst_inv
 obtain⟨m,f,rfl,h,bl⟩:=l.lst_inv
 refine⟨p,m,c,f,rfl,rfl,s _ _ i,s _ _ h,by rw[b.length,bl.length];exact k8 n,λr k=>?_⟩
 have g:=Gr.alloc s k (.lst (c++f))
 exact q _ _ _ g (.lst zl ((b.append bl).mono g.ff))
def zkq:OpD (λx y H Q=>∃ i j,x=.str i/\y=.str j/\i.length+j.length<=sizeLine/\Q (.str (i++j)) H) zo8:=by
 intro F H x y d e z Q s b c a q
 cases d <;> try cases a
 cases e <;> try cases a
 unfold zo8 at a
 dsimp only at a
 split at a <;> cases a
 rename_i f
 exact⟨_,_,b.str_inv,c.str_inv,k8 f,q F H _ (.refl s) .str⟩
def yK:xz
 | .int i,.int j=>some (.int (i+j))
 | .tup a,.tup b=>if lim (a.length+b.length)=true then some (.tup (a++b))else none
 | .lst a,.lst b=>if lim (a.length+b.length)=true then some (.lst (a++b))else none
 | .str a,.str b=>if lim (a.length+b.length)=true then some (.str (a++b))else none
 | _,_=>none
def zc9 {g a:xz}(h:OpD r g)(k:∀ d e z,a d e=some z->g d e=some z):OpD r a:=λF H x y d e z Q s b f c q=>h F H x y d e z Q s b f (k d e z c) q
def Vz {f:zU}(k:ED X a f)(l:ED X b h):ED X (.BinOp a .Add b pos) (zh yK f h) :=
 Vy (((zp4.or zi8).or zcb).or zeZ) (zc9 (zby (zby (zby (zcc (g:=λi j=>i+j)) zj7) zkz) zkq) λd e z h=>by
  cases d <;> try cases h
  all_goals cases e <;> try cases h
  .rfl
  .unfold yK at h;dsimp only at h;split at h <;> cases h;rename_i c;simp[v6,zqy,c,zhN,zjq,zo8]
  .unfold yK at h;dsimp only at h;split at h <;> cases h;rename_i c;simp[v6,zqy,c,zhN,zjq,zo8]
  .unfold yK at h;dsimp only at h;split at h <;> cases h;rename_i c;simp[v6,zqy,c,zhN,zjq,zo8]) k l
def zqU (g:D->D->Option zm)(f h:zU):yx:=fun ρ=>(f ρ).bind λx=>(h ρ).bind λy=>g x y
def zbO {H H1:Hp}{p:Addr}(b:Gr F H F1 H1)(a:H1 p=none):H p=none:=by
 cases e:H p with
 | none=>rfl
 | some o =>
  cases c:F p with
  | none=>rw[(b.kp p o c e).2]at a;cases a
  | some u=>rw[b.fh _ _ (b.ff _ _ c)]at a;cases a
def zoE {f:zU}(K:ED X a f)(L:ED X b h):FL X (.BinOp a .Add b pos) (zqU zjq f h):=by
 obtain⟨O,N,w⟩:=K
 obtain⟨P,n,M⟩:=L
 refine⟨_,zgr zcb N n,fun σ ρ F H z Q s k e q=>?_⟩
 obtain⟨x,o,l⟩:=u4.mp e
 obtain⟨y,J,d⟩:=u4.mp l
 clear e l
 refine w σ ρ F H x _ s k o λF1 H1 v g E=>?_
 refine M σ ρ F1 H1 y _ g.fh (k.mono g.ff) J λF2 H2 u c B=>?_
 cases x <;> try cases d
 cases y <;> try cases d
 unfold zjq at d
 dsimp only at d
 split at d <;> cases d
 rename_i I
 obtain⟨p,A,rfl,m,j⟩:=(E.mono c.ff).lst_inv
 obtain⟨t,G,rfl,C,bl⟩:=B.lst_inv
 refine⟨p,t,A,G,rfl,rfl,c.fh _ _ m,c.fh _ _ C,by rw[j.length,bl.length];exact k8 I,λr i=>?_⟩
 exact q _ _ _ _ ((g.trans c).trans (Gr.hide c.fh i _)) (zbO (g.trans c) i) (c.fh.free i) zl (j.append bl)
def Wk (i j:Int):Bool:=decide ((-(2^64)<i/\i<2^64)\/(-(2^64)<j/\j<2^64))
def zrj:D->D->Option zm
 | .lst a,.int k=>if -(2^63)<=k/\k<2^63/\lim (a.length*k.toNat)=true then some (List.replicate k.toNat a).flatten else none
 | _,_=>none
def zkA (d e:D):Option D:=(zrj d e).map .lst
def Zn:xz
 | .int i,.int j=>if Wk i j=true then some (.int (i*j))else none
 | .lst a,.int k=>if -(2^63)<=k/\k<2^63/\lim (a.length*k.toNat)=true then some (.lst (List.replicate k.toNat a).flatten)else none
 | _,_=>none
def zkj:OpD rRep zkA:=by
 intro F H x y d e z Q s i l a q
 cases d <;> try cases a
 cases e <;> try cases a
 unfold zkA zrj at a
 dsimp only at a
 split at a <;> cases a
 rename_i b
 obtain⟨p,f,rfl,h,c⟩:=i.lst_inv
 refine⟨p,_,f,rfl,l.int_inv,s _ _ h,b.1,b.2.1,by rw[c.length];exact k8 b.2.2,λr j=>?_⟩
 rename_i m k
 have g:=Gr.alloc s j (.lst (List.replicate k.toNat f).flatten)
 exact q _ _ _ g (.lst zl ((c.rep _).mono g.ff))
def zqE {f:zU}(k:ED X a f)(l:ED X b h):ED X (.BinOp a .Mult b pos) (zh Zn f h) :=
 Vy (zop.or zqk) (zc9 (zby (za2 (Cb:=Wk) (g:=λi j=>i*j) λi j h=>by have m:=k8 (show decide ((-(2^64)<i/\i<2^64)\/(-(2^64)<j/\j<2^64))=true from h);exact m) zkj) λd e z h=>by
  cases d <;> try cases h
  all_goals cases e <;> try cases h
  .unfold Zn at h;dsimp only at h;split at h <;> cases h;rename_i c;simp[zaN,c]
  .unfold Zn at h;dsimp only at h;split at h <;> cases h;rename_i c;show(zkA _ _)=_;unfold zkA zrj;dsimp only;rw[t7 c];rfl) k l
def WT:=v6 λi j=>i-j
def vB:=zaN (λ_ j=>decide (0<j/\j<1606938044258990275541962092341162602522202993782792835301376)) λi j=>i/j
def Zm:=zaN (λ_ j=>decide (0<j)) λi j=>i%j
def zlJ {f:zU}(d:ED X a f)(c:ED X b h):ED X (.BinOp a .Sub b pos) (zh WT f h):=Vy zoj zcc d c
def zjQ:OpR X (binaryOp .FloorDiv) (rI (λ_ j=>0<j/\j<1606938044258990275541962092341162602522202993782792835301376) λi j=>.int (i/j)):=opI λi j _ _ _ _ _ a q=>by
 have c:(0:Int)<j:=a.1
 have e:j<1606938044258990275541962092341162602522202993782792835301376:=a.2
 refine PyProof.Rows.floordiv_int (by omega) (by rw[Int.fdiv_eq_ediv_of_nonneg i (by omega)];exact q) (.inl (PyProof.noPylong_of_log2 ?_))
 have h0:j.natAbs≠0:=by omega
 have b:j.natAbs<1606938044258990275541962092341162602522202993782792835301376:=by omega
 have d:j.natAbs.log2<200:=(Nat.log2_lt h0).mpr b
 omega
def zmy {f:zU}(c:ED X a f)(d:ED X b h):ED X (.BinOp a .FloorDiv b pos) (zh vB f h):=Vy zjQ (za2 λ_ _ h=>by have e:=k8 h;exact e) c d
def zov {f:zU}(c:ED X a f)(d:ED X b h):ED X (.BinOp a .Mod b pos) (zh Zm f h):=Vy zol (za2 λ_ _ h=>by have e:=k8 h;exact e) c d
def ltD:=za8 λi j=>decide (i<j)
def leD:=za8 λi j=>decide (i<=j)
def gtD:=za8 λi j=>decide (j<i)
def geD:=za8 λi j=>decide (j<=i)
def eqS:D->D->Option Bool
 | .non,.non=>some true
 | .int i,.int j=>some (decide (i=j))
 | .bl i,.bl j=>some (decide (i=j))
 | .str i,.str j=>some (decide (i=j))
 | .non,.int _=>some false | .int _,.non=>some false | .non,.bl _=>some false | .bl _,.non=>some false | .non,.str _=>some false | .str _,.non=>some false
 | .int _,.str _=>some false | .str _,.int _=>some false | .bl _,.str _=>some false | .str _,.bl _=>some false
 | _,_=>none
def eqD (d e:D):Option D:=(eqS d e).map .bl
def neD (d e:D):Option D:=(eqS d e).map λc=>.bl (!c)
def zlK:OpD rEq eqD:=by
 intro F H x y d e z Q s b a f q
 obtain⟨c,g,rfl⟩:=t4.mp f
 cases d <;> cases e <;> try cases g
 .cases b.non_inv;cases a.non_inv;exact⟨rfl,q F H _ (.refl s) .bl⟩
 .cases b.non_inv;cases a.bl_inv;exact⟨rfl,q F H _ (.refl s) .bl⟩
 .cases b.non_inv;cases a.int_inv;exact⟨rfl,q F H _ (.refl s) .bl⟩
 .cases b.non_inv;cases a.str_inv;exact⟨rfl,q F H _ (.refl s) .bl⟩
 .cases b.bl_inv;cases a.non_inv;exact⟨rfl,q F H _ (.refl s) .bl⟩
 .cases b.bl_inv;cases a.bl_inv;refine⟨rfl,?_⟩;rw[show ∀ i j:Bool,decide (V.bl i=V.bl j)=decide (i=j)from λi j=>by simp];exact q F H _ (.refl s) .bl
 .cases b.bl_inv;cases a.str_inv;exact⟨rfl,q F H _ (.refl s) .bl⟩
 .cases b.int_inv;cases a.non_inv;exact⟨rfl,q F H _ (.refl s) .bl⟩
 .cases b.int_inv;cases a.int_inv;refine⟨rfl,?_⟩;rw[show ∀ i j:Int,decide (V.int i=V.int j)=decide (i=j)from λi j=>by simp];exact q F H _ (.refl s) .bl
 .cases b.int_inv;cases a.str_inv;exact⟨rfl,q F H _ (.refl s) .bl⟩
 .cases b.str_inv;cases a.non_inv;exact⟨rfl,q F H _ (.refl s) .bl⟩
 .cases b.str_inv;cases a.bl_inv;exact⟨rfl,q F H _ (.refl s) .bl⟩
 .cases b.str_inv;cases a.int_inv;exact⟨rfl,q F H _ (.refl s) .bl⟩
 .cases b.str_inv;cases a.str_inv;refine⟨rfl,?_⟩;rw[show ∀ i j:Str,decide (V.str i=V.str j)=decide (i=j)from λi j=>by simp];exact q F H _ (.refl s) .bl
def WR:OpD rNe neD:=by
 intro F H x y d e z Q s f l i q
 obtain⟨c,h,rfl⟩:=t4.mp i
 have:=zlK F H x y d e (.bl c) (λv H'=>∃ b,v=.bl b/\Q (.bl (!b)) H') s f l (by unfold eqD;rw[h];rfl) λF' H' v g m=>⟨c,m.bl_inv,q F' H' _ g .bl⟩
 obtain⟨j,b,k,a⟩:=this
 cases k
 exact⟨j,a⟩
def zbc:xz
 | d,.non=>some (.bl (match d with | .non=>true | _=>false))
 | .bl a,.bl b=>some (.bl (a == b))
 | _,_=>none
def xf:xz
 | d,.non=>some (.bl (match d with | .non=>false | _=>true))
 | .bl a,.bl b=>some (.bl (!(a == b)))
 | _,_=>none
def zit {d:D}(h:At F d x):decide (x=V.non)=(match d with | .non=>true | _=>false):=by
 cases d with
 | non=>cases h.non_inv;rfl
 | bl b=>cases h.bl_inv;rfl
 | int b=>cases h.int_inv;rfl
 | str b=>cases h.str_inv;rfl
 | tup e=>obtain⟨a,c,rfl,_⟩:=h.tup_inv;rfl
 | lst e=>obtain⟨a,c,rfl,_⟩:=h.lst_inv;rfl
 | scr e=>obtain⟨a,rfl,_⟩:=h.scr_inv;rfl
 | dct z t l k=>obtain⟨a,c,rfl,_⟩:=h.dct_inv;rfl
 | obj w d g=>obtain⟨p,i,q,j,f,c,rfl,_⟩:=h.obj_inv;rfl
def zgV:OpD (λx y H Q=>(y=.non/\Q (.bl (decide (x=.non))) H)\/∃ i j,x=.bl i/\y=.bl j/\Q (.bl (i == j)) H) zbc:=by
 intro F H x y d e z Q s b c a q
 unfold zbc at a
 split at a
 .cases a
  refine .inl ⟨c.non_inv,?_⟩
  rw[zit b]
  have:=q F H _ (.refl s) .bl
  cases d <;> exact this
 .cases a
  exact .inr ⟨_,_,b.bl_inv,c.bl_inv,q F H _ (.refl s) .bl⟩
 .cases a
def ze2:OpD (λx y H Q=>(y=.non/\Q (.bl (!decide (x=.non))) H)\/∃ i j,x=.bl i/\y=.bl j/\Q (.bl (!(i == j))) H) xf:=by
 intro F H x y d e z Q s b c a q
 unfold xf at a
 split at a
 .cases a
  refine .inl ⟨c.non_inv,?_⟩
  rw[zit b]
  have:=q F H _ (.refl s) .bl
  cases d <;> exact this
 .cases a
  exact .inr ⟨_,_,b.bl_inv,c.bl_inv,q F H _ (.refl s) .bl⟩
 .cases a
def zlS:OpR X (compareOp .Is) (λx y H Q=>(y=.non/\Q (.bl (decide (x=.non))) H)\/∃ i j,x=.bl i/\y=.bl j/\Q (.bl (i == j)) H):=zqe.or zi5
def zfO:OpR X (compareOp .IsNot) (λx y H Q=>(y=.non/\Q (.bl (!decide (x=.non))) H)\/∃ i j,x=.bl i/\y=.bl j/\Q (.bl (!(i == j))) H):=zl8.or zc8
def x5 (g a:xz)(f h k:zU):zU:=fun ρ=>(f ρ).bind λx=>(h ρ).bind λy=>((g x y).bind asB).bind λc=>if c=true then (k ρ).bind λz=>a y z else some (.bl false)
def zeA {g p:xz}{f k:zU}(I:OpD r g)(d:OpD C p)(O:RE o f)(X:RE E h)(G:RE B k):RE (zb8 r C o E B) (x5 g p f h k):=by
 intro σ ρ F H z Q s j e q
 obtain⟨x,J,e⟩:=u4.mp e
 obtain⟨y,U,e⟩:=u4.mp e
 obtain⟨c,m,e⟩:=u4.mp e
 obtain⟨Y,m,V⟩:=u4.mp m
 cases X6 V
 refine O σ ρ F H x _ s j J λF1 H1 v l R=>?_
 refine X σ ρ F1 H1 y _ l.fh (j.mono l.ff) U λF2 H2 u i t=>?_
 refine I F2 H2 v u x y _ _ i.fh (R.mono i.ff) t m λF3 H3 w b W=>⟨c,W.bl_inv,?_⟩
 have a:=(l.trans i).trans b
 cases c with
 | true =>
  rw[t7 rfl]at e ⊢
  obtain⟨A,T,K⟩:=u4.mp e
  refine G σ ρ F3 H3 A _ b.fh (j.mono a.ff) T λF4 H4 N n M=>?_
  exact d F4 H4 u N y A z Q n.fh (t.mono (b.ff.trans n.ff)) M K λF5 H5 L P S=>q F5 H5 L ((a.trans n).trans P) S
 | false =>
  rw[j6 u7]at e ⊢
  cases e
  exact q F3 H3 _ a .bl
def zj0 {d:CmpOp}{g p:xz}{f k:zU}(w:OpR X (compareOp j) r)(u:OpR X (compareOp d) l)(s:OpD r g)(i:OpD l p)(t:ED X a f)(v:ED X b h)(q:ED X c k)(e:∀ {m o n:TE},PE X a m->PE X b o->PE X c n->PE X (.Compare a [j,d] [b,c] pos) (zb8 r l m o n)):ED X (.Compare a [j,d] [b,c] pos) (x5 g p f h k) :=
 let ⟨_,pa,ra⟩:=t
 let ⟨_,pb,rb⟩:=v
 let ⟨_,pc,rc⟩:=q
 ⟨_,e pa pb pc,zeA s i ra rb rc⟩
def zjv {d:CmpOp}{g p:xz}{f k:zU}(w:OpR X (compareOp j) r)(u:OpR X (compareOp d) l)(s:OpD r g)(i:OpD l p)(t:ED X a f)(v:ED X b h)(q:ED X c k)(e:∀ {m o n:TE},PE X a m->PE X b o->PE X c n->PT X (.Compare a [j,d] [b,c] pos) (zeP (zb8 r l m o n))):TD X (.Compare a [j,d] [b,c] pos) (tOf (x5 g p f h k)) :=
 let ⟨_,pa,ra⟩:=t
 let ⟨_,pb,rb⟩:=v
 let ⟨_,pc,rc⟩:=q
 ⟨_,e pa pb pc,zkt (zeA s i ra rb rc)⟩
def zdN:zm->Option zC
 | []=>some []
 | .int b::ds=>(zdN ds).map (b::·)
 | _=>none
omit [KK] in
def Wm:∀ {b:zm} {a:zC},zdN b=some a->b=a.map .int
 | [],a,h=>by cases h;rfl
 | d::b,a,h=>by
  cases d <;> try cases h
  obtain⟨e,c,rfl⟩:=t4.mp h
  rw[Wm c]
  rfl
def leT:xz
 | .tup a,.tup b=>(zdN a).bind λns=>(zdN b).map λc=>.bl (HT.lexLe ns c)
 | _,_=>none
def znb:OpD (rLeT K) leT:=by
 intro F H x y d e z Q s b c a q
 cases d <;> try cases a
 cases e <;> try cases a
 obtain⟨ns,j,k⟩:=u4.mp a
 obtain⟨f,l,rfl⟩:=t4.mp k
 rw[Wm j]at b
 rw[Wm l]at c
 obtain⟨p,n,rfl,h,i⟩:=b.tup_inv
 obtain⟨m,o,rfl,g,bl⟩:=c.tup_inv
 cases i.of_ints
 cases bl.of_ints
 exact⟨p,m,ns,f,rfl,rfl,SqT.of (s _ _ h),SqT.of (s _ _ g),q F H _ (.refl s) .bl⟩
def ixD:xz
 | .lst ds,.int i=>atI ds i
 | .tup ds,.int i=>atI ds i
 | .scr ns,.int i=>(atI ns i).map .int
 | _,_=>none
def AtL.atI {a:zm}{c:zx}{d:D}(b:AtL F a c)(h:L2.atI a i=some d):∃ x,L2.atI c i=some x/\At F d x:=by
 unfold L2.atI at h ⊢
 obtain⟨j,k,e⟩:=u4.mp h
 obtain⟨x,g,f⟩:=b.get e
 exact⟨x,by rw[b.length,k];exact g,f⟩
def zoZ:OpD (rIx KK.K) ixD:=by
 intro F H x y d e z Q s h o c q
 cases e <;> try (cases d <;> cases c)
 cases o.int_inv
 cases d with
 | lst k =>
  obtain⟨p,i,rfl,b,g⟩:=h.lst_inv
  obtain⟨v,a,f⟩:=g.atI c
  exact .inl ⟨p,i,_,v,rfl,rfl,SqL.of (s _ _ b),a,q F H _ (.refl s) f⟩
 | tup k =>
  obtain⟨p,i,rfl,b,g⟩:=h.tup_inv
  obtain⟨v,a,f⟩:=g.atI c
  exact .inr (.inl ⟨p,i,_,v,rfl,rfl,SqT.of (s _ _ b),a,q F H _ (.refl s) f⟩)
 | scr ns =>
  obtain⟨p,rfl,b⟩:=h.scr_inv
  obtain⟨n,a,rfl⟩:=t4.mp c
  refine .inl ⟨p,ns.map V.int,_,.int n,rfl,rfl,s.seq b,?_,q F H _ (.refl s) .int⟩
  unfold L2.atI at a ⊢
  rw[u9]
  obtain⟨j,l,m⟩:=u4.mp a
  rw[l]
  show(ns.map V.int)[j]?=_
  rw[k9,m]
  rfl
 | _=>cases c
def yh {f:zU}(e:ED X a f)(c:ED X b h)(d:Z9 b)(g:X.K=KK.K:=by rfl):ED X (.Subscript a b pos) (zh ixD f h) :=
 let ⟨_,pa,ra⟩:=e
 let ⟨_,pb,rb⟩:=c
 ⟨_,zku zpo pa pb d,zfD (by rw[g];exact zoZ) ra rb⟩
def Y1 {α:Type}(a:List α)(b c:yG):List α:=(a.drop (HT.sIx a.length 0 b)).take (HT.sIx a.length a.length c-HT.sIx a.length 0 b)
def AtL.cut {b:zm}{c:zx}(a:AtL F b c):AtL F (Y1 b lo hi) (zdd c lo hi):=by
 unfold Y1 zdd
 rw[a.length]
 exact(a.drop _).take _
def OD (X:Cx)(e:Option Expr)(f:Ev->Option yG):Prop:=∃ t,PO X e t/\∀ (σ:St) (ρ:Ev) (F H:Hp) (i:yG) (Q:yG->Hp->Prop),zX F H->VAt F ρ σ->f ρ=some i->(∀ F' H',Gr F H F' H'->Q i H')->t σ H Q
def wo:Ev->Option yG:=λ_=>some none
def asI:D->yG
 | .int i=>some i
 | _=>none
def xm (f:zU):Ev->Option yG:=fun ρ=>((f ρ).bind asI).map some
def Vb:OD X none wo:=⟨_,znr,λ_ _ _ _ _ _ s _ e q=>by cases e;exact q _ _ (.refl s)⟩
def Ze {f:zU}(h:ED X e f):OD X (some e) (xm f):=by
 obtain⟨t,p,r⟩:=h
 refine⟨_,zlV p,fun σ ρ F H i Q s b e q=>?_⟩
 obtain⟨j,a,rfl⟩:=t4.mp e
 obtain⟨d,a,k⟩:=u4.mp a
 cases d <;> cases k
 exact r σ ρ F H _ _ s b a λF1 H1 v g c=>⟨_,c.int_inv,q F1 H1 g⟩
def slD:D->yG->yG->Option D
 | .lst ds,lo,hi=>some (.lst (Y1 ds lo hi))
 | .scr ns,lo,hi=>some (.lst ((Y1 ns lo hi).map .int))
 | .tup ds,lo,hi=>some (.tup (Y1 ds lo hi))
 | _,_,_=>none
def eSl (g:D->yG->yG->Option D)(f:zU)(l h:Ev->Option yG):zU:=fun ρ=>(f ρ).bind λd=>(l ρ).bind λa=>(h ρ).bind λb=>g d a b
omit [KK] in
def zkb {ns:zC}{a b:yG}:zdd (ns.map V.int) a b=(Y1 ns a b).map V.int:=by
 unfold zdd Y1
 rw[u9,List.map_take,List.map_drop]
end
end Dl
namespace L2
open PySem PySem.Spec PyProof.Rows
def rSlN:V->yG->yG->Hp->VK->Prop:=λx c d H Q=>∃ a b,x=.ref a/\H a=some (.tup b)/\(zdd b c d=b->Q (.ref a) H)/\∀ p,H p=none->Q (.ref p) (upd H p (.tup (zdd b c d)))
def znX:SlR X rSlN:=by
 intro d s σ H x v p n i l q Q I g f pl m h
 obtain⟨a,b,rfl,k,t,o⟩:=h
 by_cases hw:HT.sIx b.length 0 i=0/\HT.sIx b.length b.length l=b.length
 .cases g
  obtain⟨e,r,j,u⟩:=I.tuple (SqT.of k)
  have c:e.toArray.size=b.length:=by rw[t9];exact r.length.symm
  refine⟨"tuple",_,p5.lookup,j.typeIs,?_⟩
  refine HT.own_getItem_whole j f pl m (by rw[c];exact hw) ⟨.ref a,H,I,rfl,t ?_⟩
  unfold zdd
  rw[hw.1,hw.2,u3b,Nat.sub_zero,u1W]
 .exact zoH d s σ H (.ref a) v p n i l q Q I g f pl m ⟨a,b,rfl,SqT.of k,hw,o⟩
end L2
namespace Dl
open PySem L2
variable [KK]
section
variable {X:Cx}{a b c e:Expr}{pos:Pos}
def YI {w:Option Expr}{f:zU}(S:ED X a f)(P:OD X y l)(I:OD X w h)(O:X.K=KK.K:=by rfl):ED X (.Subscript a (.Slice y w none J) pos) (eSl slD f l h):=by
 obtain⟨W,U,K⟩:=S
 obtain⟨Z,x,C⟩:=P
 obtain⟨Y,E,L⟩:=I
 refine⟨_,zkl (zmJ.or znX) U x E,fun σ ρ F H z Q s A e q=>?_⟩
 obtain⟨d,G,e⟩:=u4.mp e
 obtain⟨i,R,e⟩:=u4.mp e
 obtain⟨j,T,e⟩:=u4.mp e
 refine K σ ρ F H d _ s A G λF1 H1 v u N=>?_
 refine C σ ρ F1 H1 i _ u.fh (A.mono u.ff) R λF2 H2 t=>?_
 refine L σ ρ F2 H2 j _ t.fh (A.mono (u.ff.trans t.ff)) T λF3 H3 c=>?_
 have b:=(u.trans t).trans c
 have B:=N.mono (t.ff.trans c.ff)
 cases d <;> try cases e
 .obtain⟨p,n,rfl,k,o⟩:=B.tup_inv
  refine .inr ⟨p,n,rfl,c.fh _ _ k,λM=>?_,λr m=>?_⟩
  .have:=o.cut (lo:=i) (hi:=j)
   rw[M]at this
   exact q F3 H3 _ b (.tup k this)
  .have g:=Gr.alloc c.fh m (.tup (zdd n i j))
   exact q _ _ _ (b.trans g) (.tup zl (o.cut.mono g.ff))
 .obtain⟨p,n,rfl,k,o⟩:=B.lst_inv
  refine .inl ⟨p,n,rfl,SqL.of (c.fh _ _ k),λr m=>?_⟩
  have g:=Gr.alloc c.fh m (.lst (zdd n i j))
  exact q _ _ _ (b.trans g) (.lst zl (o.cut.mono g.ff))
 .rename_i ns _ _
  obtain⟨p,rfl,k⟩:=B.scr_inv
  refine .inl ⟨p,_,rfl,(by rw[O];exact c.fh.seq k),λr m=>?_⟩
  rw[zkb]
  have g:=Gr.alloc c.fh m (.lst ((Y1 ns i j).map V.int))
  exact q _ _ _ (b.trans g) (.lst zl (.ints _))
def CaD (r:zfr)(g:wm):Prop:=∀ (F H:Hp) (b:zx) (a:zm) (z:D) (Q:VK),zX F H->AtL F a b->g a=some z->(∀ F' H' v,Gr F H F' H'->At F' z v->Q v H')->r b H Q
def eFn (g:wm)(f:yx):zU:=fun ρ=>(f ρ).bind g
def fFn (g:zjX)(f:yx):yx:=fun ρ=>(f ρ).bind g
def yM {x:Str}{id:String}{p:Pos}{a:y9}{r:zfr}{g:wm}{f:yx}(k:v5 X (.builtin id) r)(m:CaD r g)(b:Gl X x)(j:X.mg x=none)(E:bootBuiltins x=some (.builtin id))(C:AD X (e::a) f)
 (G:x≠"__name__":=by decide) (d:(x == ("__debug__":Str))=false:=by decide) (A:starEach (e::a) X.env=(false,eval e X.env)::starEach a X.env:=by rfl) (c:(backTo pos (starEach a X.env)).any (·.1)=false:=by rfl) :
 ED X (.Call (.Name x p) (e::a) [] pos) (eFn g f):=by
 obtain⟨t,y,o⟩:=C
 refine⟨_,yD k b j E y G d A c,fun σ ρ F H z Q s u e q=>?_⟩
 obtain⟨h,n,B⟩:=u4.mp e
 refine o σ ρ F H h _ s u n λF1 H1 l i w=>?_
 exact m F1 H1 l h z Q i.fh w B λF' H' v g I=>q F' H' v (i.trans g) I
def vP {p:Pos} {a:y9} {g:wm} {f:yx} (k:v5 X (.type T) r) (m:CaD r g) (b:Gl X x) (j:X.mg x=none) (E:bootBuiltins x=some (.type T)) (C:AD X (e::a) f) (G:x≠"__name__":=by decide) (d:(x == ("__debug__":Str))=false:=by decide) (A:starEach (e::a) X.env=(false,eval e X.env)::starEach a X.env:=by rfl) (c:(backTo pos (starEach a X.env)).any (·.1)=false:=by rfl) :
 ED X (.Call (.Name x p) (e::a) [] pos) (eFn g f):=by
 obtain⟨t,y,o⟩:=C
 refine⟨_,zbt k b j E y G d A c,fun σ ρ F H z Q s u e q=>?_⟩
 obtain⟨h,n,B⟩:=u4.mp e
 refine o σ ρ F H h _ s u n λF1 H1 l i w=>?_
 exact m F1 H1 l h z Q i.fh w B λF' H' v g I=>q F' H' v (i.trans g) I
def Yz:wm
 | [.lst ds]=>some (.int ds.length)
 | [.tup ds]=>some (.int ds.length)
 | [.scr ds]=>some (.int ds.length)
 | _=>none
def vX:CaD (λb H Q=>∃ p c,b=[.ref p]/\(SqL KK.K H p c\/SqT KK.K H p c)/\Q (.int c.length) H) Yz:=by
 intro F H i h z Q s f e q
 unfold Yz at e
 split at e <;> cases e
 all_goals
  obtain⟨x,r,rfl,d,g⟩:=f.cons_inv
  cases g.nil_inv
 .obtain⟨p,b,rfl,a,bl⟩:=d.lst_inv
  exact⟨p,b,rfl,.inl (SqL.of (s _ _ a)),by rw[bl.length];exact q F H _ (.refl s) .int⟩
 .obtain⟨p,b,rfl,a,bl⟩:=d.tup_inv
  exact⟨p,b,rfl,.inr (SqT.of (s _ _ a)),by rw[bl.length];exact q F H _ (.refl s) .int⟩
 .obtain⟨p,rfl,a⟩:=d.scr_inv
  exact⟨p,_,rfl,.inl ((s.seq a)),by rw[u9];exact q F H _ (.refl s) .int⟩
def zpJ:wm
 | [.int i,.int j]=>some (.int (if j>i then j else i))
 | _=>none
def zox:wm
 | [.int i,.int j]=>some (.int (if j<i then j else i))
 | _=>none
def zei {g:Int->Int->Int}:CaD (λh H Q=>∃ i j,h=[.int i,.int j]/\Q (.int (g i j)) H) (λb=>match b with | [.int i,.int j]=>some (.int (g i j)) | _=>none):=by
 intro F H k b z Q s c e q
 dsimp only at e
 split at e <;> cases e
 obtain⟨x,r,rfl,d,a⟩:=c.cons_inv
 obtain⟨y,r,rfl,f,a⟩:=a.cons_inv
 cases a.nil_inv
 exact⟨_,_,by rw[d.int_inv,f.int_inv],q F H _ (.refl s) .int⟩
def zkZ:CaD (λa H Q=>∃ i j,a=[.int i,.int j]/\Q (.int (if j>i then j else i)) H) zpJ:=zei (g:=λi j=>if j>i then j else i)
def zjz:CaD (λa H Q=>∃ i j,a=[.int i,.int j]/\Q (.int (if j<i then j else i)) H) zox:=zei (g:=λi j=>if j<i then j else i)
def xI:wm
 | [.lst ds]=>some (.tup ds)
 | [.tup ds]=>some (.tup ds)
 | _=>none
def zgA:CaD (λa H Q=>∃ p c,a=[.ref p]/\((SqL K H p c/\∀ l,H l=none->Q (.ref l) (upd H l (.tup c)))\/(SqT K H p c/\Q (.ref p) H))) xI:=by
 intro F H k j z Q s f e q
 unfold xI at e
 split at e <;> cases e
 all_goals
  obtain⟨x,r,rfl,d,h⟩:=f.cons_inv
  cases h.nil_inv
 .obtain⟨p,a,rfl,b,bl⟩:=d.lst_inv
  refine⟨p,a,rfl,.inl ⟨SqL.of (s _ _ b),λl i=>?_⟩⟩
  have g:=Gr.alloc s i (.tup a)
  exact q _ _ _ g (.tup zl (bl.mono g.ff))
 .obtain⟨p,a,rfl,b,bl⟩:=d.tup_inv
  exact⟨p,a,rfl,.inr ⟨SqT.of (s _ _ b),q F H _ (.refl s) (.tup b bl)⟩⟩
def vD:zjX
 | [.lst ds]=>some ds
 | [.tup ds]=>some ds
 | [.scr ns]=>some (ns.map .int)
 | _=>none
def zm6 {p:Pos} {f:yx} (d:Gl X "list") (k:X.mg "list"=none) (A:AD X [e] f) (w:X.K=KK.K:=by rfl)
 (y:starEach [e] X.env=(false,eval e X.env)::starEach [] X.env:=by rfl) (h:(backTo pos (starEach [] X.env)).any (·.1)=false:=by rfl):FL X (.Call (.Name "list" p) [e] [] pos) (fFn vD f):=by
 obtain⟨t,C,n⟩:=A
 refine⟨_,zbt zb0 d k zap C (by decide) (by decide) y h,fun σ ρ F H z Q s u e q=>?_⟩
 obtain⟨o,m,j⟩:=u4.mp e
 refine n σ ρ F H o _ s u m λF1 H1 E a v=>?_
 unfold vD at j
 split at j <;> cases j
 all_goals
  obtain⟨x,r,rfl,i,B⟩:=v.cons_inv
  cases B.nil_inv
 .obtain⟨p,g,rfl,c,bl⟩:=i.lst_inv
  exact⟨p,g,rfl,.inl (SqL.of (a.fh _ _ c)),λl b=>q _ _ _ _ (a.trans (Gr.hide a.fh b _)) (zbO a b) (a.fh.free b) zl bl⟩
 .obtain⟨p,g,rfl,c,bl⟩:=i.tup_inv
  exact⟨p,g,rfl,.inr (SqT.of (a.fh _ _ c)),λl b=>q _ _ _ _ (a.trans (Gr.hide a.fh b _)) (zbO a b) (a.fh.free b) zl bl⟩
 .obtain⟨p,rfl,c⟩:=i.scr_inv
  exact⟨p,_,rfl,.inl (by rw[w];exact a.fh.seq c),λl b=>q _ _ _ _ (a.trans (Gr.hide a.fh b _)) (zbO a b) (a.fh.free b) zl (.ints _)⟩
inductive TyD (K:zv) (H:Hp):V->Value->Prop where
 | of {v:V} {t:Value} (h:zeg K H v t):TyD K H v t
 | dd {a:Addr} {u:HO} (h:Rd H a u) (d:(∃ kvs,u=.dK kvs)\/∃ kvs,u=.dT kvs):TyD K H (.ref a) (.type "dict")
def zcm {X:Cx}:v5 X (.builtin "isinstance") (λj H Q=>∃ x n t b,j=[x,.ty n]/\TyD X.K H x t/\W.kitOne X.K t (.type n)=some b/\Q (.bl b) H):=by
 intro f s σ H j v Q I r h
 obtain⟨x,n,t,b,rfl,ty,e,q⟩:=h
 cases ty with
 | of ty=>exact zdn f s σ H _ v Q I r ⟨x,n,t,b,rfl,ty,e,q⟩
 | @dd a u h d =>
  cases r with
  | cons y m =>
   cases m with
   | cons B A =>
    cases A
    cases y
    cases B
    have ok:=h.ok I.hok
    rcases d with ⟨c,rfl⟩ | ⟨c,rfl⟩
    .obtain⟨_,_,C,_,p⟩:=(show yT X.prog X.w H s.heap a (.dK c)from ok)
     obtain⟨o,w,l,g,i,_⟩:=p
     exact l0 u1F I.kIn ⟨o,g,i.1⟩ e (λz=>nomatch z) λk=>⟨.bl b,H,I.tok k,rfl,q⟩
    .obtain⟨_,_,j,_,o,w,l,g,i,_⟩:=(show yT X.prog X.w H s.heap a (.dT c)from ok)
     exact l0 u1F I.kIn ⟨o,g,i.1⟩ e (λz=>nomatch z) λk=>⟨.bl b,H,I.tok k,rfl,q⟩
def At.ty (s:zX F H):∀ {d:D} {v:V},At F d v->(∀ ns,d≠.scr ns)->(∀ w e g,d≠.obj w e g)->TyD K H v (.type (tyN d))
 | .non,_,h,_,_=>by cases h.non_inv;exact .of .non
 | .bl b,_,h,_,_=>by cases h.bl_inv;exact .of (.bl b)
 | .int i,_,h,_,_=>by cases h.int_inv;exact .of (.int i)
 | .str x,_,h,_,_=>by cases h.str_inv;exact .of (.str x)
 | .tup ds,_,h,_,_=>by obtain⟨a,j,rfl,e,_⟩:=h.tup_inv;exact .of (.tup (s _ _ e))
 | .lst ds,_,h,_,_=>by obtain⟨a,j,rfl,e,_⟩:=h.lst_inv;exact .of (.lst (s _ _ e))
 | .scr ns,_,_,n,_=>absurd rfl (n ns)
 | .obj w e g,_,_,_,n=>absurd rfl (n w e g)
 | .dct z t ks vs,_,h,_,_=>by
  obtain⟨a,j,rfl,d,_⟩:=h.dct_inv
  obtain⟨u,f,k⟩:=(d.mono s).rd
  exact .dd k (by
   unfold zdj at f
   split at f
   .obtain⟨c,rfl,_⟩:=f;exact .inr ⟨c,rfl⟩
   .obtain⟨c,rfl,_⟩:=f;exact .inl ⟨c,rfl⟩)
inductive Ty where
 | int | bool | tuple | list | str
def Ty.nm:Ty->String
 | .int=>"int" | .bool=>"bool" | .tuple=>"tuple" | .list=>"list" | .str=>"str"
def isT:Ty->D->Bool
 | .int,.int _=>true | .int,.bl _=>true
 | .bool,.bl _=>true
 | .tuple,.tup _=>true
 | .list,.lst _=>true
 | .str,.str _=>true
 | _,_=>false
def y0 (n:Ty):D->Option D
 | .scr _=>none
 | .obj _ _ _=>none
 | d=>some (.bl (isT n d))
def zqD (K:zv)(n:Ty)(d:D)(h:∀ ns,d≠.scr ns)(b:∀ w e a,d≠.obj w e a):W.kitOne K (.type (tyN d)) (.type n.nm)=some (isT n d):=by
 cases n <;> cases d <;> first | exact absurd rfl (h _) | exact absurd rfl (b _ _ _) | kernel_rfl
def Yw {p:Pos} {f:zU} (n:Ty) (c:Gl X "isinstance") (o:X.mg "isinstance"=none) (A:ED X a f) (C:PE X b (tC (.ty n.nm)))
 (l:starEach [a,b] X.env=(false,eval a X.env)::starEach [b] X.env:=by rfl) (i:starEach [b] X.env=(false,eval b X.env)::starEach [] X.env:=by rfl) (g:(backTo pos (starEach [b] X.env)).any (·.1)=false:=by rfl) :
 ED X (.Call (.Name "isinstance" p) [a,b] [] pos) (eUn (y0 n) f):=by
 obtain⟨t,E,u⟩:=A
 refine⟨_,yD zcm c o zL (zu E (zu C yF i) l) (by decide) (by decide) l g,fun σ ρ F H z Q s x e q=>?_⟩
 obtain⟨d,r,j⟩:=u4.mp e
 refine u σ ρ F H d _ s x r λF1 H1 v m y=>?_
 have ns:∀ ns,d≠.scr ns:=λns h=>by subst h;cases j
 have no:∀ w e k,d≠.obj w e k:=λw e k h=>by subst h;cases j
 have B:z=.bl (isT n d):=by
  cases d <;> first | exact(o4 j).symm | exact absurd rfl (ns _) | exact absurd rfl (no _ _ _)
 subst B
 exact⟨v,n.nm,_,_,rfl,y.ty m.fh ns no,zqD _ n d ns no,q F1 H1 _ m .bl⟩
def Vm (m:Bool)(i:Nat)(f:zU):zz:=fun ρ=>match (vEv m f ρ).bind λd=>match ρ[i]? with
 | some (.o ds)=>if decide (ds.length<sizeLine)=true then some (ρ.set i (.o (ds++[d])))else none
 | _=>none with
 | some ρ'=>.nx ρ'
 | none=>.no
def zlu {p b:Pos} {f:zU} (O:PE X a (Y2 i)) (K:ED X e f) (N:∀ {A:TE} {t:TA},PE X a A->PA X [e] t->PE X (.Call (.Attribute a "append" p) [e] [] b) (tBM X.K "list" zdb A t)) (y:swapsWith (.Call (.Attribute a "append" p) [e] [] b) none pos.line X.env=pure false:=by rfl) (j:starEach [e] X.env=(false,eval e X.env)::starEach [] X.env:=by rfl):SD X (.Expr (.Call (.Attribute a "append" p) [e] [] b) pos) (Vm m i f):=by
 obtain⟨t,L,M⟩:=K
 refine⟨_,Zj (N O (zu L yF j)) y,λFb Hb F H ρ σ E u k=>?_⟩
 unfold Vm at k
 cases h:(vEv m f ρ).bind λd=>match ρ[i]? with
  | some (.o r)=>if decide (r.length<sizeLine)=true then some (ρ.set i (.o (r++[d])))else none
  | _=>none with
 | none=>rw[h]at k;exact k.elim
 | some U =>
  rw[h]at k
  obtain⟨d,B,c⟩:=u4.mp h
  cases j:ρ[i]? with
  | none=>rw[j]at c;cases c
  | some I =>
   rw[j]at c
   cases I with
   | no=>cases c
   | v _=>cases c
   | m _ _ _=>cases c
   | k _ _ _=>cases c
   | o r =>
    dsimp only at c
    split at c <;> cases c
    rename_i J
    obtain⟨q,G,z,R,S,C,T⟩:=u.owns i r j
    refine⟨_,z,.inl ⟨rfl,G,SqL.of C⟩,?_⟩
    refine M.at u B λF' H' v g P=>?_
    have s:=u.grow g
    obtain⟨Q,x,n,_,_,w,l⟩:=s.owns i r j
    rw[z]at n
    cases n
    refine⟨q,x,v,rfl,rfl,w,by rw[l.length];exact k8 J,?_⟩
    exact k _ _ σ (s.mutate j z (l.snoc P))
def zbd (i:Nat)(f:zU):zz:=fun ρ=>match (f (visF ρ)).bind λd=>match ρ[i]?,d with
 | some (.o ds),.lst es=>if lim (ds.length+es.length)=true then some (ρ.set i (.o (ds++es)))else none
 | _,_=>none with
 | some ρ'=>.nx ρ'
 | none=>.no
def zqf {p b:Pos} {f:zU} (R:PE X a (Y2 i)) (N:ED X e f) (Q:∀ {B:TE} {t:TA},PE X a B->PA X [e] t->PE X (.Call (.Attribute a "extend" p) [e] [] b) (tBM X.K "list" zgj B t)) (z:swapsWith (.Call (.Attribute a "extend" p) [e] [] b) none pos.line X.env=pure false:=by rfl) (j:starEach [e] X.env=(false,eval e X.env)::starEach [] X.env:=by rfl):SD X (.Expr (.Call (.Attribute a "extend" p) [e] [] b) pos) (zbd i f):=by
 obtain⟨t,O,P⟩:=N
 refine⟨_,Zj (Q R (zu O yF j)) z,λFb Hb F H ρ σ E u k=>?_⟩
 unfold zbd at k
 cases h:(f (visF ρ)).bind λd=>match ρ[i]?,d with
  | some (.o r),.lst x=>if lim (r.length+x.length)=true then some (ρ.set i (.o (r++x)))else none
  | _,_=>none with
 | none=>rw[h]at k;exact k.elim
 | some Y =>
  rw[h]at k
  obtain⟨d,C,c⟩:=u4.mp h
  cases j:ρ[i]? with
  | none=>rw[j]at c;cases c
  | some L =>
   rw[j]at c
   cases L with
   | no=>cases c
   | v _=>cases c
   | m _ _ _=>cases c
   | k _ _ _=>cases c
   | o r =>
    cases d with
    | lst x =>
     dsimp only at c
     split at c <;> cases c
     rename_i M
     obtain⟨q,K,A,U,V,J,W⟩:=u.owns i r j
     refine⟨_,A,.inl ⟨rfl,K,SqL.of J⟩,?_⟩
     refine P σ _ _ H _ _ u.gr.fh u.visF C λF' H' v g S=>?_
     have s:=u.grow g
     obtain⟨T,y,n,_,_,w,l⟩:=s.owns i r j
     rw[A]at n
     cases n
     obtain⟨G,zs,rfl,I,bl⟩:=S.lst_inv
     refine⟨q,G,y,zs,rfl,rfl,w,g.fh _ _ I,by rw[l.length,bl.length];exact k8 M,?_⟩
     exact k _ _ σ (s.mutate j A (l.append bl))
    | _=>cases c
end
end Dl
namespace Dl
open PySem L2
variable [KK]
def okE:Nat->D->Bool
 | _,.scr _=>false
 | _,.dct _ _ _ _=>false
 | _,.obj _ _ _=>false
 | 0,.tup _=>false
 | 0,.lst _=>false
 | n+1,.tup ds=>ds.all (okE n)
 | n+1,.lst ds=>ds.all (okE n)
 | _,_=>true
def eqN:Nat->D->D->Bool
 | _,.non,.non=>true
 | _,.bl a,.bl b=>a == b
 | _,.bl a,.int b=>(if a then 1 else 0) == b
 | _,.int a,.bl b=>a == (if b then 1 else 0)
 | _,.int a,.int b=>a == b
 | _,.str a,.str b=>a == b
 | n+1,.tup a,.tup b=>(List.zipWith (eqN n) a b).all id&&a.length == b.length
 | n+1,.lst a,.lst b=>(List.zipWith (eqN n) a b).all id&&a.length == b.length
 | _,_,_=>false
omit [KK] in
def zaQ:∀ (a b:zm),(List.zipWith (eqN n) a b).all id=(List.range (min a.length b.length)).all λj=>eqN n (a.getD j .non) (b.getD j .non):=by
 intro a b
 have:List.zipWith (eqN n) a b=(List.range (min a.length b.length)).map λj=>eqN n (a.getD j .non) (b.getD j .non):=by
  apply List.ext_getElem
  .simp
  .intro i c d
   simp at c d
   have f:i<a.length:=q5 c (Nat.min_le_left _ _)
   have e:i<b.length:=q5 c (Nat.min_le_right _ _)
   simp[f,e]
 rw[this,u1N]
 rfl
omit [KK] in
def vOf:D->V
 | .bl b=>.bl b
 | .int i=>.int i
 | .str t=>.str t
 | _=>.non
def wS {d:D}(h:okE 0 d=true)(a:At F d x):x=vOf d:=by
 cases d with
 | non=>exact a.non_inv
 | bl b=>exact a.bl_inv
 | int b=>exact a.int_inv
 | str b=>exact a.str_inv
 | _=>cases h
omit [KK] in
def X3 {d:D}(h:okE 0 d=true):zl5 (vOf d)=true:=by
 cases d <;> first | rfl | cases h
omit [KK] in
def zam {d:D}{p:Addr}(h:okE 0 d=true)(e:vOf d=.ref p):False:=by
 cases d <;> first | (cases h;done) | (cases e;done)
def dOfV:V->D
 | .bl b=>.bl b
 | .int i=>.int i
 | .str t=>.str t
 | _=>.non
omit [KK] in
def zfL {d:D}(h:okE 0 d=true):dOfV (vOf d)=d:=by
 cases d <;> first | rfl | (cases h;done)
omit [KK] in
def zhT {d:D}(a:okE 0 d=true)(b:okE 0 e=true)(h:vOf d=vOf e):d=e:=by
 rw[<-zfL a,h,zfL b]
omit [KK] in
def wI {n:Nat}{d:D}(h:okE (n+1) d=true):okE 0 d=true\/(∃ a,d=.tup a/\a.all (okE n)=true)\/∃ a,d=.lst a/\a.all (okE n)=true:=by
 cases d with
 | tup a=>exact .inr (.inl ⟨a,rfl,h⟩)
 | lst a=>exact .inr (.inr ⟨a,rfl,h⟩)
 | scr _=>cases h
 | dct _ _ _ _=>cases h
 | obj _ _ _=>cases h
 | _=>exact .inl rfl
def zhO (k:∀ {d e:D} {v:V},okE n d=true->okE n e=true->At F d v->At F e v->d=e):∀ {c:zx} {a b:zm},a.all (okE n)=true->b.all (okE n)=true->AtL F a c->AtL F b c->a=b:=by
 intro c
 induction c with
 | nil =>
  intro a b _ _ g f
  exact(u0g.mp g.length.symm).trans (u0g.mp f.length.symm).symm
 | cons x c h =>
  intro a b i j g f
  cases a with
  | nil=>cases g.nil_inv
  | cons d a=>cases b with
   | nil=>cases f.nil_inv
   | cons e b =>
    obtain⟨y,r,m,b1,l⟩:=g.cons_inv
    obtain⟨s,q,o,b2,p⟩:=f.cons_inv
    cases m
    cases o
    rw[u14,j0]at i j
    rw[h i.2 j.2 l p,k i.1 j.1 b1 b2]
def zld:∀ (n:Nat) {d e:D} {v:V},okE n d=true->okE n e=true->At F d v->At F e v->d=e:=by
 intro n
 induction n with
 | zero =>
  intro d e v m h i a
  exact zhT m h ((wS m i).symm.trans (wS h a))
 | succ n x =>
  intro d e v m h i a
  rcases wI m with o | ⟨y,rfl,u⟩ | ⟨y,rfl,u⟩
  .have b:=wS o i
   rcases wI h with c | ⟨l,rfl,_⟩ | ⟨l,rfl,_⟩
   .exact zhT o c (b.symm.trans (wS c a))
   .obtain⟨p,w,t,_⟩:=a.tup_inv
    exact(zam o (b.symm.trans t)).elim
   .obtain⟨p,w,t,_⟩:=a.lst_inv
    exact(zam o (b.symm.trans t)).elim
  .obtain⟨p,w,g,j,r⟩:=i.tup_inv
   rcases wI h with c | ⟨l,rfl,k⟩ | ⟨l,rfl,k⟩
   .exact(zam c ((wS c a).symm.trans g)).elim
   .obtain⟨q,s,b,f,bl⟩:=a.tup_inv
    cases g.symm.trans b
    cases j.symm.trans f
    rw[zhO x u k r bl]
   .obtain⟨q,s,b,f,bl⟩:=a.lst_inv
    cases g.symm.trans b
    cases j.symm.trans f
  .obtain⟨p,w,g,j,r⟩:=i.lst_inv
   rcases wI h with c | ⟨l,rfl,k⟩ | ⟨l,rfl,k⟩
   .exact(zam c ((wS c a).symm.trans g)).elim
   .obtain⟨q,s,b,f,bl⟩:=a.tup_inv
    cases g.symm.trans b
    cases j.symm.trans f
   .obtain⟨q,s,b,f,bl⟩:=a.lst_inv
    cases g.symm.trans b
    cases j.symm.trans f
    rw[zhO x u k r bl]
omit [KK] in
def zkM:∀ (n:Nat) {d:D},okE n d=true->eqN n d d=true:=by
 intro n
 induction n with
 | zero =>
  intro d h
  cases d with
  | tup _=>cases h
  | lst _=>cases h
  | scr _=>cases h
  | dct _ _ _ _=>cases h
  | obj _ _ _=>cases h
  | _=>first | rfl | exact q0 rfl | exact u0T _
 | succ n e =>
  have b:∀ {a:zm},a.all (okE n)=true->(List.zipWith (eqN n) a a).all id=true:=by
   intro a
   induction a with
   | nil=>intro _;rfl
   | cons d a c =>
    intro h
    rw[u14,j0]at h
    rw[List.zipWith_cons_cons,u14,c h.2,u2N]
    exact e h.1
  intro d h
  cases d with
  | tup a=>show((List.zipWith (eqN n) a a).all id&&a.length == a.length)=true;rw[b h];simp
  | lst a=>show((List.zipWith (eqN n) a a).all id&&a.length == a.length)=true;rw[b h];simp
  | scr _=>cases h
  | dct _ _ _ _=>cases h
  | obj _ _ _=>cases h
  | _=>first | rfl | exact q0 rfl | exact u0T _
def zlp (n:Nat){d:D}(b:okE n d=true)(a:okE n e=true)(f:At F d v)(c:At F e v):eqN n d e=true:=by
 rw[zld n b a f c]
 exact zkM n a
omit [KK] in
def wM {a:zm}{j:Nat}(h:a.all (okE n)=true)(b:j<a.length):okE n (a.getD j .non)=true:=by
 have:a.getD j .non=a[j]:=by simp[b]
 rw[this]
 exact p4.mp h _ (u0S b)
def AtL.nth {a:zm}{f:zx}{b:zB}{j:Nat}(e:AtL F a f)(r:yw f b)(h:j<b.length):∃ x,At F (a.getD j .non) x/\xi x b[j]:=by
 have o:=e.length
 have m:=r.length
 have c:j<a.length:=by omega
 obtain⟨x,l,k⟩:=e.get (i:=j) (d:=a[j]) (by simp[c])
 obtain⟨u,n,g⟩:=r.get l
 refine⟨x,by rw[show a.getD j .non=a[j] by simp[c]];exact k,?_⟩
 have:b[j]?=some b[j]:=by simp[h]
 rw[n]at this
 cases this
 exact g
omit [KK] in
def zdP {d:D}(a:okE 0 d=true)(b:okE 0 e=true):eqN n d e=eqV (vOf d) (vOf e):=by
 cases n <;> cases d <;> first | (cases a;done) | skip
 all_goals cases e <;> first | (cases b;done) | rfl
omit [KK] in
def zeD {n:Nat}{d:D}(a:zm)(h:okE 0 d=true):eqN (n+1) d (.tup a)=false/\eqN (n+1) d (.lst a)=false/\eqN (n+1) (.tup a) d=false/\eqN (n+1) (.lst a) d=false:=by
 cases d <;> first | exact⟨rfl,rfl,rfl,rfl⟩ | cases h
omit [KK] in
def zaT {A:zR}{s:zn}{d:D}{p:Addr}(h:okE 0 d=true)(r:xi (vOf d) u)(c:A.units<cLine) :
 (s.heap.IsTuple p e->SeqAt.EqAt A s u (.ref p) false/\SeqAt.EqAt A s (.ref p) u false)/\(s.heap.IsList p e->SeqAt.EqAt A s u (.ref p) false/\SeqAt.EqAt A s (.ref p) u false):=by
 cases d with
 | non=>cases r;exact⟨λa=>⟨.none_tuple a c,.tuple_none a c⟩,λa=>⟨.none_list a c,.list_none a c⟩⟩
 | bl b=>cases r;exact⟨λa=>⟨.bool_tuple b a c,.tuple_bool b a c⟩,λa=>⟨.bool_list b a c,.list_bool b a c⟩⟩
 | int b=>obtain⟨t,rfl⟩:=r;exact⟨λa=>⟨.int_tuple b t a c,.tuple_int b t a c⟩,λa=>⟨.int_list b t a c,.list_int b t a c⟩⟩
 | str b=>obtain⟨t,rfl⟩:=r;exact⟨λa=>⟨.str_tuple b t a c,.tuple_str b t a c⟩,λa=>⟨.str_list b t a c,.list_str b t a c⟩⟩
 | _=>cases h
def za7 {s:zn}(I:Inv X c σ H s)(h:zX F H)(a:At F (.tup e) x)(r:xi x u):∃ p b d,u=.ref p/\x=.ref p/\yw d b/\AtL F e d/\s.heap.IsTuple p b.toArray:=by
 obtain⟨p,d,rfl,g,i⟩:=a.tup_inv
 cases r
 obtain⟨b,j,f,k⟩:=I.tuple (SqT.of (h _ _ g))
 exact⟨p,b,d,rfl,rfl,j,i,f⟩
def zaH {s:zn}(I:Inv X c σ H s)(h:zX F H)(a:At F (.lst e) x)(r:xi x u):∃ p b d,u=.ref p/\x=.ref p/\yw d b/\AtL F e d/\s.heap.IsList p b.toArray:=by
 obtain⟨p,d,rfl,g,i⟩:=a.lst_inv
 cases r
 obtain⟨b,j,f,k⟩:=I.list (SqL.of (h _ _ g))
 exact⟨p,b,d,rfl,rfl,j,i,f.isList⟩
omit [KK] in
def zgN (a b:zm):((List.zipWith (eqN n) a b).all id&&a.length == b.length)=((List.range (min a.length b.length)).all (λj=>eqN n (a.getD j .non) (b.getD j .non))&&a.length == b.length):=by rw[zaQ]
def zbZ (I:Inv X S σ H s)(C:zX F H):∀ (n:Nat) {A:zR} {d e:D} {x y:V} {u v:Value},okE n d=true->okE n e=true->At F d x->At F e y->xi x u->xi y v->A.units+n<cLine->SeqAt.EqAt A s u v (eqN n d e):=by
 intro n
 induction n with
 | zero =>
  intro A d e x y u v E w z h J o hu
  cases wS E z
  cases wS w h
  rw[zdP E w]
  exact zle J o (X3 E) (X3 w)
 | succ n ih =>
  intro A d e x y u v E w z h J o hu
  have c:A.units<cLine:=l7 (u0l _ _) hu
  have P:A.units+1+n<cLine:=by rw[Nat.add_assoc,Nat.add_comm 1 n];exact hu
  rcases wI E with L | ⟨l,rfl,W⟩ | ⟨l,rfl,W⟩
  .cases wS L z
   rcases wI w with r | ⟨f,rfl,G⟩ | ⟨f,rfl,G⟩
   .cases wS r h
    rw[zdP L r]
    exact zle J o (X3 L) (X3 r)
   .obtain⟨q,b,U,rfl,_,_,_,a⟩:=za7 I C h o
    rw[(zeD f L).1]
    exact((zaT L J c).1 a).1
   .obtain⟨q,b,U,rfl,_,_,_,a⟩:=zaH I C h o
    rw[(zeD f L).2.1]
    exact((zaT L J c).2 a).1
  .obtain⟨p,N,xs,rfl,M,R,O,B⟩:=za7 I C z J
   rcases wI w with r | ⟨f,rfl,G⟩ | ⟨f,rfl,G⟩
   .cases wS r h
    rw[(zeD l r).2.2.1]
    exact((zaT r o c).1 B).2
   .obtain⟨q,b,U,rfl,K,m,bl,a⟩:=za7 I C h o
    by_cases i:p=q
    .subst i
     rw[M]at z
     rw[K]at h
     rw[zlp (n+1) E w z h]
     exact .same _
    .have g:N.toArray.size=l.length:=by rw[t9,<- R.length,O.length]
     have k:b.toArray.size=f.length:=by rw[t9,<- m.length,bl.length]
     have:=SeqAt.RcAt.tuples (A:=A) (e:=λj=>eqN n (l.getD j .non) (f.getD j .non)) B a c λj T Q=>by
      obtain⟨x',Z,Y⟩:=O.nth R (j:=j) T
      obtain⟨y',ay,ry⟩:=bl.nth m (j:=j) Q
      exact ih (wM W (g ▸ T)) (wM G (k ▸ Q)) Z ay Y ry P
     rw[g,k]at this
     rw[show eqN (n+1) (.tup l) (.tup f)=_ from zgN l f]
     exact u2A i this
   .obtain⟨q,b,U,rfl,_,_,_,a⟩:=zaH I C h o
    exact .tuple_list B a c
  .obtain⟨p,N,xs,rfl,M,R,O,B⟩:=zaH I C z J
   rcases wI w with r | ⟨f,rfl,G⟩ | ⟨f,rfl,G⟩
   .cases wS r h
    rw[(zeD l r).2.2.2]
    exact((zaT r o c).2 B).2
   .obtain⟨q,b,U,rfl,_,_,_,a⟩:=za7 I C h o
    exact .list_tuple B a c
   .obtain⟨q,b,U,rfl,K,m,bl,a⟩:=zaH I C h o
    by_cases i:p=q
    .subst i
     rw[M]at z
     rw[K]at h
     rw[zlp (n+1) E w z h]
     exact .same _
    .have g:N.toArray.size=l.length:=by rw[t9,<- R.length,O.length]
     have k:b.toArray.size=f.length:=by rw[t9,<- m.length,bl.length]
     rw[show eqN (n+1) (.lst l) (.lst f)=_ from zgN l f]
     by_cases t:l.length=f.length
     .have:=SeqAt.RcAt.lists (A:=A) (e:=λj=>eqN n (l.getD j .non) (f.getD j .non)) B a (by rw[g,k,t]) c λj T Q=>by
       obtain⟨x',Z,Y⟩:=O.nth R (j:=j) T
       obtain⟨y',ay,ry⟩:=bl.nth m (j:=j) Q
       exact ih (wM W (g ▸ T)) (wM G (k ▸ Q)) Z ay Y ry P
      rw[g]at this
      rw[<-t,Nat.min_self,u0T,u2N]
      exact u2A i this
     .have:=SeqAt.RcAt.lists_lengths (A:=A) B a (by rw[g,k];exact bne_iff_ne.mpr t) c
      rw[g0.mpr t,u0U]
      exact u2A i this
def zkR (d:D)(a:zm):Option Bool:=if okE 20 d=true/\a.all (okE 20)=true then some (a.any λe=>eqN 20 e d)else none
def inD (d e:D):Option D:=(wk e).bind λa=>(zkR d a).map .bl
def zey (d e:D):Option D:=(wk e).bind λa=>(zkR d a).map λb=>.bl (!b)
open Classical in
noncomputable def zb2 (F:Hp)(d:D)(u:Value):Bool:=decide (∃ a x,At F a x/\xi x u/\okE 20 a=true/\eqN 20 a d=true)
open Classical in
def zcR {d:D}(a:At F b x)(r:xi x u)(k:okE 20 b=true):zb2 F d u=eqN 20 b d:=by
 unfold zb2
 cases h:eqN 20 b d with
 | true=>exact q0 ⟨b,x,a,r,k,h⟩
 | false =>
  refine t8 ?_
  rintro⟨j,y,i,g,f,c⟩
  have e:=g.inj r
  subst e
  rw[zld 20 f k i a]at c
  rw[c]at h
  cases h
def Zw {d:D}:∀ {a:zm} {b:zx} {c:zB},AtL F a b->yw b c->a.all (okE 20)=true->c.any (zb2 F d)=a.any λe=>eqN 20 e d
 | [],_,_,al,r,_=>by cases al.nil_inv;cases r;rfl
 | e::a,_,_,al,r,k=>by
  obtain⟨x,b,rfl,h,f⟩:=al.cons_inv
  cases r with
  | cons g i =>
   rw[u14,j0]at k
   rw[u15,u15,zcR h g k.1,Zw f i k.2]
section
variable {X:Cx}
def zqX (a:Bool):R2:=λx y H Q=>∃ F d e c b,zX F H/\At F d x/\At F e y/\wk e=some c/\zkR d c=some b/\Q (.bl (if a then !b else b)) H
def zet {k:Nat}(L:xk k X.A):OpR X (compareOp .In) (zqX false):=by
 intro E s σ H x y v u Q I N J h
 obtain⟨F,d,e,C,b,w,O,D,M,A,q⟩:=h
 unfold zkR at A
 split at A <;> cases A
 rename_i m
 have P:X.A.in1.units+20<cLine:=by have:=L.un;show X.A.units+1+20<cLine;omega
 have g:∀ {i:zx} {o:zB},AtL F C i->yw i o->∀ z∈o,SeqAt.EqAt X.A.in1 s z v (zb2 F d z):=λ{i o} c r z f=>by
  obtain⟨j,K,rfl⟩:=u1f f
  obtain⟨R,G,l⟩:=c.nth r K
  have t:j<C.length:=by have:=c.length;have:=r.length;omega
  have B:=wM m.2 t
  rw[zcR G l B]
  exact zbZ I w 20 B m.1 G O l N P
 cases e <;> cases M
 .obtain⟨p,i,rfl,n,c⟩:=D.tup_inv
  cases J
  obtain⟨a,r,pl,f⟩:=I.tuple (SqT.of (w _ _ n))
  refine SeqAt.in_tupleAt (zb2 F d) pl (λz f=>g c r z (by simpa using f)) ⟨.bl _,H,I,rfl,?_⟩
  rw[show a.toArray.any (zb2 F d)=a.any (zb2 F d) by simp,Zw c r m.2]
  exact q
 .obtain⟨p,i,rfl,n,c⟩:=D.lst_inv
  cases J
  obtain⟨a,r,pl,f⟩:=I.list (SqL.of (w _ _ n))
  refine SeqAt.in_listAt (zb2 F d) pl.isList (λz f=>g c r z (by simpa using f)) ⟨.bl _,H,I,rfl,?_⟩
  rw[show a.toArray.any (zb2 F d)=a.any (zb2 F d) by simp,Zw c r m.2]
  exact q
def zgh {k:Nat}(L:xk k X.A):OpR X (compareOp .NotIn) (zqX true):=by
 intro E s σ H x y v u Q I N J h
 obtain⟨F,d,e,C,b,w,O,D,M,A,q⟩:=h
 unfold zkR at A
 split at A <;> cases A
 rename_i m
 have P:X.A.in1.units+20<cLine:=by have:=L.un;show X.A.units+1+20<cLine;omega
 have g:∀ {i:zx} {o:zB},AtL F C i->yw i o->∀ z∈o,SeqAt.EqAt X.A.in1 s z v (zb2 F d z):=λ{i o} c r z f=>by
  obtain⟨j,K,rfl⟩:=u1f f
  obtain⟨R,G,l⟩:=c.nth r K
  have t:j<C.length:=by have:=c.length;have:=r.length;omega
  have B:=wM m.2 t
  rw[zcR G l B]
  exact zbZ I w 20 B m.1 G O l N P
 cases e <;> cases M
 .obtain⟨p,i,rfl,n,c⟩:=D.tup_inv
  cases J
  obtain⟨a,r,pl,f⟩:=I.tuple (SqT.of (w _ _ n))
  refine SeqAt.notIn_tupleAt (zb2 F d) pl (λz f=>g c r z (by simpa using f)) ⟨.bl _,H,I,rfl,?_⟩
  rw[show a.toArray.any (zb2 F d)=a.any (zb2 F d) by simp,Zw c r m.2]
  exact q
 .obtain⟨p,i,rfl,n,c⟩:=D.lst_inv
  cases J
  obtain⟨a,r,pl,f⟩:=I.list (SqL.of (w _ _ n))
  refine SeqAt.notIn_listAt (zb2 F d) pl.isList (λz f=>g c r z (by simpa using f)) ⟨.bl _,H,I,rfl,?_⟩
  rw[show a.toArray.any (zb2 F d)=a.any (zb2 F d) by simp,Zw c r m.2]
  exact q
def zdF:OpD (zqX false) inD:=by
 intro F H x y d e z Q s a i f q
 obtain⟨j,c,g⟩:=u4.mp f
 obtain⟨b,h,rfl⟩:=t4.mp g
 exact⟨F,d,e,j,b,s,a,i,c,h,q F H _ (.refl s) .bl⟩
def zik:OpD (zqX true) zey:=by
 intro F H x y d e z Q s a i f q
 obtain⟨j,c,g⟩:=u4.mp f
 obtain⟨b,h,rfl⟩:=t4.mp g
 exact⟨F,d,e,j,b,s,a,i,c,h,q F H _ (.refl s) .bl⟩
def eqG (d e:D):Option Bool:=match d,e with
 | .tup _,.tup _=>if okE 20 d=true/\okE 20 e=true then some (eqN 20 d e)else none
 | .lst _,.lst _=>if okE 20 d=true/\okE 20 e=true then some (eqN 20 d e)else none
 | _,_=>eqS d e
def x9 (d e:D):Option D:=(eqG d e).map .bl
def zqV:R2:=λx y H Q=>∃ F d e,zX F H/\At F d x/\At F e y/\((∃ a b,d=.tup a/\e=.tup b)\/(∃ a b,d=.lst a/\e=.lst b))/\okE 20 d=true/\okE 20 e=true/\Q (.bl (eqN 20 d e)) H
def zoN {k:Nat}(U:xk k X.A):OpR X (compareOp .Eq) zqV:=by
 intro T s σ H x y v u Q I n t h
 obtain⟨F,d,e,o,S,R,W,N,O,q⟩:=h
 have D:X.A.units+30<cLine:=by have:=U.un;omega
 rcases W with ⟨g,c,rfl,rfl⟩ | ⟨g,c,rfl,rfl⟩
 .obtain⟨p,Z,rfl,E,z⟩:=S.tup_inv
  obtain⟨P,ys,rfl,G,bl⟩:=R.tup_inv
  cases n
  cases t
  obtain⟨m,r,C,V⟩:=I.tuple (SqT.of (o _ _ E))
  obtain⟨b,w,i,L⟩:=I.tuple (SqT.of (o _ _ G))
  have a:m.toArray.size=g.length:=by rw[t9,<- r.length,z.length]
  have f:b.toArray.size=c.length:=by rw[t9,<- w.length,bl.length]
  refine SeqAt.eq_tupleAt (e:=λj=>eqN 19 (g.getD j .non) (c.getD j .non)) (show s.heap.IsTuple p m.toArray from C) (show s.heap.IsTuple P b.toArray from i) (by omega) (λj B A=>?_) ⟨.bl _,H,I,rfl,?_⟩
  .obtain⟨x',J,n⟩:=z.nth r (j:=j) (by simpa using B)
   obtain⟨Y,K,t⟩:=bl.nth w (j:=j) (by simpa using A)
   exact zbZ I o 19 (wM N (by rw[<-a];exact B)) (wM O (by rw[<-f];exact A)) J K (by simpa using n) (by simpa using t) (l7 (show X.A.units+20<=X.A.units+30 from u0P (by decide) _) D)
  .rw[a,f,<- zaQ]
   exact q
 .obtain⟨p,Z,rfl,E,z⟩:=S.lst_inv
  obtain⟨P,ys,rfl,G,bl⟩:=R.lst_inv
  cases n
  cases t
  obtain⟨m,r,C,V⟩:=I.list (SqL.of (o _ _ E))
  obtain⟨b,w,i,L⟩:=I.list (SqL.of (o _ _ G))
  have a:m.toArray.size=g.length:=by rw[t9,<- r.length,z.length]
  have f:b.toArray.size=c.length:=by rw[t9,<- w.length,bl.length]
  have M:eqN 20 (.lst g) (.lst c)=((List.range (min g.length c.length)).all (λj=>eqN 19 (g.getD j .non) (c.getD j .non))&&g.length == c.length):=by
   show((List.zipWith (eqN 19) g c).all id&&g.length == c.length)=_
   rw[zaQ]
  by_cases l:g.length=c.length
  .refine SeqAt.eq_listAt (e:=λj=>eqN 19 (g.getD j .non) (c.getD j .non)) C.isList i.isList (by rw[a,f];exact l) (l7 (u0l _ 30) D) (λj B A=>?_) ⟨.bl _,H,I,rfl,?_⟩
   .obtain⟨x',J,n⟩:=z.nth r (j:=j) (by simpa using B)
    obtain⟨Y,K,t⟩:=bl.nth w (j:=j) (by simpa using A)
    exact zbZ I o 19 (wM N (by rw[<-a];exact B)) (wM O (by rw[<-f];exact A)) J K (by simpa using n) (by simpa using t) (l7 (show X.A.units+20<=X.A.units+30 from u0P (by decide) _) D)
   .rw[a]
    rw[M,<- l,Nat.min_self]at q
    simpa using q
  .refine SeqAt.eq_list_lengthsAt C.isList i.isList (by rw[a,f];simpa using l) (l7 (u0l _ 30) D) ⟨.bl _,H,I,rfl,?_⟩
   have:(g.length == c.length)=false:=by simpa using l
   rw[M,this,u0U]at q
   exact q
def zl3:OpD zqV (λd e=>match d,e with
 | .tup _,.tup _=>if okE 20 d=true/\okE 20 e=true then some (.bl (eqN 20 d e))else none
 | .lst _,.lst _=>if okE 20 d=true/\okE 20 e=true then some (.bl (eqN 20 d e))else none
 | _,_=>none):=by
 intro F H x y d e z Q s f c a q
 dsimp only at a
 split at a
 .split at a <;> cases a
  rename_i b
  exact⟨F,_,_,s,f,c,.inl ⟨_,_,rfl,rfl⟩,b.1,b.2,q F H _ (.refl s) .bl⟩
 .split at a <;> cases a
  rename_i b
  exact⟨F,_,_,s,f,c,.inr ⟨_,_,rfl,rfl⟩,b.1,b.2,q F H _ (.refl s) .bl⟩
 .cases a
def yy {k:Nat}(a:xk k X.A):OpR X (compareOp .Eq) (λx y H Q=>rEq x y H Q\/zqV x y H Q):=zq4.or (zoN a)
def zZ:OpD (λx y H Q=>rEq x y H Q\/zqV x y H Q) x9:=by
 refine zc9 (zby zlK zl3) λd e z h=>?_
 obtain⟨b,a,rfl⟩:=t4.mp h
 unfold eqG at a
 split at a
 .split at a <;> cases a
  rename_i c
  show(Option.or none (if okE 20 _=true/\okE 20 _=true then some (D.bl (eqN 20 _ _))else none))=_
  rw[t7 c]
  rfl
 .split at a <;> cases a
  rename_i c
  show(Option.or none (if okE 20 _=true/\okE 20 _=true then some (D.bl (eqN 20 _ _))else none))=_
  rw[t7 c]
  rfl
 .show((eqD d e).or _)=_
  unfold eqD
  rw[a]
  rfl
def zeh {d:xC}{t:zx}{A:zR}{Q:yU}(I:Inv X d σ H s)(C:A.handled=none)(h:SqL X.K H a t\/SqT X.K H a t) (k:∀ (F:Addr) (c:zB) (B D:xS) (St:Nat->Heap->Prop) (f:zn),yw t c->Walks X.prog X.w A F B D c.length (λi v=>c[i]?=some v) St->St 0 f.heap->(∀ b∈B,b<f.heap.objs.size) ->
 (∀ (l:Heap) (q:Nat),(∀ b o,b∉D->f.heap.get? b=some o->l.get? b=some o)->Inv X d σ H { f with heap:=l,toks:=q })->Q (.ref F) f) :
 wpAny (model X.prog X.w) A (pyIter (.ref a)) Q E s:=by
 have g:∀ {o:Obj} {f:zn},f={ s with heap:=s.heap.push o }->∀ (l:Heap) (q:Nat),(∀ b u,b∉[s.heap.objs.size]->f.heap.get? b=some u->l.get? b=some u)->Inv X d σ H { f with heap:=l,toks:=q }:=λ{o f} e l q kk=>by
  subst e
  exact I.kept (t':=q) λb u z=>kk b u (by simpa using k6 (q4 z)) (u6 _ z)
 rcases h with h | h
 .obtain⟨c,r,p,G⟩:=I.list h
  have m:a<s.heap.objs.size:=by obtain⟨o,n,x,_⟩:=p;exact q4 x
  refine u0M p.isList ?_
  have W:=Walks.list (prog:=X.prog) (w:=X.w) (A:=A) C s.heap.objs.size a (k6 m) c.toArray
  refine k s.heap.objs.size c [s.heap.objs.size,a] [s.heap.objs.size] (λi h=>h.IsListIter s.heap.objs.size a i/\h.IsList a c.toArray) _ r (by simpa using W) ⟨⟨_,j8 _ rfl,rfl,rfl⟩,p.isList.at λo e=>u6 _ e⟩ (λb j=>?_) (g rfl)
  show b<(s.heap.push _).objs.size
  rw[p6]
  rcases q7.mp j with rfl | j
  .exact u1c _
  .rw[j5.mp j];exact u0y m
 .obtain⟨c,r,p,G⟩:=I.tuple h
  have y:s.heap.IsTuple a c.toArray:=p
  have m:a<s.heap.objs.size:=by obtain⟨o,x,_⟩:=p;exact q4 x
  refine i9 y ?_
  have W:=Walks.tuple (prog:=X.prog) (w:=X.w) (A:=A) C s.heap.objs.size a (k6 m) c.toArray
  refine k s.heap.objs.size c [s.heap.objs.size,a] [s.heap.objs.size] (λi h=>h.IsTupleIter s.heap.objs.size a i/\h.IsTuple a c.toArray) _ r (by simpa using W) ⟨⟨_,j8 _ rfl,rfl,rfl⟩,y.at λo e=>u6 _ e⟩ (λb j=>?_) (g rfl)
  show b<(s.heap.push _).objs.size
  rw[p6]
  rcases q7.mp j with rfl | j
  .exact u1c _
  .rw[j5.mp j];exact u0y m
end
end Dl
namespace Dl
open PySem L2
variable [KK]
omit [KK] in
def zhs {a:List Bool}:(List.range a.length).all (λi=>a.getD i false)=a.all id:=by
 have:a=(List.range a.length).map λi=>a.getD i false:=by
  apply List.ext_getElem
  .simp
  .intro i b c
   simp[b]
 conv=>rhs;rw[this]
 rw[u1N]
 rfl
omit [KK] in
def zhL:∀ (ns:zC) (n:Nat),n<=ns.length->preSum (λi=>ns.getD i 0) n=(ns.take n).sum:=by
 intro ns n
 induction n with
 | zero=>intro _;simp[preSum]
 | succ n a =>
  intro h
  show preSum (λi=>ns.getD i 0) n+ns.getD n 0=_
  rw[a (by omega),List.take_succ,List.sum_append]
  have:ns[n]?=some ns[n]:=by simp[show n<ns.length by omega]
  simp[this]
section
variable {X:Cx}
omit [KK] in
def zmb {b:List Bool}{i:Nat}(r:yw (b.map V.bl) a)(h:a[i]?=some v):v=.bool (b.getD i false):=by
 have e:=r.length
 have f:i<a.length:=(j3.mp h).1
 rw[u9]at e
 obtain⟨u,c,d⟩:=r.get (i:=i) (x:=.bl (b[i]'(by omega))) (by rw[k9];simp[show i<b.length by omega])
 rw[h]at c
 cases c
 cases d
 simp[show i<b.length by omega]
omit [KK] in
def zkH {ns:zC}{i:Nat}(r:yw (ns.map V.int) a)(h:a[i]?=some v):∃ t,v=.int (ns.getD i 0) t:=by
 have c:=r.length
 have e:i<a.length:=(j3.mp h).1
 rw[u9]at c
 obtain⟨u,b,d⟩:=r.get (i:=i) (x:=.int (ns[i]'(by omega))) (by rw[k9];simp[show i<ns.length by omega])
 rw[h]at b
 cases b
 obtain⟨t,rfl⟩:=d
 exact⟨t,by simp[show i<ns.length by omega]⟩
def zcr (g:X.calm=true):v5 X (.builtin "all") (λd H Q=>∃ (p:Addr) (a:List Bool),d=[.ref p]/\(SqL X.K H p (a.map V.bl)\/SqT X.K H p (a.map V.bl))/\Q (.bl (a.all id)) H):=by
 intro e s σ H d C Q I r h
 obtain⟨p,a,rfl,w,q⟩:=h
 obtain⟨u,rfl,j⟩:=XF r
 cases j
 refine call_all_walk (zeh I (I.ok.hd g) w λB z k m St D c W l t b=>?_)
 have f:=c.length
 rw[u9]at f
 refine⟨B,k,m,_,_,St,λi=>a.getD i false,rfl,W,l,λi v s Q E x n=>?_,λy o A=>⟨.bl _,H,b y o A,rfl,?_⟩⟩
 .rw[zmb c x]
  exact u0e n
 .rw[<-f,zhs]
  exact q
def zhY (k:X.calm=true):v5 X (.builtin "sum") (λf H Q=>∃ (p:Addr) (ns:zC),f=[.ref p]/\(SqL X.K H p (ns.map V.int)\/SqT X.K H p (ns.map V.int))/\Q (.int ns.sum) H):=by
 intro c s σ H f B Q I r h
 obtain⟨p,ns,rfl,m,q⟩:=h
 obtain⟨u,rfl,o⟩:=XF r
 cases o
 refine call_sum_walkG (zeh I (I.ok.hd k) m λA n t j St C e W g b a=>?_)
 have d:=e.length
 rw[u9]at d
 refine⟨A,t,j,_,_,St,λi=>ns.getD i 0,rfl,W,g,b,λi v w=>zkH e w,λz l y x=>⟨.int ns.sum,H,a z l x,?_,q⟩⟩
 refine⟨y,?_⟩
 rw[<-d,zhL ns _ (t6 _),u1W]
omit [KK] in
def getD_mem {ns:zC}{k:Nat}(h:k<ns.length):ns.getD k 0∈ns:=by
 rw[i8,g5 h]
 exact u0S h
omit [KK] in
def getD_at {ns:zC}{k:Nat}(h:k<ns.length):ns.getD k 0=ns[k]:=by
 rw[i8,g5 h]
 rfl
def zns:zm->Option (List Bool)
 | []=>some []
 | .bl b::ds=>(zns ds).map (b::·)
 | _=>none
def znZ:zm->Option zC
 | []=>some []
 | .int b::ds=>(znZ ds).map (b::·)
 | _=>none
omit [KK] in
def zf2:∀ {b:zm} {a:List Bool},zns b=some a->b=a.map .bl
 | [],a,h=>by cases h;rfl
 | d::b,a,h=>by
  cases d <;> try cases h
  obtain⟨e,c,rfl⟩:=t4.mp h
  rw[zf2 c]
  rfl
omit [KK] in
def ziL:∀ {b:zm} {a:zC},znZ b=some a->b=a.map .int
 | [],a,h=>by cases h;rfl
 | d::b,a,h=>by
  cases d <;> try cases h
  obtain⟨e,c,rfl⟩:=t4.mp h
  rw[ziL c]
  rfl
omit [KK] in
def zkF (a:List Bool):zns (a.map .bl)=some a:=by
 induction a with
 | nil=>rfl
 | cons b r c=>show(zns (r.map .bl)).map (b::·)=_;rw[c];rfl
omit [KK] in
def zja (a:zC):znZ (a.map .int)=some a:=by
 induction a with
 | nil=>rfl
 | cons b r c=>show(znZ (r.map .int)).map (b::·)=_;rw[c];rfl
def AtL.of_bls:∀ {ns:List Bool} {a:zx},AtL H (ns.map D.bl) a->a=ns.map V.bl
 | [],_,h=>h.nil_inv
 | n::r,_,h=>by
  obtain⟨x,d,rfl,b,c⟩:=AtL.cons_inv (by simpa using h)
  rw[b.bl_inv,AtL.of_bls c]
  rfl
def zqM {α:Type}(a:zm->Option α)(g:α->Option D):wm
 | [d]=>((wk d).bind a).bind g
 | _=>none
def zih {α:Type}{h:zm->Option α}{g:α->Option D}(s:zX F H)(n:AtL F i j)(e:zqM h g i=some z) :
 ∃ p f a b,j=[.ref p]/\(SqL K H p a\/SqT K H p a)/\AtL F f a/\h f=some b/\g b=some z:=by
 unfold zqM at e
 split at e
 .obtain⟨b,o,l⟩:=u4.mp e
  obtain⟨f,q,m⟩:=u4.mp o
  obtain⟨x,r,rfl,k,t⟩:=n.cons_inv
  cases t.nil_inv
  rename_i d
  cases d <;> cases q
  .obtain⟨p,a,rfl,c,bl⟩:=k.tup_inv
   exact⟨p,_,a,b,rfl,.inr (SqT.of (s _ _ c)),bl,m,l⟩
  .obtain⟨p,a,rfl,c,bl⟩:=k.lst_inv
   exact⟨p,_,a,b,rfl,.inl (SqL.of (s _ _ c)),bl,m,l⟩
 .cases e
def zn3:=zqM zns λa=>some (.bl (a.all id))
def zrx:=zqM znZ λns=>some (.int ns.sum)
def zgL:CaD (λc H Q=>∃ (p:Addr) (a:List Bool),c=[.ref p]/\(SqL K H p (a.map V.bl)\/SqT K H p (a.map V.bl))/\Q (.bl (a.all id)) H) zn3:=by
 intro F H i h z Q s d e q
 obtain⟨p,j,c,a,rfl,b,bl,f,g⟩:=zih (K:=K) s d e
 cases g
 rw[zf2 f]at bl
 rw[bl.of_bls]at b
 exact⟨p,a,rfl,b,q F H _ (.refl s) .bl⟩
def zmW:CaD (λb H Q=>∃ (p:Addr) (ns:zC),b=[.ref p]/\(SqL K H p (ns.map V.int)\/SqT K H p (ns.map V.int))/\Q (.int ns.sum) H) zrx:=by
 intro F H i h z Q s c e q
 obtain⟨p,j,b,d,rfl,a,bl,f,g⟩:=zih (K:=K) s c e
 cases g
 rw[ziL f]at bl
 rw[bl.of_ints]at a
 exact⟨p,d,rfl,a,q F H _ (.refl s) .int⟩
end
end Dl
namespace Dl
open PySem L2
variable [KK]
section
variable {X:Cx}{tg a b c e:Expr}{pos:Pos}
def ziR:zm->zm->zm
 | x::xs,y::ys=>.tup [x,y]::ziR xs ys
 | _,_=>[]
omit [KK] in
def zdM:∀ (b a:zm) (i:Nat),(ziR b a)[i]?=match b[i]?,a[i]? with | some x,some y=>some (.tup [x,y]) | _,_=>none
 | [],a,i=>by simp[ziR]
 | x::b,[],i=>by simp[ziR]
 | x::b,y::a,0=>by simp[ziR]
 | x::b,y::a,i+1=>by simpa [ziR]using zdM b a i
omit [KK] in
def WU:∀ (a b:zm),a.length<=b.length->(ziR a b).length=a.length
 | [],b,_=>by simp[ziR]
 | x::a,[],h=>by simp at h
 | x::a,y::b,h=>by simp[ziR,WU a b (by simpa using h)]
def YU (f:yx):yx:=fun ρ=>(f ρ).bind λc=>match c with
 | [d,e]=>(wk d).bind λb=>(wk e).bind λa=>if b.length<=a.length then some (ziR b a)else none
 | _=>none
def zoK {d:D}(s:zX F H)(h:At F d v)(e:wk d=some j):∃ b p a,v=.ref p/\(∀ {F' H':Hp},zX F F'->zX F' H'->Sq b K H' p a)/\AtL F j a:=by
 cases d <;> cases e
 .obtain⟨p,a,rfl,f,g⟩:=h.tup_inv
  exact⟨false,p,a,rfl,λi c=>SqT.of (c _ _ (i _ _ f)),g⟩
 .obtain⟨p,a,rfl,f,g⟩:=h.lst_inv
  exact⟨true,p,a,rfl,λi c=>SqL.of (c _ _ (i _ _ f)),g⟩
def zpL {k:Nat} {p:Pos} {f:yx} (hg:Gl X "zip") (hm:X.mg "zip"=none) (ha:AD X [a,b] f) (hs:starEach [a,b] X.env=[(false,eval a X.env),(false,eval b X.env)]:=by rfl) (L:starEach [b] X.env=[(false,eval b X.env)]:=by rfl):ID X (.Tuple es k tp) (.Call (.Name "zip" p) [a,b] [] pos) (YU f):=by
 obtain⟨t,pa,r⟩:=ha
 refine⟨_,zoJ hg hm zpV pa hs L,fun σ ρ F H ds R s va e q=>?_⟩
 obtain⟨as,e1,o⟩:=u4.mp e
 refine r σ ρ F H as _ s va e1 λF1 H1 v l a1=>?_
 split at o
 .obtain⟨x,r',rfl,ax,M⟩:=a1.cons_inv
  obtain⟨y,r',rfl,ay,M⟩:=M.cons_inv
  cases M.nil_inv
  obtain⟨xs,e3,m⟩:=u4.mp o
  obtain⟨ys,e4,c⟩:=u4.mp m
  clear o m e
  split at c <;> cases c
  rename_i O
  obtain⟨b1,p1,w,rfl,h,S⟩:=zoK (K:=X.K) l.fh ax e3
  obtain⟨b2,p2,Q,rfl,n,bl⟩:=zoK (K:=X.K) l.fh ay e4
  refine⟨b1,b2,p1,p2,w,Q,rfl,h (zX.refl _) l.fh,n (zX.refl _) l.fh,q F1 H1 _ l λi F2 H2 B G=>?_⟩
  have J:=h B G
  have V:=n B G
  refine⟨λhl=>⟨w,J,by rw[hl,WU _ _ O,S.length]⟩,λd g=>?_⟩
  rw[zdM]at g
  cases A:xs[i]? with
  | none=>rw[A]at g;cases g
  | some x =>
   cases P:ys[i]? with
   | none=>rw[A,P]at g;cases g
   | some y =>
    rw[A,P]at g
    cases g
    obtain⟨u,U,au⟩:=S.get A
    obtain⟨Z,j,C⟩:=bl.get P
    refine⟨⟨w,Q,u,Z,J,V,U,j⟩,λz H3 hz=>?_⟩
    obtain⟨T,x',y',rfl,hT,rfl,E,I⟩:=hz
    have Y:=E w J
    have W:=I Q V
    rw[U]at Y
    rw[j]at W
    cases Y
    cases W
    have N:=Gr.alloc G hT (.tup [u,Z])
    exact⟨_,N,.tup zl (.cons (au.mono (B.trans N.ff)) (.cons (C.mono (B.trans N.ff)) .nil))⟩
 .cases o
def vI (g:zjX)(f:yx)(b:vL)(h:zz):zz:=fun ρ=>match (f (visG ρ)).bind g with
 | some a=>zel b h a ρ
 | none=>.no
def zeG {p c:Pos} {b:wU} {f:yx} {g:zz} (M:PassesOwn (model X.prog X.w) X.A X.env X.xe) (e:X.calm=true) (j:Gl X "range") (o:X.mg "range"=none) (G:AD X [a] f) (q:BD X tg n) (I:SDs X b g) (l:starEach [a] X.env=[(false,eval a X.env)]:=by rfl) (y:∀ x,foldedSetIterable (.Call (.Name "range" p) [a] [] pos) X.env x=pure x:=by intro _;rfl):SD X (.For tg (.Call (.Name "range" p) [a] [] pos) b [] c) (vI Zl f n g):=by
 obtain⟨t,N,r⟩:=G
 obtain⟨w,v,J⟩:=q
 obtain⟨R,s,K⟩:=I
 refine⟨_,zd0 M e (zbN j o N l) v s y,λFb Hb F H ρ σ E i k=>?_⟩
 unfold vI at k
 cases h:(f (visG ρ)).bind Zl with
 | none=>rw[h]at k;exact k.elim
 | some P =>
  rw[h]at k
  obtain⟨z,u,d⟩:=u4.mp h
  refine r σ _ _ H z _ i.gh i.visG u λF1 H1 O B A=>?_
  have m:=i.grow (i.back B).1
  unfold Zl at d
  split at d
  .split at d <;> cases d
   rename_i e
   obtain⟨x,Q,rfl,C,L⟩:=A.cons_inv
   cases L.nil_inv
   exact⟨_,by rw[C.int_inv],(wA.mp e).1,(wA.mp e).2,zlP (zhC 0 _) J K m k⟩
  .cases d
end
def znA {w:World}{g:wn}{f:Addr}{d:wh}{k:Nat}:xB P w K g a CX0 k f d b (spD m λ_=>none):=by
 refine⟨λc H Q E h=>?_,λA outer s H args i c Q E _ _ _ _ h=>?_⟩
 .obtain⟨_,_,_,_,_,_,e,_⟩:=h
  cases e
 .obtain⟨_,_,_,_,_,_,e,_⟩:=h
  cases e
def zqL (n:Nat)(g:wm->SE->Ctl):Nat->zm->Option D
 | 0=>λ_=>none
 | k+1=>fnD n (g (zqL n g k))
def zpq {w:World}{f:Addr}{N d:zH}{k0:Nat}{g:wm->SE->Ctl}(Fu:Fun K x a c f e)(S:yz N d (zk c))(j:∀ (k:Nat) (r:wm),xB P w K mg base CX0 (k0+k) f e d (spD d.length r)->∀ (b:Value) (A:zR) (outer:List Env) (s:zn) (H:Hp) (E:XK),xk (k0+k) (A.deeper (PyProof.Rows.envOfC a (zk c) s.heap.objs.size f b))->SDs (wZ CX0 P w K mg base N a (zk c) f b A outer s H E).nox (ya c) (g r)) :
 ∀ n,xB P w K mg base CX0 (k0+n) f e d (spD d.length (zqL N.length g n)):=by
 intro n
 induction n with
 | zero=>exact znA
 | succ n h=>exact Vo Fu S λb A outer s H E i=>j n _ h b A outer s H E i
def zgt (K:zv):Sp:=λb H Q _=>∃ (a:Addr) (ns:zC),b=[.ref a]/\SqL K H a (ns.map V.int)/\ns.length<=63/\∀ H',Q (.bl true) H'
end Dl
namespace Dl
open PySem L2
def zqp {w:World}{d:wn}{f:Addr}{k:Nat}{p:wm}(F:xB P w K d b CX0 k f c ps (@spD ⟨K,e⟩ 1 p))(h:∀ ns:zC,ns.length<=63->p [.scr ns]=some (.bl true)) :
 xB P w K d b CX0 k f c ps (zgt K):=by
 letI:KK:=⟨K,e⟩
 refine F.imp λm H Q E g=>?_
 obtain⟨a,ns,rfl,i,j,q⟩:=g
 refine⟨[.scr ns],.bl true,H,rfl,zX.refl _,.cons ?_ .nil,h ns j,λF' H' v _ l=>?_⟩
 .unfold At
  exact⟨a,rfl,i⟩
 .rw[l.bl_inv]
  exact q H'
structure Def (K:zv) (mg:wn) (x:Str) (st:Stmt) (ps:zH) (f:Addr) (fd:wh):Prop where
 fn:Fun K x x st f fd
 bd:xG K fd ps []
 at_:mg x=some (.ref f)
def Def.kp {f:Addr}(d:Def K e x a b f c):W.keepIn K (.ref f)=true:=d.fn.kp
inductive Ctl.w:Ctl->Z4->Z4->Z4->(D->Prop)->Prop where
 | nx {ρ:SE} {n b k:Z4} {r:D->Prop}:n ρ->Ctl.w (.nx ρ) n b k r
 | bk {ρ:SE} {n b k:Z4} {r:D->Prop}:b ρ->Ctl.w (.bk ρ) n b k r
 | ct {ρ:SE} {n b k:Z4} {r:D->Prop}:k ρ->Ctl.w (.ct ρ) n b k r
 | rt {d:D} {n b k:Z4} {r:D->Prop}:r d->Ctl.w (.rt d) n b k r
section
variable {ρ:SE}{d:D}{n b k:Z4}{r:D->Prop}
def Ctl.w.nxi (h:Ctl.w (.nx ρ) n b k r):n ρ:=by cases h;assumption
def Ctl.w.bki (h:Ctl.w (.bk ρ) n b k r):b ρ:=by cases h;assumption
def Ctl.w.cti (h:Ctl.w (.ct ρ) n b k r):k ρ:=by cases h;assumption
def Ctl.w.rti (h:Ctl.w (.rt d) n b k r):r d:=by cases h;assumption
def Ctl.w.noi (h:Ctl.w .no n b k r):False:=by cases h
end
abbrev noP:Z4:=λ_=>False
section
variable {g h:zz}{ρ ρ':SE}{n b k:Z4}{r:D->Prop}
def wH (e:(g ρ).w (fun ρ'=>(h ρ').w n b k r) b k r):(zK g h ρ).w n b k r:=by
 unfold zK
 cases a:g ρ with
 | nx ρ'=>rw[a]at e;exact e.nxi
 | bk ρ'=>rw[a]at e;exact .bk e.bki
 | ct ρ'=>rw[a]at e;exact .ct e.cti
 | rt d=>rw[a]at e;exact .rt e.rti
 | no=>rw[a]at e;exact e.noi.elim
def zw (e:g ρ=.nx ρ')(q:(h ρ').w n b k r):(zK g h ρ).w n b k r:=wH (by rw[e];exact .nx q)
def zcx (e:g ρ=.nx ρ')(q:n ρ'):(g ρ).w n b k r:=by rw[e];exact .nx q
def vJ {d:D}(e:g ρ=.rt d)(q:r d):(g ρ).w n b k r:=by rw[e];exact .rt q
def ziP {t:vr}(e:t (visG ρ)=some c)(a:c=true->(g ρ).w n b k r)(d:c=false->(h ρ).w n b k r):(sIf t g h ρ).w n b k r:=by
 unfold sIf
 rw[e]
 cases c with
 | true=>exact a rfl
 | false=>exact d rfl
def zqQ (e:zqK ρ i=ρ')(q:(g ρ').w n b k r):(sFz i g ρ).w n b k r:=by
 unfold sFz
 rw[e]
 exact q
theorem zhg {l:vL}(I:Nat->SE->Prop):∀ (c:zm) (j:Nat) (ρ:SE),I j ρ ->
 (∀ i d ρ,c[i]?=some d->I (j+i) ρ->∃ f,l d ρ=some f/\(g f).w (I (j+i+1)) n (I (j+i+1)) r)->(∀ ρ,I (j+c.length) ρ->n ρ)->(zel l g c ρ).w n b k r
 | [],j,ρ,h0,_,fin=>.nx (fin ρ h0)
 | d::c,j,ρ,h0,step,fin=>by
  obtain⟨f,o,a⟩:=step 0 d ρ rfl h0
  unfold zel
  rw[o]
  dsimp only
  have next:∀ ρ',I (j+1) ρ'->(zel l g c ρ').w n b k r:=fun ρ' p=>zhg I c (j+1) ρ' p
   (λi m ρ q h=>by
    have:=step (i+1) m ρ (by simpa using q) (by rw[show j+(i+1)=j+1+i by omega];exact h)
    rwa[show j+(i+1)+1=j+1+i+1 by omega]at this)
   (fun ρ h=>fin ρ (by rw[k7,show j+(c.length+1)=j+1+c.length by omega];exact h))
  cases e:g f with
  | nx ρ'=>rw[e]at a;exact next ρ' a.nxi
  | ct ρ'=>rw[e]at a;exact next ρ' a.cti
  | bk ρ'=>rw[e]at a;exact .nx a.bki
  | rt m=>rw[e]at a;exact .rt a.rti
  | no=>rw[e]at a;exact a.noi.elim
def zks {f:yx}{j:vL}{ds:zm}(I:Nat->SE->Prop)(e:f (visF ρ)=some ds)(h0:I 0 ρ)
 (c:∀ i d ρ,ds[i]?=some d->I i ρ->∃ h,j d ρ=some h/\(g h).w (I (i+1)) n (I (i+1)) r) (fin:∀ ρ,I ds.length ρ->n ρ):(XG f j g ρ).w n b k r:=by
 unfold XG
 rw[e]
 exact zhg I ds 0 ρ h0 (λi d ρ l a=>by rw[g8]at a ⊢;exact c i d ρ l a) (fun ρ a=>fin ρ (by rw[g8]at a;exact a))
def zlU {f:yx}{p:vL}(I:Nat->SE->Prop)(e:(f (visG ρ)).bind o=some (VY lo c))(h0:I 0 ρ)(j:∀ (i:Nat) ρ,i<c->I i ρ->∃ m,p (.int (lo+i)) ρ=some m/\(g m).w (I (i+1)) n (I (i+1)) r)(fin:∀ ρ,I c ρ->n ρ):(vI o f p g ρ).w n b k r:=by
 unfold vI
 rw[e]
 refine zhg I (VY lo c) 0 ρ h0 (λi d ρ a h=>?_) (fun ρ h=>fin ρ ?_)
 .rw[g8]at h ⊢
  unfold VY at a
  rw[k9]at a
  by_cases l:i<c
  .rw[List.getElem?_range l]at a
   cases a
   exact j i ρ l h
  .rw[u1O (by simpa using l)]at a
   cases a
 .rw[g8]at h
  rwa[show(VY lo c).length=c by unfold VY;simp]at h
end
def Yp {m:Nat}{g:zz}{b:zm}{d:D}(e:b.map .v++List.replicate (m-b.length) .no=ρ)(q:(g ρ).w (λ_=>d=.non) noP noP (λc=>c=d)):fnD m g b=some d:=by
 unfold fnD
 rw[e]
 cases a:g ρ with
 | nx f=>rw[a]at q;rw[show d=.non from q.nxi]
 | rt c=>rw[a]at q;rw[show c=d from q.rti]
 | bk _=>rw[a]at q;exact q.bki.elim
 | ct _=>rw[a]at q;exact q.cti.elim
 | no=>rw[a]at q;exact q.noi.elim
def zlN {i:Nat}{f:zU}{ρ:SE}{ds:zm}{d:D}(a:vEv m f ρ=some d)(b:ρ[i]?=some (.o ds))(c:ds.length<=1000):Vm m i f ρ=.nx (ρ.set i (.o (ds++[d]))):=by
 unfold Vm
 rw[a,b]
 show(match (if decide (ds.length<sizeLine)=true then some (ρ.set i (.o (ds++[d])))else none)with | some e=>Ctl.nx e | none=>Ctl.no)=_
 rw[t7 (q0 (vT c))]
def Xc {b:zbB}{t:vr}{f:zU}{α:Type}(c:α->D)(y:α->D):∀ (a:List α),(∀ x∈a,∃ own,b (c x)=some own/\t (own++ρ)=some true/\f (own++ρ)=some (y x))->lcD b t f ρ (a.map c)=some (a.map y)
 | [],_=>rfl
 | x::a,h=>by
  obtain⟨own,e,i,d⟩:=h x f8
  show lcD b t f ρ (c x::a.map c)=_
  unfold lcD
  rw[e]
  simp only[j7,i,u1X,d,Xc c y a λz g=>h z (r4 _ g)]
  rfl
def YQ {b:zbB}{t:vr}{f:zU}{α:Type}(c:α->D)(p:α->Bool)(y:α->D):∀ (a:List α),(∀ x∈a,∃ own,b (c x)=some own/\t (own++ρ)=some (p x)/\(p x=true->f (own++ρ)=some (y x)))->lcD b t f ρ (a.map c)=some ((a.filter p).map y)
 | [],_=>rfl
 | x::a,h=>by
  obtain⟨own,j,i,k⟩:=h x f8
  have e:=YQ c p y a λz g=>h z (r4 _ g)
  show lcD b t f ρ (c x::a.map c)=_
  unfold lcD
  rw[j]
  simp only[j7,i]
  cases d:p x with
  | false =>
   rw[j6 u7,e,List.filter_cons,j6 (by rw[d];exact u7)]
  | true =>
   rw[t7 rfl,k d,e,List.filter_cons,t7 d]
   rfl
mutual
def noS:D->Bool
 | .tup ds=>ziN ds
 | .lst ds=>ziN ds
 | .scr _=>false
 | .obj _ _ _=>false
 | _=>true
def ziN:zm->Bool
 | []=>true
 | d::ds=>noS d&&ziN ds
end
def Ya:∀ {ds:zm} {i:Nat} {d:D},ziN ds=true->ds[i]?=some d->noS d=true
 | [],_,_,_,h=>by simp at h
 | d::ds,i,e,h,he=>by
  unfold ziN at h
  rw[j0]at h
  cases i with
  | zero=>simp at he;subst he;exact h.1
  | succ i=>exact Ya h.2 (by simpa using he)
def vc {n:Nat}(h:n<=1000):lim n=true:=by
 unfold lim
 exact q0 (i4 (vT h))
def zdg (a:Int)(n:Nat):(VY a n).length=n:=by unfold VY;simp
end Dl
namespace Dl
open PySem L2
abbrev Pr:=Int × Int
def prD (t:Pr):D:=.tup [.int t.1,.int t.2]
def prOf:D->Option Pr
 | .tup [.int a,.int b]=>some (a,b)
 | _=>none
def zfN:zm->Option (List Pr)
 | []=>some []
 | d::ds=>(prOf d).bind λt=>(zfN ds).map (t::·)
def zgR (a:List Pr):zfN (a.map prD)=some a:=by
 induction a with
 | nil=>rfl
 | cons t a b =>
  show(prOf (prD t)).bind (λu=>(zfN (a.map prD)).map (u::·))=_
  rw[b]
  rfl
def zqr (a b:Pr):Bool:=!OwnSort.bltP b a
def zhZ (a:List Pr):List Pr:=a.mergeSort zqr
def zeO:OwnSort.bltP b a=false↔zqr a b=true:=by unfold zqr;simp
def XY:zqr a b=true↔a.1<b.1\/(a.1=b.1/\a.2<=b.2):=by
 rw[<-zeO]
 unfold OwnSort.bltP
 rw[g9]
 omega
variable [KK]
end Dl
namespace Dl
open PySem L2
variable [KK]
def zqJ:wm
 | [.int i]=>some (.int i)
 | [.bl k]=>some (.int (if k then 1 else 0))
 | _=>none
def zjn:CaD (λb H Q=>(∃ i,b=[.int i]/\Q (.int i) H)\/∃ k,b=[.bl k]/\Q (.int (if k then 1 else 0)) H) zqJ:=by
 intro F H g f z Q s d e q
 unfold zqJ at e
 split at e <;> cases e
 all_goals
  obtain⟨x,r,rfl,a,c⟩:=d.cons_inv
  cases c.nil_inv
 .exact .inl ⟨_,by rw[a.int_inv],q F H _ (.refl s) .int⟩
 .exact .inr ⟨_,by rw[a.bl_inv],q F H _ (.refl s) .int⟩
end Dl
namespace Dl
open PySem L2
variable [KK]
section
variable {X:Cx}{a b:Expr}{pos:Pos}
def wF {a:wU}:SDs X a sNo:=⟨_,zgJ,λ_ _ _ _ _ _ _ _ h=>h.elim⟩
end
end Dl
namespace Dl
open PySem L2
variable [KK]
section
variable {X:Cx}{a e:Expr}
def zbA (m:xz)(f:zU)(g:yx):zU:=fun ρ=>(f ρ).bind λc=>(g ρ).bind λa=>match a with
 | [d]=>m c d
 | _=>none
end
end Dl
namespace Dl
open PySem L2
def zrG:D->Option Key
 | .int i=>some (.inl i)
 | .str x=>some (.inr x)
 | _=>none
def zi0:zm->Option (List Key)
 | []=>some []
 | d::ds=>(zrG d).bind λk=>(zi0 ds).map (k::·)
def keyT:D->Option (List Key)
 | .tup a=>zi0 a
 | _=>none
def zl0 (t:Bool)(d:D):Option (List Key):=if t=true then keyT d else (zrG d).map ([·])
def intQ:Int->Int->Bool
 | .ofNat a,.ofNat b=>Nat.beq a b
 | .negSucc a,.negSucc b=>Nat.beq a b
 | _,_=>false
def zev:intQ a b=true↔a=b:=by
 cases a with
 | ofNat a=>cases b with
  | ofNat b=>exact⟨λh=>(by rw[Nat.eq_of_beq_eq_true h]),λh=>(by cases h;exact Nat.beq_refl a)⟩
  | negSucc b=>exact⟨λh=>(by cases h),λh=>(by cases h)⟩
 | negSucc a=>cases b with
  | ofNat b=>exact⟨λh=>(by cases h),λh=>(by cases h)⟩
  | negSucc b=>exact⟨λh=>(by rw[Nat.eq_of_beq_eq_true h]),λh=>(by cases h;exact Nat.beq_refl a)⟩
def zkK:Key->Key->Bool
 | .inl i,.inl j=>intQ i j
 | .inr a,.inr b=>decide (a=b)
 | _,_=>false
def zqS:List Key->List Key->Bool
 | [],[]=>true
 | a::r,b::s=>match zkK a b with
  | true=>zqS r s
  | false=>false
 | _,_=>false
def zbh:zkK a b=true↔a=b:=by
 cases a with
 | inl i=>cases b with
  | inl j=>exact⟨λh=>(by rw[zev.mp h]),λh=>(by cases h;exact zev.mpr rfl)⟩
  | inr b=>exact⟨λh=>(by cases h),λh=>(by cases h)⟩
 | inr i=>cases b with
  | inl j=>exact⟨λh=>(by cases h),λh=>(by cases h)⟩
  | inr b=>exact⟨λh=>(by rw[k8 h]),λh=>(by cases h;exact q0 rfl)⟩
def zee:zqS x y=true↔x=y:=by
 induction x generalizing y with
 | nil=>cases y with
  | nil=>exact⟨λ_=>rfl,λ_=>rfl⟩
  | cons b s=>exact⟨λh=>(by cases h),λh=>(by cases h)⟩
 | cons a r c=>cases y with
  | nil=>exact⟨λh=>(by cases h),λh=>(by cases h)⟩
  | cons b s =>
   show(match zkK a b with | true=>zqS r s | false=>false)=true↔_
   cases h:zkK a b with
   | true=>rw[zbh.mp h];exact c.trans ⟨λh=>(by rw[h]),λh=>(by cases h;rfl)⟩
   | false=>exact⟨λh=>(by cases h),λe=>(by cases e;rw[zbh.mpr rfl]at h;cases h)⟩
def zga (x y:List Key):Decidable (x=y):=match h:zqS x y with
 | true=>.isTrue (zee.mp h)
 | false=>.isFalse λe=>by rw[zee.mpr e]at h;cases h
def Wl:List (List Key)->zm->List Key->Option D
 | k'::ks,v::vs,k=>@ite _ (k'=k) (zga k' k) (some v) (Wl ks vs k)
 | _,_,_=>none
def zqO:List (List Key)->zm->List Key->D->zm
 | k'::ks,v::vs,k,d=>(@ite _ (k'=k) (zga k' k) d v)::zqO ks vs k d
 | _,_,_,_=>[]
def zgy (a:List (List Key))(b:zm)(k:List Key):List (List Key):=if (Wl a b k).isSome=true then a else a++[k]
def zgQ (b:List (List Key))(a:zm)(k:List Key)(d:D):zm:=if (Wl b a k).isSome=true then zqO b a k d else a++[d]
def zbp {k:List Key}:Wl (a::b) (v::c) k=if a=k then some v else Wl b c k:=by
 show @ite _ (a=k) (zga a k) (some v) (Wl b c k)=_
 by_cases h:a=k
 .rw[t7 h,t7 h]
 .rw[j6 h,j6 h]
section
variable [KK]
def zcV {d:D}{k:Key}(h:zrG d=some k)(a:At F d y):y=kV k:=by
 cases d with
 | int i=>cases h;exact a.int_inv
 | str x=>cases h;exact a.str_inv
 | _=>cases h
def zeE:∀ {b:zm} {c:List Key} {e:zx},zi0 b=some c->AtL F b e->e=c.map kV
 | [],_,_,h,a=>by cases h;exact a.nil_inv
 | d::b,_,_,h,a=>by
  obtain⟨k,f,i⟩:=u4.mp h
  obtain⟨r,j,rfl⟩:=t4.mp i
  obtain⟨x,m,rfl,l,g⟩:=a.cons_inv
  rw[zcV f l,zeE j g]
  rfl
def zgT {F:Hp}{d:D}{k:List Key}(h:keyT d=some k)(a:At F d y):∃ b,y=.ref b/\F b=some (.tup (k.map kV)):=by
 cases d with
 | tup e =>
  obtain⟨b,g,rfl,c,f⟩:=a.tup_inv
  rw[zeE (show zi0 e=some k from h) f]at c
  exact⟨b,rfl,c⟩
 | _=>cases h
section
variable {κ:Type}[DecidableEq κ](f:κ->List Key)(hf:∀ a b,f a=f b->a=b)
include hf
theorem zal {k:κ}:∀ {b:List (κ × V)} {c:zm},AtL F c (b.map (·.2)) ->
 (∀ d,Wl (b.map λp=>f p.1) c (f k)=some d->∃ x,zdY b k=some x/\At F d x)/\(Wl (b.map λp=>f p.1) c (f k)=none->zdY b k=none)
 | [],_,_=>⟨λd h=>(by cases h),λ_=>rfl⟩
 | p::b,[],a=>by cases a.nil_inv
 | p::b,v::c,a=>by
  obtain⟨x,r,e,j,g⟩:=a.cons_inv
  cases e
  have i:=zal (k:=k) g
  by_cases h:p.1=k
  .rw[X7 h]
   have e:Wl ((p::b).map λp=>f p.1) (v::c) (f k)=some v:=by
    rw[n0,zbp,t7 (by rw[h])]
   rw[e]
   exact⟨λd z=>(by cases z;exact⟨_,rfl,j⟩),λz=>(by cases z)⟩
  .rw[Wa h]
   have e:Wl ((p::b).map λp=>f p.1) (v::c) (f k)=Wl (b.map λp=>f p.1) c (f k):=by
    rw[n0,zbp,j6 (λz=>h (hf _ _ z))]
   rw[e]
   exact i
theorem zjA {k:κ}{b:List (κ × V)}(a:AtL F c (b.map (·.2))):(Wl (b.map λp=>f p.1) c (f k)).isSome=(zdY b k).isSome:=by
 obtain⟨g,i⟩:=zal f hf (k:=k) a
 cases h:Wl (b.map λp=>f p.1) c (f k) with
 | none=>rw[i h];rfl
 | some d=>obtain⟨x,e,_⟩:=g d h;rw[e];rfl
theorem ziA {k:κ}{d:D}(i:At F d y):∀ {b:List (κ × V)} {c:zm},AtL F c (b.map (·.2)) ->
 AtL F (zqO (b.map λp=>f p.1) c (f k) d) ((b.map λg=>if g.1=k then (g.1,y)else g).map (·.2))
 | [],_,_=>by unfold zqO;exact .nil
 | p::b,[],a=>by cases a.nil_inv
 | p::b,v::c,a=>by
  obtain⟨x,r,e,m,j⟩:=a.cons_inv
  cases e
  have l:=ziA (k:=k) i j
  rw[n0,n0]
  refine AtL.cons ?_ l
  by_cases h:p.1=k
  .rw[t7 h,t7 (by rw[h])];exact i
  .rw[j6 h,j6 (λz=>h (hf _ _ z))];exact m
theorem zim {k:κ}{d:D}(g:At F d y){b:List (κ × V)}(a:AtL F c (b.map (·.2))) :
 (zdo b k y).map (λp=>f p.1)=zgy (b.map λp=>f p.1) c (f k)/\AtL F (zgQ (b.map λp=>f p.1) c (f k) d) ((zdo b k y).map (·.2)):=by
 unfold zdo zgy zgQ
 rw[zjA f hf a,za9]
 cases h:(zdY b k).isSome with
 | true =>
  rw[t7 rfl,t7 rfl,t7 rfl]
  refine⟨?_,ziA f hf g a⟩
  rw[u0F]
  refine u2c λp _=>?_
  by_cases e:p.1=k
  .show f (if p.1=k then (p.1,y)else p).1=_;rw[t7 e]
  .show f (if p.1=k then (p.1,y)else p).1=_;rw[j6 e]
 | false =>
  rw[j6 u7,j6 u7,j6 u7,r9,r9]
  exact⟨rfl,a.append (.cons g .nil)⟩
end
def zgm (a b:Key)(h:[a]=[b]):a=b:=by cases h;rfl
def zla (a b:List Key)(h:a=b):a=b:=h
def znM {t:Bool}{g:zm}{k:List Key}(s:zX F H)(e:zac F a z t h m)(l:AtL F g m)(f:zl0 t j=some k)(i:At F j y) :
 ∃ o,zrQ H a y o/\(∀ d,Wl h g k=some d->∃ x,o=some x/\At F d x)/\(Wl h g k=none->o=none):=by
 obtain⟨u,e,n⟩:=(e.mono s).rd
 unfold zdj at e
 unfold zl0 at f
 cases t with
 | true =>
  rw[t7 rfl]at e f
  obtain⟨c,rfl,rfl,rfl⟩:=e
  obtain⟨b,rfl,r⟩:=zgT f i
  exact⟨_,.inr ⟨c,k,b,n,rfl,s _ _ r,rfl⟩,zal (λk=>k) zla l⟩
 | false =>
  rw[j6 u7]at e f
  obtain⟨c,rfl,rfl,rfl⟩:=e
  obtain⟨q,p,rfl⟩:=t4.mp f
  rw[zcV p i]
  exact⟨_,.inl ⟨c,q,n,rfl,rfl⟩,zal (λk=>[k]) zgm l⟩
def znH {H:Hp}{t:Bool}{f:List (List Key)}{d:D}{k:List Key}(h:H a=some o)(c:zdj o t f q)(p:AtL F j q)(e:zl0 t n=some k)(m:At G n y)(s:zX G H)(u:At F d v)(w:f.length<sizeLine):∃ r,zjo H a y v (upd H a r)/\zen F r (.m t (zgy f j k) (zgQ f j k d)):=by
 unfold zdj at c
 unfold zl0 at e
 cases t with
 | true =>
  rw[t7 rfl]at c e
  obtain⟨g,rfl,rfl,rfl⟩:=c
  obtain⟨b,rfl,A⟩:=zgT e m
  obtain⟨l,i⟩:=zim (λk=>k) zla (k:=k) u p
  refine⟨_,zjo.t h (s _ _ A) (by simpa using w),_,?_,i⟩
  unfold zdj
  rw[t7 rfl]
  exact⟨_,rfl,l,rfl⟩
 | false =>
  rw[j6 u7]at c e
  obtain⟨g,rfl,rfl,rfl⟩:=c
  obtain⟨z,x,rfl⟩:=t4.mp e
  rw[zcV x m]
  obtain⟨l,i⟩:=zim (λk=>[k]) zgm (k:=z) u p
  refine⟨_,zjo.k h (by simpa using w),_,?_,i⟩
  unfold zdj
  rw[j6 u7]
  exact⟨_,rfl,l,rfl⟩
def zqo (a:Bool):xz
 | kd,.dct _ t ks vs=>(zl0 t kd).map λk=>.bl (a != (Wl ks vs k).isSome)
 | _,_=>none
section
variable {X:Cx}{a b c:Expr}{pos apos:Pos}
def rDIn (b:Bool):R2:=λx y H Q=>∃ a o,y=.ref a/\zrQ H a x o/\Q (.bl (b != o.isSome)) H
def zfW {k:Nat}(d:xk k X.A):OpR X (compareOp .In) (rDIn false):=by
 intro b s σ H x y v u Q I c e h
 obtain⟨a,o,rfl,g,q⟩:=h
 obtain rfl:u=Value.ref a:=e
 exact d_in (zpT d) I g c λf I3=>⟨.bl o.isSome,H,I3,rfl,by simpa using q⟩
def zcO {a:Bool}:OpD (rDIn a) (zqo a):=by
 intro F H x y d e z Q s i f h q
 cases e with
 | dct u t c b =>
  obtain⟨k,m,rfl⟩:=t4.mp h
  obtain⟨p,v,rfl,r,j⟩:=f.dct_inv
  obtain⟨o,l,g,n⟩:=znM s r j m i
  refine⟨p,o,rfl,l,?_⟩
  have e:(Wl c b k).isSome=o.isSome:=by
   cases h:Wl c b k with
   | none=>rw[n h];rfl
   | some d=>obtain⟨w,rfl,_⟩:=g d h;rfl
  rw[<-e]
  exact q F H _ (.refl s) .bl
 | _=>cases h
end
section
variable {X:Cx}{a e ko:Expr}{pos pos':Pos}{st:Stmt}
def zjZ (t:Bool)(i:Nat):zz:=fun ρ=>.nx (ρ.set i (.m t [] []))
def zhr {t:Bool}{i:Nat}(j:X.N.Nodup)(e:X.N[i]?=some x)(d:Loc X.env.scope x)(c:swapsWith (.Dict [] [] pos) (some (.Name x pos')) pos.line X.env=pure false:=by rfl)(l:X.fn x=true\/X.env.scope.names.lookup x=some .local:=by first | exact .inl rfl | exact .inr rfl | assumption){f:Pos}(c:swapsWith (.Dict [] [] f) (some (.Name x pos')) pos.line X.env=pure false:=by rfl):SD X (.Assign [.Name x pos'] (.Dict [] [] f) pos) (zjZ t i):=by
 have h:∀ (o:HO),zen (λ_=>none) o (.m t [] [])->∀ (Fb Hb F H:Hp) (ρ:SE) (σ:St) (E:Vp),Rl Fb Hb F H ρ σ->SOk Fb Hb E (zjZ t i ρ)->∀ p,H p=none->E.nx (σ.set i (some (.ref p))) (upd H p o):=λo m Fb Hb F H ρ σ E a k p b=>by
  have g:=Gr.hide a.gr.fh b o
  refine k F _ _ ((a.grow g).setW (a.notbase b) (a.gr.fh.free b) zl (m.mono λ_ _ z=>by cases z) (a.notown g b))
 cases t with
 | true =>
  refine⟨_,vK j e d zjj c l,λFb Hb F H ρ σ E a k=>?_⟩
  refine λp b=>h (.dT []) ⟨[],?_,.nil⟩ Fb Hb F H ρ σ E a k p b
  unfold zdj
  rw[t7 rfl]
  exact⟨[],rfl,rfl,rfl⟩
 | false =>
  refine⟨_,vK j e d zkW c l,λFb Hb F H ρ σ E a k=>?_⟩
  refine λp b=>h (.dK []) ⟨[],?_,.nil⟩ Fb Hb F H ρ σ E a k p b
  unfold zdj
  rw[j6 u7]
  exact⟨[],rfl,rfl,rfl⟩
def zn4 (ρ:SE)(i:Nat)(a d:D):Option SE:=match ρ[i]? with
 | some (.m t ks vs)=>(zl0 t a).bind λk=>if decide (ks.length<sizeLine)=true then some (ρ.set i (.m t (zgy ks vs k) (zgQ ks vs k d)))else none
 | _=>none
def zeV (m:Bool)(i:Nat)(a e:zU):zz:=fun ρ=>match (vEv m e ρ).bind λd=>(a (visG ρ)).bind λb=>zn4 ρ i b d with
 | some c=>.nx c
 | none=>.no
def zhi {k:Nat}(J:xk k X.A)(R:ED X e u)(V:PE X a (Y2 i))(N:ED X ko s)(l:swapsWith e (some (.Subscript a ko pos')) pos.line X.env=pure false:=by rfl):SD X (.Assign [.Subscript a ko pos'] e pos) (zeV m i s u):=by
 obtain⟨t,p,r⟩:=R
 obtain⟨tk,P,Q⟩:=N
 refine⟨_,znq (zpT J) V P p l,λFb Hb F H ρ σ E z k=>?_⟩
 unfold zeV at k
 cases h:(vEv m u ρ).bind λd=>(s (visG ρ)).bind λA=>zn4 ρ i A d with
 | none=>rw[h]at k;exact k.elim
 | some ρ' =>
  rw[h]at k
  obtain⟨d,K,c⟩:=u4.mp h
  obtain⟨A,T,c⟩:=u4.mp c
  unfold zn4 at c
  split at c
  .rename_i tt C Z l
   obtain⟨kk,S,n⟩:=u4.mp c
   have G:decide (C.length<sizeLine)=true:=by
    cases L:decide (C.length<sizeLine) with
    | true=>rfl
    | false=>rw[L,j6 u7]at n;cases n
   rw[t7 G]at n
   cases n
   refine r.at z K λF' H' v g W=>?_
   have b:=z.grow g
   obtain⟨q,o,x,_⟩:=b.ows i _ l rfl
   refine⟨_,x,?_⟩
   refine Q σ _ _ H' _ _ b.gh b.visG T λF3 H3 v3 y w=>?_
   obtain⟨B,_⟩:=b.back y
   have f:=b.grow B
   obtain⟨q3,Y,j,_,_,M,xs,O,I⟩:=f.ows i _ l rfl
   rw[x]at j
   cases j
   obtain⟨o',U,hw⟩:=znH M O I S w y.fh (W.mono B.ff) (k8 G)
   exact⟨q,_,rfl,U,k _ _ σ (f.mutW l rfl x hw)⟩
  .cases c
end
end
end Dl
namespace L2
open PySem PySem.Spec PyProof.Rows
section
variable {prog:zP}{w:World}{A:zR}{E:yU}{s:zn}{d it:Addr}{o:Obj}{es:Array DictEntry}{ep i:Nat}
def raw_iter {Q:yU}(e:(d == sysModules)=false)(b:s.heap.get? d=some o)(g:o.ExactDict)(c:o.data=.dict es ep)
 (f:Q (.ref s.heap.objs.size) { s with heap:=s.heap.push { cls:=.type "dict_keyiterator",data:=.fields #[.ref d,.int 0 0,.int es.size 0,.int ep 0] } }):wpAny (model prog w) A (pyIter (.ref d)) Q E s:=by
 have a:s.TypeIs (.ref d) "dict":=⟨o,b,g.1⟩
 refine wpAny_pyIter_slot a PySem.F.slot_dict_iter (i5 PySem.F.slot_dict_iter a PySem.F.entry_dict_iter ?_ (PySem.F.args_dict_iter_1 _))
 unfold Builtin.«dict.__iter__»
 refine u5 ?_
 unfold Builtin.Dict.dictSlotNone
 refine u5 (wpAny_notOrdered_dict a ?_)
 show wpAny _ _ (pure (Value.ref d)) _ _ s
 refine t5 ?_
 show wpAny _ _ (Builtin.Dict.showsAll d>>=_) _ _ s
 unfold Builtin.Dict.showsAll
 rw[j6 (by rw[e];exact u7)]
 refine u5 (t5 (u5 (u2M b c (u5 (wpAny_dictEpoch b c ?_)))))
 refine u5 (l5 (t5 ⟨_,rfl,"dict_keyiterator",_,⟨_,j8 _ rfl,rfl⟩,l4.lookup,?_⟩))
 simpa [rawInt]using f
def raw_next {e:DictEntry}{Q:Option Value->Shared->Prop}(a:s.heap.IsKeyIter it d i es.size ep)(l:s.heap.get? d=some o)(k:o.data=.dict es ep)(n:es[i]?=some e)
 (m:∀ j,j.IsKeyIter it d (i+1) es.size ep->Heap.SameBut it s.heap j->Q (some e.key) { s with heap:=j }):wpAny (model prog w) A (pyNext (.ref it)) Q E s:=by
 obtain⟨p,f,h,b⟩:=id a
 unfold pyNext
 refine u5 (u0Q (p0 (name:=Str.ofString "__next__") a.typeIs l4
  (i5 l4 a.typeIs u1h ?_ (u09 _))))
 refine u5 (t5 ?_)
 refine u5 ?_
 refine u5 ?_
 first | refine u5 (u0w a.typeIs (t5 ?_)) | refine u5 (u0N a.typeIs (t5 ?_))
 refine u5 (wpAny_fieldsOf f b ?_)
 have g:Builtin.Dict_items.ownsTuple "dict_keyiterator"=false:=by decide
 simp only[g,u1n,u2B]
 show wpAny _ _ (if (Value.ref d == Value.none)=true then _ else _) _ _ s
 rw[j6 (show ¬ ((Value.ref d == Value.none)=true)from u7)]
 refine u5 (t5 (u5 (u2M l k ?_)))
 rw[j6 (by simp)]
 refine u5 (t5 (u5 (wpAny_dictEpoch l k ?_)))
 rw[j6 (by simp)]
 refine t5 ?_
 simp only[show ¬ ((i:Int)<0)from by omega,u2B,u0K,n]
 refine u5 ?_
 first | refine u5 (u0w a.typeIs (t5 ?_)) | refine u5 (u0N a.typeIs (t5 ?_))
 refine u5 (wpAny_isOneOf_keyiter a.typeIs ?_)
 show wpAny _ _ (setField (.ref it) 1 (rawInt ((i:Int)+1))>>=_) _ _ s
 refine u5 (u2F f b (by simp) ?_)
 have c:(s.heap.update it (Obj.mapFields (·.setIfInBounds 1 (rawInt ((i:Int)+1))))).IsKeyIter it d (i+1) es.size ep :=
  ⟨_,i0 _ f (Obj.isFreed_of_fields (u1u b _)),(Obj.cls_mapFields ..).trans h,by rw[u1u b];simp[rawInt]⟩
 refine u5 (l8 ?_)
 refine u5 (wpAny_isOneOf_keyiter (s:={ s with heap:=s.heap.update it (Obj.mapFields (·.setIfInBounds 1 (rawInt ((i:Int)+1)))) }) c.typeIs ?_)
 show wpAny _ _ (pure e.key) _ _ _
 exact t5 (t5 ⟨_,rfl,t5 (m _ c (u1e ..))⟩)
def raw_end {Q:Option Value->Shared->Prop}(l:A.handled=none)(c:s.heap.IsKeyIter it d i es.size ep)(k:s.heap.get? d=some o)(h:o.data=.dict es ep)(q:es.size<=i)
 (n:∀ j,Heap.ExtBut it s.heap j->Q none { s with heap:=j }):wpAny (model prog w) A (pyNext (.ref it)) Q E s:=by
 obtain⟨r,g,p,e⟩:=id c
 unfold pyNext
 refine u5 (u0Q (p0 (name:=Str.ofString "__next__") c.typeIs l4
  (i5 l4 c.typeIs u1h ?_ (u09 _))))
 refine u5 (t5 ?_)
 refine u5 ?_
 refine u5 ?_
 first | refine u5 (u0w c.typeIs (t5 ?_)) | refine u5 (u0N c.typeIs (t5 ?_))
 refine u5 (wpAny_fieldsOf g e ?_)
 have f:Builtin.Dict_items.ownsTuple "dict_keyiterator"=false:=by decide
 simp only[f,u1n,u2B]
 show wpAny _ _ (if (Value.ref d == Value.none)=true then _ else _) _ _ s
 rw[j6 (show ¬ ((Value.ref d == Value.none)=true)from u7)]
 refine u5 (t5 (u5 (u2M k h ?_)))
 rw[j6 (by simp)]
 refine u5 (t5 (u5 (wpAny_dictEpoch k h ?_)))
 rw[j6 (by simp)]
 refine t5 ?_
 simp only[show ¬ ((i:Int)<0)from by omega,u2B,u0K,Array.getElem?_eq_none q]
 refine u5 ?_
 first | refine u5 (u0w c.typeIs (t5 ?_)) | refine u5 (u0N c.typeIs (t5 ?_))
 show wpAny _ _ (setField (.ref it) 0 .none>>=_) _ _ s
 refine u5 (u2F g e (by simp) ?_)
 show wpAny _ _ (newExc (.type "StopIteration") []>>=_) _ _ _
 refine u5 ?_
 simp only[newExc,newTuple]
 refine u5 (l5 ?_ (by size_fits))
 refine u5 (m:=firstArgMember _ _) (wpAny_of_eq (a:=Value.none) (by first | rfl | (simp only[firstArgMember];rfl)) ?_)
 refine l5 ?_ (by size_fits)
 simp only[raiseNew]
 refine u5 (wpAny_handled ?_)
 rw[show A.in1.handled=none from l]
 refine u5 (t5 (wpAny_throw ?_))
 refine u5 (wpAny_isInstance (T:="StopIteration") (b:=true) ⟨_,j8 _ rfl,rfl⟩ isSubtype_stop ?_)
 exact t5 (n _ (((u1e ..).extBut.push _).push _))
end
def dLen:HO->Nat
 | .dK a=>a.length
 | .dT a=>a.length
 | _=>0
def zka (u:HO):Prop:=(∃ a,u=.dK a)\/∃ a,u=.dT a
section
variable {X:Cx}{tg:Expr}
def Inv.frz {a:xC}{σ:St}{H:Hp}{s:zn}{p:Addr}{u:HO}(I:Inv X a σ H s)(e:H p=some u)(k:zka u):∃ l,Inv X a σ (upd H p (.frz l u)) s:=by
 have ok:=I.hok p u e
 have i:Mut (H p):=by
  rw[e]
  rcases k with ⟨c,rfl⟩ | ⟨c,rfl⟩ <;> exact True.intro
 rcases k with ⟨c,rfl⟩ | ⟨c,rfl⟩
 .obtain⟨z,f,m,n,o,h,g,d,r⟩:=ok
  refine⟨o,I.write (h':=s.heap) (t':=s.toks) i (.inl rfl) (λb u _ e=>e) ⟨o,d⟩ ⟨d,z,f,m,n,o,h,g,d,r⟩⟩
 .obtain⟨z,f,t,q,o,h,g,d,r⟩:=ok
  refine⟨o,I.write (h':=s.heap) (t':=s.toks) i (.inl rfl) (λb u _ e=>e) ⟨o,d⟩ ⟨d,z,f,t,?_,o,h,g,d,r⟩⟩
  exact KT.keeps q λb v j=>by
   rw[zi (ziV j e (λz=>nomatch z))]
   exact j
def tFrz (i:Nat)(t:TS):TS:=λE σ H=>∃ p u,σ[i]?=some (some (.ref p))/\H p=some u/\zka u/\∀ a,t E σ (upd H p (.frz a u))
def znp {t:TS}(i:Nat)(h:PSs X a t):PSs X a (tFrz i t):=by
 intro b s σ H E I q
 obtain⟨p,u,_,e,d,q⟩:=q
 obtain⟨c,I2⟩:=I.frz e d
 exact h b s σ _ E I2 (q c)
end
end L2
namespace Dl
open PySem L2
section
variable [KK]
def znT {t:Bool}{b:List (List Key)}(h:zdj u t b c):zka u/\dLen u=b.length:=by
 unfold zdj at h
 cases t with
 | true=>rw[t7 rfl]at h;obtain⟨a,rfl,rfl,_⟩:=h;exact⟨.inr ⟨_,rfl⟩,by rw[u9];rfl⟩
 | false=>rw[j6 u7]at h;obtain⟨a,rfl,rfl,_⟩:=h;exact⟨.inl ⟨_,rfl⟩,by rw[u9];rfl⟩
def Gr.see {H:Hp}(s:zX F H)(h:H b=some (.tup c)):∃ F',Gr F H F' H/\F' b=some (.tup c):=by
 cases e:F b with
 | some o =>
  have:=s _ _ e
  rw[h]at this
  cases this
  exact⟨F,.refl s,e⟩
 | none =>
  refine⟨upd F b (.tup c),⟨λp o z=>?_,λp o z=>?_,λp o f d=>⟨?_,d⟩⟩,zl⟩
  .rw[zi (ze z e)];exact z
  .by_cases a:p=b
   .subst a;rw[zl]at z;cases z;exact h
   .rw[zi a]at z;exact s p o z
  .by_cases a:p=b
   .subst a
    rw[h]at d
    cases d
    exact .inr ⟨⟨_,rfl⟩,zl⟩
   .exact .inl (by rw[zi a];exact f)
section
variable {X:Cx}{tg a b e k v:Expr}{pos pos':Pos}{sts:wU}
def zq2 (i:Nat)(g:zz):zz:=fun ρ=>match ρ[i]? with
 | some (.m t ks vs)=>g (ρ.set i (.v (.dct true t ks vs)))
 | _=>.no
def Rl.fzM {H:Hp}{ρ:SE}{i:Nat}{t:Bool}(r:Rl Fb Hb F H ρ σ)(h:ρ[i]?=some (.m t E K)) :
 ∃ p u,σ[i]?=some (some (.ref p))/\H p=some u/\zka u/\∀ m,Rl Fb Hb (upd F p (.frz m u)) (upd H p (.frz m u)) (ρ.set i (.v (.dct true t E K))) σ:=by
 obtain⟨p,u,l,e2,e3,e4,xs,P,X⟩:=r.ows i _ h rfl
 refine⟨p,u,l,e4,(znT P).1,λm=>?_⟩
 have N:i<ρ.length:=(j3.mp h).1
 have C:zX F (upd F p (.frz m u)):=λb o e=>by rw[zi (ze e e3)];exact e
 have n:∀ {j:Nat} {s:Sl},(ρ.set i (.v (.dct true t E K)))[j]?=some s->s.isO=true->i≠j:=λ{j s} h c e=>by
  subst e
  rw[r6 N]at h
  cases h
  cases c
 refine⟨⟨r.gr.ff.trans C,λb o z=>?_,λb o Z O=>?_⟩,λj d z=>?_,λj s z c=>?_,λj k q s s' g L T S h3 h4=>?_,by simp[r.len],r.dk.step (λj x d' V J=>?_) C λj x d' V Y dx q vw vh ys f B G M I W Q=>?_⟩
 .by_cases A:b=p
  .subst A;rw[zl]at z ⊢;exact z
  .rw[zi A]at z ⊢;exact r.gr.fh b o z
 .have A:b≠p:=ze O e2
  obtain⟨x,y⟩:=r.gr.kp b o Z O
  refine⟨?_,by rw[zi A];exact y⟩
  unfold Hid
  rw[zi A]
  exact x
 .by_cases a:i=j
  .subst a
   rw[r6 N]at z
   cases z
   refine⟨_,l,?_⟩
   unfold At
   exact⟨p,xs,rfl,⟨u,P,by rw[t7 rfl];exact⟨m,zl⟩⟩,X.mono C⟩
  .rw[u8 a]at z
   obtain⟨v,f,B⟩:=r.vals j d z
   exact⟨v,f,B.mono C⟩
 .have a:=n z c
  rw[u8 a]at z
  obtain⟨q,y,f,B,G,M,I⟩:=r.ows j s z c
  have U:q≠p:=λw=>a (r.dis i j p _ s h z rfl c l (by rw[<-w];exact f))
  exact⟨q,y,f,B,by rw[zi U];exact G,by rw[zi U];exact M,I.mono C⟩
 .have a1:=n g T
  have a2:=n L S
  rw[u8 a1]at g
  rw[u8 a2]at L
  exact r.dis j k q s s' g L T S h3 h4
 .have a:=n J rfl
  rw[u8 a]at J
  exact⟨J,rfl⟩
 .have n1:Y≠p:=λw=>by
   have a:=r.dis i j p _ _ h f rfl rfl l (by rw[<-w];exact B)
   subst a
   rw[h]at f
   cases f
  have R:q≠p:=λw=>Q i _ h rfl (by rw[w];exact l)
  refine⟨by rw[zi n1];exact G,M,by rw[zi R];exact I,by rw[zi R];exact W,λk s g c=>?_⟩
  have a:=n g c
  rw[u8 a]at g
  exact Q k s g c
def ziz {g:zz}(i:Nat)(h:SDs X sts g):SDs X sts (zq2 i g):=by
 obtain⟨t,p,r⟩:=h
 refine⟨_,znp i p,λFb Hb F H ρ σ E c k=>?_⟩
 unfold zq2 at k
 split at k
 .rename_i n m l a
  obtain⟨q,u,d,e,j,f⟩:=c.fzM a
  exact⟨q,u,d,e,j,λb=>r Fb Hb _ _ _ σ E (f b) k⟩
 .exact k.elim
end
end
end Dl
namespace OwnRep
open PySem Builtin
def zni {α:Type}{a b:Sem α}{Q:α->Shared->Prop}(d:c=false)(h:wpAny M A b Q E s):wpAny M A (if c=true then a else b) Q E s:=by rw[d,j6 u7];exact h
def noFill_tuple_mul:fillsNumberSlot (.type "tuple") "mul"=pure false :=
 fillsNumberSlot_seq (id:="tuple.__mul__") (r:=some (.builtin "tuple.__rmul__")) u1a.lookup (by decide +kernel) F.slot_tuple_rmul.lookup (by decide +kernel)
def repeat_tuple:seqRepeat? (.type "tuple")=pure (some (.builtin "tuple.__mul__")):=by
 unfold seqRepeat?
 rw[seqSlot_of (T:="tuple") (name:="__mul__") (id:="tuple.__mul__") u1a.lookup (by decide +kernel),seqSlot_of (T:="tuple") (name:="__rmul__") (id:="tuple.__rmul__") F.slot_tuple_rmul.lookup (by decide +kernel)]
 rfl
def int_rmul_tuple (a:Int)(t:Tok)(l:Addr)(b:wq)(n:Nat)(f:y6)(e:Array (Option Value)) :
 Meets (Builtin.«int.__rmul__» ⟨[.int a t,.ref l],[]⟩) (λ_ R s=>s.heap.get? l=some { cls:=.type "tuple",dict:=f,data:=.seq b n,slots:=e }/\R (.ok (.ret Value.notImplemented)) s) :=
 .of_wp λc w A R s h=>by obtain⟨j,g,d,i,os⟩:=s;obtain⟨k,h⟩:=h;wp_walk;exact⟨_,rfl,h⟩
def tmul_same (l:Addr)(a:wq)(n:Nat)(i:y6)(f:Array (Option Value))(x:Int)(u:Tok)(b:(decide (x < -(2^63))||decide (x >= 2^63))=false)(e:(a.isEmpty||x == 1)=true) :
 Meets (Builtin.«tuple.__mul__» ⟨[.ref l,.int x u],[]⟩) (λ_ R s=>s.heap.get? l=some { cls:=.type "tuple",dict:=i,data:=.seq a n,slots:=f }/\R (.ok (.ret (Value.ref l))) s) :=
 .of_wp λc w A R s h=>by obtain⟨k,g,d,j,os⟩:=s;obtain⟨m,h⟩:=h;wp_walk;refine zni b ?_;wp_walk;exact⟨_,rfl,h⟩
def tmul_none (l:Addr)(a:wq)(n:Nat)(j:y6)(f:Array (Option Value))(x:Int)(u:Tok)(b:(decide (x < -(2^63))||decide (x >= 2^63))=false)(e:(a.isEmpty||x == 1)=false)(i:(decide (x<=0)||a.isEmpty)=true) :
 Meets (Builtin.«tuple.__mul__» ⟨[.ref l,.int x u],[]⟩) (λ_ R s=>s.heap.get? l=some { cls:=.type "tuple",dict:=j,data:=.seq a n,slots:=f }/\R (.ok (.ret (Value.ref s.heap.objs.size))) { s with heap:=s.heap.push { cls:=.type "tuple",data:=.seq #[] },toks:=s.toks }) :=
 .of_wp λc w A R s h=>by obtain⟨m,g,d,k,os⟩:=s;obtain⟨o,h⟩:=h;wp_walk;refine zni b ?_;wp_walk;exact⟨_,rfl,h⟩
def tmul_some (l:Addr)(a:wq)(n:Nat)(q:y6)(o:Array (Option Value))(x:Int)(u:Tok)(e:(decide (x < -(2^63))||decide (x >= 2^63))=false)(m:(a.isEmpty||x == 1)=false)(p:(decide (x<=0)||a.isEmpty)=false)(c:¬ (a.size:Int)*x>(2^63-1)/8)(j:Builtin.Tuple.tupleTooMany ((a.size:Int)*x)=false)(k:(List.foldl (λb f=>b++f) #[] (List.replicate x.toNat a)).size<=sizeLine) :
 Meets (Builtin.«tuple.__mul__» ⟨[.ref l,.int x u],[]⟩) (λ_ R s=>s.heap.get? l=some { cls:=.type "tuple",dict:=q,data:=.seq a n,slots:=o }/\R (.ok (.ret (Value.ref s.heap.objs.size))) { s with heap:=s.heap.push { cls:=.type "tuple",data:=.seq (List.foldl (λb f=>b++f) #[] (List.replicate x.toNat a)) },toks:=s.toks }) :=
 .of_wp λi w A R s h=>by obtain⟨t,g,d,r,os⟩:=s;obtain⟨v,h⟩:=h;wp_walk;refine zni e ?_;wp_walk;refine wpAny_ite_false (t8 c) ?_;wp_walk;exact⟨_,rfl,h⟩
end OwnRep
namespace L2
open PySem
section
variable {X:Cx}
def zo1 (K:zv):R2:=λx y H Q=>∃ a k b,x=.ref a/\y=.int k/\SqT K H a b/\b≠[]/\-(2^63)<=k/\k<2^63/\b.length*k.toNat<=sizeLine /\
 (k=1->Q (.ref a) H)/\(k≠1->∀ p,H p=none->Q (.ref p) (upd H p (.tup (List.replicate k.toNat b).flatten)))
def znn:OpR X (binaryOp .Mult) (zo1 X.K):=by
 intro j s σ H x y v u Q I O Y h
 obtain⟨a,k,N,rfl,rfl,V,L,h1,h2,B,S,K⟩:=h
 cases O
 obtain⟨t,rfl⟩:=Y
 obtain⟨c,r,⟨⟨cls,A,R,z⟩,e,D,n,E⟩,_⟩:=I.tuple V
 simp only at D E
 subst D E
 have g:c.toArray.isEmpty=false:=by
  cases c with
  | nil=>exact absurd (r.nil_iff.mp rfl) L
  | cons _ _=>rfl
 have f:(decide (k < -(2^63))||decide (k >= 2^63))=false:=by
  rw[t8 (by omega),t8 (by omega)];rfl
 have d:∀ m:Nat,List.foldl (λJ W=>J++W) #[] (List.replicate m c.toArray)=(List.replicate m c).flatten.toArray:=λm=>by
  have:=Wn c m []
  rw[List.nil_append]at this
  exact this
 have Z:((List.replicate k.toNat c).flatten).length<=sizeLine:=by rw[zc4,<- r.length,Nat.mul_comm];exact B
 have C:∀ {Q':yU},wpAny (model X.prog X.w) X.A (call (.builtin "tuple.__mul__") [.ref a,.int k t]) Q' X.xe s->wpAny (model X.prog X.w) X.A (binaryOp .Mult (.ref a) (.int k t)) Q' X.xe s:=λ{Q'} w =>
  wpAny_binaryOp_repeat_ref (T:="tuple") (U:="int") (by decide) ⟨_,e,rfl⟩ (λP=>u28 P k t) OwnRep.noFill_tuple_mul F.fills_int_mul u18 OwnRep.repeat_tuple F.slot_int_index.lookup
   (u0z u18 (u28 s k t) F.entry_int_rmul (F.args_int_rmul_2 _ _) (OwnRep.int_rmul_tuple k t a c.toArray n A z) ⟨e,rfl,⟨_,e,rfl⟩,w⟩)
 by_cases l:k=1
 .exact C (u0z u1a ⟨_,e,rfl⟩ u2H (u2q _ _) (OwnRep.tmul_same a c.toArray n A z k t f (by rw[l];simp)) ⟨e,⟨.ref a,H,I,rfl,S l⟩⟩)
 have i:(c.toArray.isEmpty||k == 1)=false:=by rw[g,Bool.false_or];exact g0.mpr l
 have fin:∀ (p:zB),p=(List.replicate k.toNat c).flatten->EP X j σ Q (.ref s.heap.objs.size) { s with heap:=s.heap.push { cls:=.type "tuple",data:=.seq p.toArray },toks:=s.toks }:=λp hu=>by
  refine⟨.ref s.heap.objs.size,_,I.laid (t':=s.toks) (o:=.tup (List.replicate k.toNat N).flatten) (λb ob q=>u6 _ q) (t6 _) ?_,rfl,K l _ (I.hok.fresh (t6 _))⟩
  refine⟨by rw[zc4,Nat.mul_comm];exact B,p,?_,PyProof.Rows.IsTup.new _ _⟩
  rw[hu]
  exact r.rep k.toNat
 by_cases G:k<=0
 .refine C (u0z u1a ⟨_,e,rfl⟩ u2H (u2q _ _) (OwnRep.tmul_none a c.toArray n A z k t f i (by rw[q0 G];rfl)) ⟨e,fin [] ?_⟩)
  rw[show k.toNat=0 by omega]
  rfl
 .have M:(c.toArray.size:Int)*k<=(sizeLine:Int):=by
   have:((c.length*k.toNat:Nat):Int)<=(sizeLine:Int):=by rw[<-r.length];exact Int.ofNat_le.mpr B
   rw[Int.natCast_mul,Int.toNat_of_nonneg (by omega)]at this
   exact this
  refine C (u0z u1a ⟨_,e,rfl⟩ u2H (u2q _ _) (OwnRep.tmul_some a c.toArray n A z k t f i (by rw[g,Bool.or_false];exact t8 G) ?_ ?_ ?_) ⟨e,?_⟩)
  .have:(sizeLine:Int)<=(2^63-1)/8:=by decide
   omega
  .unfold Builtin.Tuple.tupleTooMany
   exact t8 (by omega)
  .rw[d,t9]
   exact Z
  .rw[d]
   exact fin _ rfl
end
end L2
namespace Dl
open PySem L2
section
variable [KK]
def zjW:xz
 | .tup a,.int k=>if a≠[]/\-(2^63)<=k/\k<2^63/\lim (a.length*k.toNat)=true then some (.tup (List.replicate k.toNat a).flatten)else none
 | _,_=>none
def zjd:OpD (zo1 K) zjW:=by
 intro F H x y d e z Q s j m a q
 cases d <;> try cases a
 cases e <;> try cases a
 rename_i f k
 unfold zjW at a
 dsimp only at a
 split at a <;> cases a
 rename_i c
 obtain⟨p,i,rfl,h,b⟩:=j.tup_inv
 refine⟨p,k,i,rfl,m.int_inv,SqT.of (s _ _ h),λe=>c.1 ?_,c.2.1,c.2.2.1,by rw[b.length];exact k8 c.2.2.2,λe=>?_,λ_ r l=>?_⟩
 .subst e
  exact u0g.mp b.length.symm
 .subst e
  refine q F H _ (.refl s) ?_
  show At F (.tup (List.replicate 1 f).flatten) _
  rw[show(List.replicate 1 f).flatten=f by simp]
  exact .tup h b
 .have g:=Gr.alloc s l (.tup (List.replicate k.toNat i).flatten)
  exact q _ _ _ g (.tup zl ((b.rep _).mono g.ff))
section
variable {X:Cx}{a b:Expr}{pos:Pos}
def zl4 {f:zU}(d:ED X a f)(c:ED X b h):ED X (.BinOp a .Mult b pos) (zh zjW f h):=Vy znn zjd d c
end
end
end Dl
namespace L2
open PySem PySem.Spec PyProof.Rows
def zd1 {k:Str}:∀ {D:List (Str × KTD.Dat)},(∀ d,KTD.datumAt k D=some d->KTD.Opened h₀ P d)->KTD.EachL h₀ k P D
 | [],_=>trivial
 | [(x,d)],h=>λe=>h d (by show(if decide (k=x)=true then some d else none)=_;rw[t7 (q0 e)])
 | (x,d)::q::D,h=>by
  show if decide (k=x)=true then KTD.Opened h₀ P d else KTD.EachL h₀ k P (q::D)
  by_cases e:k=x
  .rw[t7 (q0 e)]
   exact h d (by show(if decide (k=x)=true then some d else _)=_;rw[t7 (q0 e)])
  .rw[j6 (by rw[t8 e];exact u7)]
   refine zd1 λa b=>h a ?_
   show(if decide (k=x)=true then some d else KTD.datumAt k (q::D))=_
   rw[j6 (by rw[t8 e];exact u7),b]
def VL:∀ {ns:zC} {a:zB},KTD.Flats a (ns.map PyData.int)->yw (ns.map V.int) a
 | [],_,h=>by cases h;exact .nil
 | n::ns,_,h=>by
  cases h with
  | cons c b =>
   obtain⟨t,rfl⟩:=c.int_inv
   exact .cons ⟨t,rfl⟩ (VL b)
section
variable {X:Cx}{a:Addr}{D:List (Str × KTD.Dat)}{nm:Str}{b:Expr}{p pos:Pos}{tb:TE}
def zoU (a:Addr)(D:List (Str × KTD.Dat)):R2:=λx y H Q=>∃ s,x=.str s/\y=.ref a/\Q (.bl (KTD.inKeys s D)) H
def zdB (T:∀ h:Heap,X.K.In h->KTD.TextTab h a D):OpR X (compareOp .In) (zoU a D):=by
 intro b s σ H x y v u Q I c d h
 obtain⟨z,rfl,rfl,q⟩:=h
 obtain⟨t,rfl⟩:=c
 cases d
 exact KTD.in_text ⟨T _ I.kIn,λ_ _ e=>e⟩ ⟨.bl _,H,I.tok _,rfl,q⟩
def tTab (D:List (Str × KTD.Dat))(a:Heap)(tb:TE):TE:=fun σ H Q=>tb σ H λy H1=>∃ (z:Str) (ns:zC),y=.str z/\KTD.datumAt z D=some (.tup (ns.map PyData.int))/\∀ p b,IsTup a p (List.toArray b)->yw (ns.map V.int) b->Q (.ref p) H1
def zoh (T:∀ h:Heap,X.K.In h->KTD.TextTab h a D) (l:Gl X nm) (j:X.mg nm=some (.ref a)) (r:PE X b tb) (k:Z9 b) (e:(nm == ("__debug__":Str))=false:=by decide):PE X (.Subscript (.Name nm p) b pos) (tTab D X.base tb):=by
 intro c s σ H Q I h
 refine Subscript_ (vC I l j (thn (r c s σ H _ I h) λu w m=>?_) e)
 obtain⟨y,H1,I1,v,z,ns,rfl,i,q⟩:=m
 obtain⟨t,rfl⟩:=v
 have f:KTD.inKeys z D=true:=by rw[<-KTD.isSome_datumAt,i];rfl
 refine KTD.item_text (h₀:=X.base) ⟨T _ I.mod.kin,I1.bk⟩ f (zd1 λd e=>?_) (k _ _) (by intro _;with_unfolding_all rfl)
 rw[i]at e
 cases e
 exact λp g n o=>⟨.ref p,H1,I1.tok _,rfl,q p g n (VL o)⟩
def rIxB (a:Heap):R2:=λx y H Q=>∃ p b c i v,x=.ref p/\y=.int i/\IsTup a p (List.toArray b)/\yw c b/\c.length<=sizeLine/\atI c i=some v/\Q v H
def znG:IxR X (rIxB X.base):=by
 intro b d a s σ H x y v u Q I A F h m
 obtain⟨p,e,M,i,z,rfl,rfl,C,r,L,D,q⟩:=h
 cases A
 obtain⟨t,rfl⟩:=F
 have pl:IsTup s.heap p e.toArray:=by
  obtain⟨o,J,f,n,l⟩:=C
  exact⟨o,I.bk _ _ J,f,n,l⟩
 obtain⟨j,g,k,N,O,K⟩:=za5 D
 obtain⟨w,E,c⟩:=r.get k
 have G:=r.length
 have P:=Xs
 have fin:EP X a σ Q w s:=⟨z,H,I,c,q⟩
 exact u1B (x:=w) pl.typeIs slot_tuple_getitem.lookup
  (getItem_tuple (j:=j) (Q:=λr B=>r=w/\EP X a σ Q r B) pl (by omega) (by omega) (by rw[t9,<- G];exact g) (by simpa using E) ⟨rfl,fin⟩) m
end
end L2
namespace Dl
open PySem L2 PySem.Spec PyProof.Rows
variable [KK]{X:Cx}{a:Addr}{T:List (Str × KTD.Dat)}{nm:Str}{b:Expr}{p p2 p3 pos:Pos}{f:zU}
abbrev zkD:=List (Str × zC)
def zct (t:zkD):List (Str × KTD.Dat):=t.map λq=>(q.1,.tup (q.2.map PyData.int))
def WM:zkD->Str->Option zC
 | [],_=>none
 | q::t,x=>if x=q.1 then some q.2 else WM t x
omit [KK] in
def Wq (x:Str):∀ t:zkD,KTD.datumAt x (zct t)=(WM t x).map λns=>KTD.Dat.tup (ns.map PyData.int)
 | []=>rfl
 | q::t=>by
  show(if decide (x=q.1)=true then some (KTD.Dat.tup (q.2.map PyData.int))else KTD.datumAt x (zct t))=(if x=q.1 then some q.2 else WM t x).map _
  by_cases h:x=q.1
  .rw[t7 (q0 h),t7 h];rfl
  .rw[j6 (by rw[t8 h];exact u7),j6 h,Wq x t]
def zlC (t:zkD):D->Option D
 | .str x=>some (.bl (WM t x).isSome)
 | _=>none
def zfF (t:zkD)(i:Int):D->Option D
 | .str x=>(WM t x).bind λns=>(atI ns i).map D.int
 | _=>none
def zjN {t:zkD} (T:∀ h:Heap,X.K.In h->KTD.TextTab h a (zct t)) (l:Gl X nm) (g:X.mg nm=some (.ref a)) (r:ED X b f) (u:behindInMarks .In (.Name nm p)=false:=by with_unfolding_all rfl) (o:(nm == ("__debug__":Str))=false:=by decide) :
 ED X (.Compare b [.In] [.Name nm p] pos) (eUn (zlC t) f):=by
 obtain⟨y,m,w⟩:=r
 refine⟨_,zgD (zdB T) m (xc (v:=.ref a) l g rfl o) u,fun σ ρ F H z Q s i e q=>?_⟩
 obtain⟨d,n,c⟩:=u4.mp e
 refine w σ ρ F H d _ s i n λF1 H1 v k j=>?_
 cases d with
 | str x =>
  cases c
  cases j.str_inv
  refine⟨x,rfl,rfl,?_⟩
  rw[<-KTD.isSome_datumAt,Wq,u1E]
  exact q F1 H1 _ k .bl
 | _=>cases c
def ziU {t:zkD} (T:∀ h:Heap,X.K.In h->KTD.TextTab h a (zct t)) (l:∀ q∈t,q.2.length<=sizeLine) (B:Gl X nm) (y:X.mg nm=some (.ref a)) (R:ED X b f) (K:Z9 b) (J:(nm == ("__debug__":Str))=false:=by decide) :
 ED X (.Subscript (.Subscript (.Name nm p) b p2) (.Constant (.int i) j p3) pos) (eUn (zfF t i) f):=by
 obtain⟨U,E,S⟩:=R
 refine⟨_,zku znG (zoh T B y E K J) zr (λ_ _=>rfl),fun σ ρ F H z Q s L e q=>?_⟩
 obtain⟨d,G,w⟩:=u4.mp e
 refine S σ ρ F H d _ s L G λF1 H1 v O N=>?_
 cases d with
 | str x =>
  obtain⟨ns,u,I⟩:=u4.mp w
  obtain⟨n,M,rfl⟩:=t4.mp I
  cases N.str_inv
  have g:∀ t:zkD,(∀ q∈t,q.2.length<=sizeLine)->WM t x=some ns->ns.length<=sizeLine:=by
   intro t
   induction t with
   | nil=>intro _ h;cases h
   | cons q t A =>
    intro l h
    unfold WM at h
    split at h
    .cases h;exact l q f8
    .exact A (λr C=>l r (r4 _ C)) h
  refine⟨x,ns,rfl,by rw[Wq,u];rfl,λp m P D=>⟨p,m,ns.map V.int,i,.int n,rfl,rfl,P,D,by rw[u9];exact g t l u,?_,q F1 H1 _ O .int⟩⟩
  have:∀ (c:zC),atI c i=some n->atI (c.map V.int) i=some (V.int n):=λc h=>by
   unfold atI at h ⊢
   rw[u9]
   cases o:ixN c.length i with
   | none=>rw[o]at h;cases h
   | some k =>
    rw[o]at h
    show(c.map V.int)[k]?=_
    have h:c[k]?=some n:=h
    rw[k9,h]
    rfl
  exact this ns M
 | _=>cases w
end Dl
namespace Dl
open PySem L2
variable [KK]
section
variable {X:Cx}{st:Stmt}{sts:wU}{a b c e tg:Expr}{pos pos':Pos}
omit [KK] in
def zhP {f:zU}(ρ:SE)(d:D):xD m i f ρ≠.rt d:=by
 unfold xD
 cases vEv m f ρ <;> (intro h;cases h)
end
end Dl
namespace L2
open PySem PySem.Spec PyProof.Rows
def KD {α:Type}:Sem α->Prop
 | .pure _=>True
 | .raise _=>True
 | .unsupported _=>True
 | .finish _=>True
 | .rule _ k=>KD (k ())
 | .at _ k=>KD (k ())
 | .load _ _ k=>∀ o,KD (k o)
 | .update _ _ f k=>(∀ o,(f o).dict=o.dict)/\KD (k ())
 | .loadIfAlive _ k=>∀ o,KD (k o)
 | .point _ k=>KD (k ())
 | .register _ _=>True
 | .alloc _ k=>∀ a,KD (k a)
 | .fresh k=>∀ t,KD (k t)
 | .ask k=>∀ x,KD (k x)
 | .handled _ k=>∀ x,KD (k x)
 | .stack k=>∀ x,KD (k x)
 | .thread k=>∀ n,KD (k n)
 | .choose _ _ _=>False
 | .os _ _ _=>False
 | .call _ _ _ _ _=>False
 | .newGen _ _=>False
 | .genState _ _=>False
 | .resume _ _ _ _=>False
 | .yield _ _ _ _=>False
 | .fork _ _=>False
 | .await _ _ _ _ _=>False
def zmn {α β:Type}(f:α->Sem β)(i:∀ a,KD (f a)):∀ (m:Sem α),KD m->KD (m.bind f):=by
 intro m
 induction m with
 | pure a=>intro _;exact i a
 | raise e=>intro _;trivial
 | unsupported w=>intro _;trivial
 | finish e=>intro _;trivial
 | rule t k b=>intro h;exact b () h
 | «at» p k b=>intro h;exact b () h
 | load a p k b=>intro h o;exact b o (h o)
 | update a p g k b=>intro h;exact⟨h.1,b () h.2⟩
 | loadIfAlive a k b=>intro h o;exact b o (h o)
 | point l k b=>intro h;exact b () h
 | register a k b=>intro h;trivial
 | alloc o k b=>intro h a;exact b a (h a)
 | fresh k b=>intro h a;exact b a (h a)
 | ask k b=>intro h a;exact b a (h a)
 | handled o k b=>intro h a;exact b a (h a)
 | stack k b=>intro h a;exact b a (h a)
 | thread k b=>intro h a;exact b a (h a)
 | choose s n k b=>intro h;exact h.elim
 | os q l k b=>intro h;exact h.elim
 | call c h g l k b=>intro h;exact h.elim
 | newGen c k b=>intro h;exact h.elim
 | genState g k b=>intro h;exact h.elim
 | resume g r l k b=>intro h;exact h.elim
 | yield v g l k b=>intro h;exact h.elim
 | fork c k b=>intro h;exact h.elim
 | await a f d l k b=>intro h;exact h.elim
def yp {α β:Type}{m:Sem α}{f:α->Sem β}(b:KD m)(c:∀ a,KD (f a)):KD (m>>=f):=zmn f c m b
def DK (h c:Heap):Prop:=∀ (b:Nat) (o:Obj),h.objs[b]?=some o->∃ a:Obj,c.objs[b]?=some a/\a.dict=o.dict
def DK.refl (h:Heap):DK h h:=λ_ o e=>⟨o,e,rfl⟩
def DK.trans {d f:Heap}(a:DK c d)(b:DK d f):DK c f:=λp o e=>by
 obtain⟨j,l,k⟩:=a p o e
 obtain⟨g,i,h⟩:=b p j l
 exact⟨g,i,h.trans k⟩
def DK.push (h:Heap)(o:Obj):DK h (h.push o):=λb u e=>by
 refine⟨u,?_,rfl⟩
 obtain⟨a,l⟩:=h
 show(a.push o)[b]?=some u
 have c:b<a.size:=(u2i.mp e).1
 rw[Array.getElem?_push_lt c]
 exact(u2i.mp e).2 ▸ rfl
def DK.update (h:Heap)(a:Addr){f:Obj->Obj}(g:∀ o,(f o).dict=o.dict):DK h (h.update a f):=λb u e=>by
 obtain⟨c,l⟩:=h
 show ∃ d,(c.modify a f)[b]?=some d/\_
 rw[Array.getElem?_modify]
 have e:c[b]?=some u:=e
 split
 .rw[e];exact⟨f u,rfl,g u⟩
 .rw[e];exact⟨u,rfl,rfl⟩
def zge {h:Heap}(e:h.get? b=some o):h.objs[b]?=some o:=by
 unfold Heap.get? at e
 split at e
 .cases e
 .exact e
def DK.of {h f:Heap}{o c:Obj}(k:DK h f)(e:h.get? b=some o)(g:f.get? b=some c):c.dict=o.dict:=by
 obtain⟨i,a,d⟩:=k b o (zge e)
 rw[zge g]at a
 cases a
 exact d
def zrS {α:Type}(M:Model)(Γ:PySem.Ctx):∀ (m:Sem α) (Q:α->Pos->Shared->Prop) (E:Value->Pos->Shared->Prop) (p:Pos) (s s0:zn),KD m->DK s0.heap s.heap->Sem.wp M Γ m Q E p s ->
 Sem.wp M Γ m (λa p i=>Q a p i/\DK s0.heap i.heap) (λe p i=>E e p i/\DK s0.heap i.heap) p s:=by
 intro m
 induction m with
 | pure a=>intro Q E p s s0 _ k h;exact⟨h,k⟩
 | raise e=>intro Q E p s s0 _ k h;exact⟨h,k⟩
 | unsupported w=>intro Q E p s s0 _ k h;exact h
 | finish e=>intro Q E p s s0 _ k h;exact h
 | rule t k b=>intro Q E p s s0 c d h;exact b () Q E p s s0 c d h
 | «at» p k b=>intro Q E p s s0 c d h;exact b () Q E _ s s0 c d h
 | load a p k b =>
  intro Q E p s s0 c d h
  obtain⟨o,e,h⟩:=h
  exact⟨o,e,b o Q E p s s0 (c o) d h⟩
 | update a p g k b =>
  intro Q E p s s0 c d h
  obtain⟨e,h⟩:=h
  exact⟨e,b () Q E p _ s0 c.2 (d.trans (.update s.heap a c.1)) h⟩
 | loadIfAlive a k b=>intro Q E p s s0 c d h;exact b _ Q E p s s0 (c _) d h
 | point l k b=>intro Q E p s s0 c d h;exact b () Q E p s s0 c d h
 | register a k b=>intro Q E p s s0 c d h;exact h
 | alloc o k b=>intro Q E p s s0 c d h;exact b _ Q E p _ s0 (c _) (d.trans (.push s.heap o)) h
 | fresh k b=>intro Q E p s s0 c d h;exact b _ Q E p _ s0 (c _) d h
 | ask k b=>intro Q E p s s0 c d h;exact b _ Q E p s s0 (c _) d h
 | handled o k b=>intro Q E p s s0 c d h;exact b _ Q E p s s0 (c _) d h
 | stack k b=>intro Q E p s s0 c d h;exact b _ Q E p s s0 (c _) d h
 | thread k b=>intro Q E p s s0 c d h;exact b _ Q E p s s0 (c _) d h
 | choose s n k b=>intro Q E p s s0 c;exact c.elim
 | os q l k b=>intro Q E p s s0 c;exact c.elim
 | call c h g l k b=>intro Q E p s s0 c;exact c.elim
 | newGen c k b=>intro Q E p s s0 c;exact c.elim
 | genState g k b=>intro Q E p s s0 c;exact c.elim
 | resume g r l k b=>intro Q E p s s0 c;exact c.elim
 | yield v g l k b=>intro Q E p s s0 c;exact c.elim
 | fork c k b=>intro Q E p s s0 c;exact c.elim
 | await a f d l k b=>intro Q E p s s0 c;exact c.elim
def zqm {α:Type}{t:Sem α}{Q:α->Shared->Prop}{E:yU}{s:zn}(c:KD t)(h:wpAny M A t Q E s) :
 wpAny M A t (λa b=>Q a b/\DK s.heap b.heap) (λe b=>E e b/\DK s.heap b.heap) s:=fun Γ p d=>zrS M Γ t _ _ p s s c (.refl _) (h Γ p d)
def Z1 {α:Type}{t:Sem α}{Q Q':α->Shared->Prop}{s:zn}(c:KD t)(h:wpAny M A t Q E s)(k:∀ a b,Q a b->DK s.heap b.heap->Q' a b):wpAny M A t Q' E s :=
 g6 (zqm c h) (λa b x=>k a b x.1 x.2) λ_ _ x=>x.1
def zdt (v:Value):KD (fieldsOf v):=by
 unfold fieldsOf
 split
 .refine yp (λ_=>trivial) λo=>?_
  split <;> trivial
 .trivial
def X9 (v:Value)(i:Nat):KD (field v i):=by
 unfold field
 refine yp (zdt v) λa=>?_
 split <;> trivial
def Vx (f:wq->wq)(o:Obj):(Obj.mapFields f o).dict=o.dict:=by
 obtain⟨c,d,x,s⟩:=o
 cases x <;> rfl
def Y9 (v:Value)(i:Nat)(x:Value):KD (setField v i x):=by
 unfold setField
 split
 .unfold updateField
  refine yp (λ_=>trivial) λo=>?_
  split
  .split
   .exact⟨Vx _,trivial⟩
   .trivial
  .trivial
 .trivial
def YE (e:Value)(f:y6):KD (setFlight e f):=by
 unfold setFlight
 refine yp (X9 e 1) λa=>?_
 split
 .exact Y9 _ _ _
 .trivial
def zbH (ty:String)(b:zB):KD (newFields ty b):=by
 have a:KD (newObjAsIs (Value.type ty) (Data.fields b.toArray)):=yp (λ_=>trivial) λ_=>trivial
 unfold newFields newObj
 show KD (if b.toArray.size>sizeLine+2 then _ else _)
 by_cases h:b.toArray.size>sizeLine+2
 .rw[t7 h]
  exact yp (show KD (unsupported (α:=Unit) _)from trivial) λ_=>a
 .rw[j6 h]
  exact a
def zcE (a b c d e:Value)(pl:zB):KD (EntryCells.newEntry a b c d e pl):=zbH _ _
def zjM (f:Addr)(b:Bool):KD (entryPlaceOf f b):=by
 unfold entryPlaceOf
 refine yp (λ_=>trivial) λa=>?_
 split <;> trivial
def zcv:KD frameEnvs:=by
 unfold frameEnvs
 exact yp (λ_=>trivial) λ_=>trivial
def zjt:∀ l:List Env,KD (readyFrames l):=by
 intro l
 induction l with
 | nil=>trivial
 | cons env outer a =>
  unfold readyFrames
  split
  .refine yp (λ_=>trivial) λo=>?_
   split
   .trivial
   .refine yp ?_ λb=>yp ?_ λbk=>yp ⟨λo=>rfl,trivial⟩ λ_=>a
    .unfold behindIsImport
     split
     .trivial
     .split
      .trivial
      .exact yp (X9 _ _) λ_=>trivial
    .unfold keptBack
     split
     .split
      .trivial
      .unfold underTheClaimsCaller
       exact yp (λ_=>trivial) λ_=>trivial
     .trivial
  .trivial
def ze4 (env:Env):KD (PySem.frameOf env):=by
 unfold PySem.frameOf
 refine yp zcv λl=>yp ?_ λo=>?_
 .unfold frameObject
  split
  .trivial
  .exact yp (zjt _) λ_=>trivial
 .split <;> trivial
def Xq (e:Value)(env:Env):KD (noteFrame e env):=by
 unfold noteFrame
 split
 .rename_i f c
  refine yp (X9 e 1) λa=>?_
  have b:KD (do setField e 1 (<- EntryCells.newEntry a (<- PySem.frameOf env) .none (rawInt f) .none (<- entryPlaceOf f (a != .none)))):=yp (ze4 env) λ_=>yp (zjM _ _) λ_=>yp (zcE _ _ _ _ _ _) λ_=>Y9 _ _ _
  by_cases h:(a != Value.none)=true
  .dsimp only
   rw[t7 h]
   refine yp (X9 a 3) λx=>?_
   split
   .trivial
   .exact yp (Y9 _ _ _) λ_=>b
  .dsimp only
   rw[j6 h]
   exact b
 .trivial
def Xd (env:Env)(e:Value):KD (leaving env e):=yp (Xq e env) λ_=>YE e none
end L2
namespace L2
open PySem PySem.Spec PyProof.Rows
open Sem (wp)
abbrev exH (h:Heap) (C:Addr) (a:zB):Heap:=(h.push { cls:=.type "tuple",data:=.seq a.toArray }).push { cls:=.ref C,data:=.fields #[.ref h.objs.size,.none,.none,.none,.bool false,.none] }
def vj {h:Heap}(e:h.get? b=some o):(exH h C us).get? b=some o:=u6 _ (u6 _ e)
def zls (h:Heap)(C:Addr)(a:zB):(exH h C a).get? (h.objs.size+1)=some { cls:=.ref C,data:=.fields #[.ref h.objs.size,.none,.none,.none,.bool false,.none] }:=by heap_get
section
variable {prog:zP}{w:World}{A:zR}{E:yU}{h:Heap}{g:Array GenState}{d:Drawn}{t:Nat}{os:OsState}
 {nm q:Str} {C N fI:Addr} {bs bm:zB} {hdct:Bool} {sn:zH} {sub:zB} {ab:Bool} {col:Option Bool} {dd:y6} {k0 k1 k2 k3 k5:Option Value} {mN:wn} {us:zB} {oI:Obj}
def ze1 {R:Fin->Shared->Prop} (T:OwnTail h [.type "ValueError",.type "Exception",.type "BaseException",.type "object"] bm) (a:h.get? C=some (excClassObj nm q C N bs bm hdct sn sub ab col dd k0 k1 k2 k3 k5 "ValueError.__new__")) (v:h.Ns N mN) (p:mN "__init__"=some (.ref fI)) (x:h.get? fI=some oI) (l:oI.cls=.type "function")
 (k:wpAny (model prog w) A (call (.ref fI) (.ref (h.objs.size+1)::us)) (λr i=>r=.none/\R (.done (.ret (.ref (h.objs.size+1)))) i) E ⟨exH h C us,g,d,t,os⟩) (y:us.length<=sizeLine) :
 wpAny (model prog w) A (Builtin.«type.__call__» ⟨.ref C::us,[]⟩) R E ⟨h,g,d,t,os⟩:=by
 have FV:=u0m
 repeat (first | with_reducible refine wpAny_madeBy_exc a ?_ | with_reducible refine u05 a ?_ | wp_step)
 refine codeAny_call_builtin_code (u2o _ FV.quiet) (wpAny_check_new_subU FV (by decide) T a (codeAny_exc_new_subU FV (by decide) FV T a ?_ y))
 show wpAny _ _ _ _ _ _
 have j:=vj (us:=us) (C:=C) a
 have m:=vj (us:=us) (C:=C) x
 have s:(exH h C us).Ns N mN:=let ⟨ob,ens,epo,e1,r1⟩:=v;⟨ob,ens,epo,vj e1,r1⟩
 have u:=T.keeps (h':=exH h C us) λb o e=>vj e
 have n:=zls h C us
 have f:(Value.ref C::bm).contains (.ref C)=true:=by simp
 unfold isInstance
 repeat (first | (with_reducible refine wpAny_isSubtype_exc j ?_;rw[f]) | with_reducible refine u05 n ?_ | wp_step)
 show wpAny _ _ (typeLookup (.ref C) _) _ _ _
 refine wpAny_typeLookup_tail j s u FV.mroIs FV.init.lookup ?_
 rw[p]
 refine l8 (u5 ?_)
 unfold bindSpecial
 refine u5 (u1S (T:="function") ⟨_,m,l⟩ ?_)
 rw[t7 (by decide)]
 refine t5 (u5 (g6 k (λr i c=>?_) λ_ _ z=>z))
 obtain⟨rfl,c⟩:=c
 wp_walk
 exact c
def ziE {R:yU} (T:OwnTail h [.type "ValueError",.type "Exception",.type "BaseException",.type "object"] bm) (a:h.get? C=some (excClassObj nm q C N bs bm hdct sn sub ab col dd k0 k1 k2 k3 k5 "ValueError.__new__")) (f:h.Ns N mN) (j:mN "__init__"=some (.ref fI)) (i:h.get? fI=some oI) (b:oI.cls=.type "function")
 (k:wpAny (model prog w) (A.under (.builtin "type.__call__" ⟨.ref C::us,[]⟩)) (call (.ref fI) (.ref (h.objs.size+1)::us)) (λr e=>r=.none/\R (.ref (h.objs.size+1)) e) E ⟨exH h C us,g,d,t,os⟩) (c:us.length<=sizeLine) :
 wpAny (model prog w) A (call (.ref C) us) R E ⟨h,g,d,t,os⟩:=by
 have l:=tc_lookup
 have n:=tc_bind (.ref C)
 have m:(⟨h,g,d,t,os⟩:zn).TypeIs (.ref C) "type":=⟨_,a,rfl⟩
 refine u1I (codeAny_of_tree ?_)
 show wpAny _ _ (callAny (.ref C) _) _ _ _
 repeat (any_goals (first | with_reducible refine u05 a ?_ | assumption | wp_step))
 refine⟨rfl,codeAny_call_builtin_at (u2o _ (by decide +kernel)) entry_typeCall (wpAny_check_type_call_sub a (ze1 T a f j i b ?_ c))⟩
 exact k
end
def zfw {A:zR} {E:yU} {nm:Str} {N:Addr} {bs bm:zB} {sub:zB} (k:bm.contains (.type "BaseException")=true) (j:A.handled=none) (h:wpAny M A x (λv a=>∃ e t c f,v=.ref e/\a.heap.get? C=some (excClassObj nm q C N bs bm hdct sn sub ab col dd k0 k1 k2 k3 k5 newId) /\
 a.heap.get? e=some { cls:=.ref C,dict:=c,data:=.fields #[.ref t,.none,.none,.none,.bool false,.none],slots:=f }/\E (.ref e) a) E s):wpAny M A (raiseStmt env (some x) none) Q E s:=by
 have b:(Value.ref C::bm).contains (.type "BaseException")=true:=by rw[List.contains_cons,k,Bool.or_true]
 unfold raiseStmt
 refine u5 (g6 h (λv a z=>?_) λ_ _ z=>z)
 obtain⟨e,t,c,f,rfl,d,g,l⟩:=z
 obtain⟨o,m,i,n,os⟩:=a
 repeat (first | with_reducible refine u05 d ?_ | with_reducible refine u05 g ?_ | (with_reducible refine wpAny_isSubtype_exc d ?_;rw[b]) | wp_step)
 exact wpAny_raiseNew_none j l
end L2
namespace L2
open PySem PySem.Spec PyProof.Rows
section
variable {prog:zP}{w:World}{A:zR}{E:yU}{s:zn}{env:Env}
 {nm q:Str} {C N fI:Addr} {bs bm:zB} {hdct:Bool} {sn:zH} {sub:zB} {ab:Bool} {col:Option Bool} {dd:y6} {k0 k1 k2 k3 k5:Option Value} {mN:wn} {oI:Obj}
def ze9 {k:Pos} (O:bm.contains (.type "BaseException")=true) (K:A.handled=none) (o:(backTo c (starEach args env)).any (·.1)=false) (I:mN "__init__"=some (.ref fI)) (G:oI.cls=.type "function") (h:wpAny (model prog w) A (eval (.Name x F) env) (λf D=>f=.ref C/\wpAny (model prog w) A (evalArgs (.ref C) true (backTo c (starEach args env)) []) (λa b=>a.kw=[]/\a.pos.length<=sizeLine /\
 b.heap.get? C=some (excClassObj nm q C N bs bm hdct sn sub ab col dd k0 k1 k2 k3 k5 "ValueError.__new__")/\b.heap.Ns N mN/\OwnTail b.heap [.type "ValueError",.type "Exception",.type "BaseException",.type "object"] bm/\b.heap.get? fI=some oI /\
 wpAny (model prog w) (A.under (.builtin "type.__call__" ⟨.ref C::a.pos,[]⟩)) (call (.ref fI) (.ref (b.heap.objs.size+1)::a.pos)) (λr i=>r=.none/\∃ t l p,i.heap.get? C=some (excClassObj nm q C N bs bm hdct sn sub ab col dd k0 k1 k2 k3 k5 "ValueError.__new__") /\
  i.heap.get? (b.heap.objs.size+1)=some { cls:=.ref C,dict:=l,data:=.fields #[.ref t,.none,.none,.none,.bool false,.none],slots:=p }/\E (.ref (b.heap.objs.size+1)) i) E { b with heap:=exH b.heap C a.pos }) E D) E s) :
 wpAny (model prog w) A (exec (.Raise (some (.Call (.Name x F) args [] c)) none k) env) Q E s:=by
 rw[arm_exec_Raise]
 refine u5 (u1y (zfw (C:=C) (nm:=nm) (q:=q) (N:=N) (bs:=bs) (bm:=bm) (hdct:=hdct) (sn:=sn) (sub:=sub) (ab:=ab) (col:=col) (dd:=dd) (k0:=k0) (k1:=k1) (k2:=k2) (k3:=k3) (k5:=k5) (newId:="ValueError.__new__") O K (u5 (g6 (wpAny_Call_ofName (g6 h (λf D z=>?_) λ_ _ z=>z)) (λv i z=>u5 (u1y (t5 z))) λ_ _ z=>z))))
 obtain⟨rfl,z⟩:=z
 unfold callWith
 refine u5 (l8 (g6 z (λa b y=>u5 (u1y ?_)) λ_ _ z=>z))
 obtain⟨R,J⟩:=a
 obtain⟨j,e,B,M,P,H,m⟩:=y
 obtain rfl:J=[]:=j
 obtain⟨T,g,d,S,os⟩:=b
 simp only[o]
 refine u5 (wpAny_keeperOf_exc B (u5 (ziE P B M I H G (g6 m (λr i y=>?_) λ_ _ z=>z) e)))
 obtain⟨rfl,t,l,p,n,u,L⟩:=y
 exact⟨rfl,u5 (l8 (wpAny_point (t5 ⟨_,t,l,p,rfl,n,u,L⟩)))⟩
end
def zmA (K:zv)(C f:Addr):Bool:=match K.lookup C with
 | some ⟨.type "type",_,.cls cd,sl⟩=>(match cd.mro,sl.toList with
  | .ref C'::bm,[_,_,_,_,some (.builtin n),_]=>(C' == C)&&(n == "ValueError.__new__"&&(!cd.hasDel&&(cd.hasDict&&(W.tailIn K [.type "ValueError",.type "Exception",.type "BaseException",.type "object"] bm&&(W.nsOkIn K cd.ns&&(W.nsIn K cd.ns "__init__" == some (some (.ref f))&&(match K.lookup f with | some of=>of.cls == .type "function" | none=>false)))))))
  | _,_=>false)
 | _=>false
def zmp {K:zv}{h:Heap}{N:Addr}{m:wn}(X:K.In h)(G:h.Ns N m)(e:W.nsIn K N n=some (some v)):m n=some v:=by
 obtain⟨j,a,b,g,f,_,i⟩:=G
 unfold W.nsIn at e
 split at e
 .rename_i d
  have z:=(X _ _ d).symm.trans g
  cases z
  cases f
  split at e
  .rename_i k c
   cases e
   rw[<-i]
   unfold nsFind findBy
   rw[<-Array.find?_toList,c]
   rfl
  .split at e <;> cases e
 .cases e
def zi2 {K:zv}{h0:Heap}{f:Addr}(X:K.In h0)(e:zmA K C f=true) :
 ∃ h N v q u t d w c x p i j o m A k,h0.get? C=some (excClassObj v q C N u h true t d w c x p i j o m "ValueError.__new__")/\h0.Ns N A/\A "__init__"=some (.ref f)/\OwnTail h0 [.type "ValueError",.type "Exception",.type "BaseException",.type "object"] h/\h0.get? f=some k/\k.cls=.type "function":=by
 unfold zmA at e
 split at e
 .rename_i x L E J
  split at e
  .rename_i C' h p i j o n m z D
   simp only[j0,u0k,u03]at e
   obtain⟨rfl,rfl,b,a,F,g,B,y⟩:=e
   obtain⟨v,u,I,ns,G,M,t,d,w,c,H⟩:=L
   dsimp only at z b a g B
   subst z b a
   have r:E=#[p,i,j,o,some (.builtin "ValueError.__new__"),m]:=by
    obtain⟨l⟩:=E
    simp only at D
    rw[D]
   subst r
   split at y
   .rename_i k s
    exact⟨h,ns,v,G,u,t,d,w,c,x,p,i,j,o,m,h0.nsMap ns,k,X _ _ J,.of_isNs (u2x X g),zmp X (.of_isNs (u2x X g)) B,W.tail_of_in X F,X _ _ s,u0k.mp y⟩
   .cases y
  .cases e
 .cases e
end L2
namespace L2
open PySem PySem.Spec PyProof.Rows PySem.Builtin PySem.Builtin.ObjectAttr
abbrev veV:zB:=[.type "ValueError",.type "Exception",.type "BaseException",.type "object"]
def zhV:zB->Bool
 | .ref _::r=>zhV r
 | l=>l == veV
def zg2 (a:Value):∀ {l:zB},zhV l=true->refuseLoop a "__setattr__" l=pure ():=by
 intro l
 induction l with
 | nil=>intro e;cases e
 | cons v r b =>
  intro e
  cases v with
  | ref c=>rw[refuseLoop_ref];exact b e
  | _=>exact u0k.mp (show((_:zB) == veV)=true from e) ▸ PySem.F.store_ValueError.passes a
def zhh:∀ {l:zB},zhV l=true->l.contains (.type "object")=true/\l.isEmpty=false:=by
 intro l
 induction l with
 | nil=>intro e;cases e
 | cons v r a =>
  intro e
  refine⟨?_,rfl⟩
  cases v with
  | ref c=>rw[List.contains_cons,(a e).1,Bool.or_true]
  | _=>rw[u0k.mp (show((_:zB) == veV)=true from e)];decide +kernel
def WE (K:zv) (C:Addr):Bool:=(W.clsIn K C).any (λa=>zhV a.mro&&a.hasDict)&&W.findIn K (.ref C) "__setattr__" == some (some (.builtin "object.__setattr__"))&&W.findIn K (.ref C) "__getattribute__" == some (some (.builtin "BaseException.__getattribute__"))&&W.findIn K (.ref C) "__getattr__" == some none&&W.subIn K (.ref C) (.type "BaseException") == some true
structure Xn (K:zv) (C:Addr):Prop where
 cls:∃ cd,W.clsIn K C=some cd/\zhV cd.mro=true/\cd.hasDict=true
 sa:W.findIn K (.ref C) "__setattr__"=some (some (.builtin "object.__setattr__"))
 ga:W.findIn K (.ref C) "__getattribute__"=some (some (.builtin "BaseException.__getattribute__"))
 gt:W.findIn K (.ref C) "__getattr__"=some none
 sb:W.subIn K (.ref C) (.type "BaseException")=some true
def Xn.of {K:zv}{C:Addr}(h:WE K C=true):Xn K C:=by
 unfold WE at h
 simp only[j0,u0k]at h
 obtain⟨b,e,a⟩:=W.any_some h.1.1.1.1
 rw[j0]at a
 exact⟨⟨b,e,a.1,a.2⟩,h.1.1.1.2,h.1.1.2,h.1.2,h.2⟩
section
variable {prog:zP}{w:World}{A:zR}{E:yU}{s:zn}{K:zv}{x C:Addr}{ox:Obj}{od:Option Obj}{name:Str}{v:Value}
def znx {R:Result->Shared->Prop}(X:K.In s.heap)(I:PySem.W.InstAt s.heap x ox C od)(o:Xn K C)(n:W.findIn K (.ref C) name=some none)(h:wpAny (model prog w) A.in1 (storeInOwnDict (.ref x) (.ref C) (.str name a) name v false) (λfin b=>match fin with | .done f=>R (.ok f) b | .again j=>j.quiet=true/\codeAny (model prog w) A j R b) (λe b=>R (.error e) b) s) :
 codeAny (model prog w) A (.call (.builtin "object.__setattr__") ⟨[.ref x,.str name a,v],[]⟩) R s:=by
 have SO:=PySem.F.store_object
 obtain⟨p,i,k,_⟩:=o.cls
 obtain⟨d,g⟩:=zhh k
 have c:PySem.W.Looks (model prog w) s.heap (isInstance (.ref x) (.type "object")) true:=I.type.andThen (W.looks_mroIn X (by unfold W.mroIn;rw[i,j7,j6 (by rw[g];decide),d]))
 refine u12 SO.slot.plain SO.entry (@W.check_slot (model prog w) _ _ s "object.__setattr__" "object" "__setattr__" (.ref x) [.str name a,v] [] _ SO.kind SO.split c (SO.args (.ref x) (.str name a) v) ?_)
 have m:PySem.W.Looks (model prog w) s.heap (mroOf (.ref C)) p.mro:=(u2f X i).andThen .now
 have l:PySem.W.Looks (model prog w) s.heap (storeTaker? none) none:=.now
 rw[W.osa_eq,refuse_eq]
 refine u5 (u5 (I.type.here (u5 (m.here ?_))))
 rw[zg2 _ k]
 exact t5 (u5 (I.type.here (u5 ((W.looks_findIn X n).here (u5 (l.here h))))))
def zm2 {Q:Unit->Shared->Prop}(X:K.In s.heap)(I:PySem.W.InstAt s.heap x ox C od)(b:Xn K C)(d:W.findIn K (.ref C) name=some none)
 (h:wpAny (model prog w) A.in1 (storeInOwnDict (.ref x) (.ref C) (.str name s.toks) name v false) (λfin a=>match fin with | .done (.ret _)=>Q () a | _=>False) E { s with toks:=s.toks+1 }) :
 wpAny (model prog w) A (setAttr (.ref x) name v) Q E s:=by
 refine W.set_plain X I b.sa (znx (s:={ s with toks:=s.toks+1 }) X I b d (g6 h (λfin a z=>?_) λ_ _ z=>z))
 cases fin with
 | again c=>exact z.elim
 | done f=>cases f <;> first | exact z | exact z.elim
def zjG {Q:Unit->Shared->Prop}(X:K.In s.heap)(i:s.heap.get? x=some ox)(d:ox.cls=.ref C)(a:PySem.W.notCls ox=true)(n:ox.dict=none)(B:Xn K C)(N:PySem.W.findIn K (.ref C) name=some none)
 (h:∀ g:Heap,g.get? x=some { ox with dict:=some s.heap.objs.size }->g.Ns1 s.heap.objs.size (λy=>if y=name then some v else none)->(∀ b o,b≠x->s.heap.get? b=some o->g.get? b=some o)->Q () { s with heap:=g,toks:=s.toks+2 }) :
 wpAny (model prog w) A (setAttr (.ref x) name v) Q E s:=by
 have I:PySem.W.InstAt s.heap x ox C none:=⟨i,d,a,by rw[n];trivial⟩
 refine zm2 X I B N ?_
 obtain⟨Y,G,_,H⟩:=B.cls
 have S:=u2f (M:=model prog w) X G
 unfold storeInOwnDict
 refine u5 (t5 ?_)
 have j:(Value.ref C == Value.type "module")=false:=rfl
 simp only[j]
 unfold ownDictForStores instanceDict
 refine u5 ?_
 refine u5 (wpAny_loadPart i ?_)
 obtain⟨T,O,f,p⟩:=ox
 dsimp only at d n
 subst d n
 dsimp only
 refine u5 (S.here (s:={ s with toks:=s.toks+1 }) ?_)
 rw[H]
 rw[j6 (by decide),j6 (by simp[typeHasDict])]
 have P:∀ c,f≠.cls c:=λc e=>by rw[e]at a;cases a
 split
 .rename_i c;exact absurd rfl (P c)
 have t:(s.heap.push { cls:=.type "dict",data:=.dict #[] }).get? x=some ⟨.ref C,none,f,p⟩:=u6 _ i
 have u:x≠s.heap.objs.size:=k6 (q4 i)
 refine u5 (wpAny_alloc' (u5 (wpAny_update' t (t5 ?_))))
 generalize q:((s.heap.push { cls:=Value.type "dict",data:=Data.dict #[] }).update x λo=>{ cls:=o.cls,dict:=some s.heap.objs.size,data:=o.data,slots:=o.slots })=h1
 have J:h1.get? s.heap.objs.size=some { cls:=.type "dict",data:=.dict #[] }:=by rw[<-q];exact(Heap.get?_update_ne _ _ _ _ u.symm).trans (Heap.get?_push_at rfl rfl)
 have D:h1.Ns s.heap.objs.size (λ_=>none):=⟨_,#[],_,J,rfl,λe L=>absurd L (by simp),λ_=>rfl⟩
 show wpAny _ _ (storeInDict s.heap.objs.size (.str name s.toks) name v) _ _ _
 unfold storeInDict newKeyGuard
 refine u5 (t5 (u5 (wpAny_nsSet1 (Heap.Ns1.of_empty D) λg k z=>?_)))
 obtain⟨U,V,W,m,l,r⟩:=k.count (Within.cons name v Within.nil)
 refine u5 (wpAny_lookBehind m (by rw[l];exact pastItsLine_dict (r0 r (by rw[k7,u1p,u0I];omega))) (t5 (h g ?_ k λb o R e=>?_)))
 .refine(z.2 x u).trans ?_
  rw[<-q]
  refine i0 _ t ?_
  have F:=(Heap.get?_some_iff.mp i).2
  cases f <;> first | rfl | exact F
 .refine(z.2 b (k6 (q4 e))).trans ?_
  rw[<-q]
  exact(Heap.get?_update_ne _ _ _ _ R).trans (u6 _ e)
end
end L2
namespace L2
open PySem PySem.Spec PyProof.Rows
section
variable {P:zP}{w:World}{H H':Hp}{h h':Heap}{a:Addr}{o:HO}
def yT.ex (x:yT P w H h a o):∃ u,h.get? a=some u:=by
 cases o with
 | lst d=>obtain⟨_,_,_,_,e⟩:=x;exact⟨_,e⟩
 | tup d=>obtain⟨_,_,_,c,e,_⟩:=x;exact⟨_,e⟩
 | dK b=>obtain⟨_,_,_,_,o,_,_,e,_⟩:=x;exact⟨_,e⟩
 | dT b=>obtain⟨_,_,_,_,o,_,_,e,_⟩:=x;exact⟨_,e⟩
 | set S n=>obtain⟨o,_,_,_,e,_⟩:=x;exact⟨_,e⟩
 | ins C j g=>obtain⟨_,_,_,e,_⟩:=x;exact⟨_,e⟩
 | own y=>exact x
 | xd g=>obtain⟨_,⟨_,_,_,e,_⟩,_⟩:=x;exact⟨_,e⟩
 | rng k l=>obtain⟨_,_,_,e⟩:=x;exact⟨_,e⟩
 | frz c u=>obtain⟨e,_⟩:=x;exact⟨_,e⟩
 | tbl i=>exact⟨_,(show h.get? a=some _ from x)⟩
 | met f y=>exact⟨_,(show h.get? a=some _ from x)⟩
 | ext φ=>obtain⟨_,⟨_,e⟩,_⟩:=x;exact⟨_,e⟩
theorem HOk.stays (x:HOk P w H h)(k:∀ b u,H b≠none->h.get? b=some u->h'.get? b=some u):HOk P w H h':=λa o e =>
 (x a o e).stay (λb u c q=>k b u (by
  rcases c with rfl | c
  .rw[e];intro z;cases z
  .rw[c];intro z;cases z) q) (λ_ q=>q) λ_ _ q=>q
end
structure Cov (outer:List Env) (H:Hp) (h:Heap) (H':Hp) (h' B:Heap):Prop where
 old:∀ b o,h.get? b=some o->H b=none->b∉frs outer->B.get? b=some o
 there:∀ b o,h.get? b=some o->b∉frs outer->∃ o',B.get? b=some o'
 new:∀ b o,H' b≠none->h'.get? b=some o->B.get? b=some o
def ZL (h:Heap)(a:Addr)(c:y6):Prop:=∃ b,h.get? a=some b/\b.dict=c
def ZL.stay {b:Heap}{g:y6}(d:ZL h a g)(k:DK h b)(e:∃ i,b.get? a=some i):ZL b a g:=by
 obtain⟨i,j,l⟩:=d
 obtain⟨c,f⟩:=e
 exact⟨c,f,(k.of j f).trans l⟩
def Air (P:zP)(w:World):CXT:=λouter H s E e a =>
 ∃ (b C t:Addr) (c:y6) (H':Hp) (B:Heap),e=.ref b/\a.os=s.os/\AllBare a.gens/\Un (frs outer) [] H H' s.heap a.heap/\HOk P w H' a.heap /\
  Heap.FlyingW B outer b (.ref C) (.ref t) a.heap/\Cov outer H s.heap H' a.heap B/\ZL a.heap b c/\E (.ref C) c H'
section
variable {X:Cx}{pins:xC}{σ:St}{H H':Hp}{s s':zn}{E:XK}{e:Value}{M:Model}{E2:yU}
def Inv.airUn (m:X.ex=[])(I:Inv X pins σ H s){g B:Heap}(J:Inv X pins σ H' s')(d:Cov X.stack H s.heap H' s'.heap B)(i:B.StaysIn g)(r:g.FunFrames B X.outer)(x:s'.heap.UpToSlots g) :
 Un X.fs [] X.H₀ H' X.s₀.heap g/\HOk X.prog X.w H' g/\Cov X.outer X.H₀ X.s₀.heap H' g B:=by
 have p:∀ b o,X.s₀.heap.get? b=some o->b≠X.env.locals:=λb o e=>k6 (q5 (q4 e) I.ok.above)
 have h:∀ b o,X.s₀.heap.get? b=some o->b∉X.fs->b∉frs X.stack:=λb o e n z=>(q7.mp (I.stkSub b z)).elim (p b o e) n
 have nx:∀ b:Addr,b∉X.ex:=by rw[m];simp
 have c:Cov X.outer X.H₀ X.s₀.heap H' g B:=by
  refine⟨λb o e n a=>d.old b o (I.base.keep b o e n a (nx b)) (I.base.free b o e n (nx b)) (h b o e a),λb o e a=>?_,λb o a e=>?_⟩
  .obtain⟨j,l⟩:=I.base.there b o e (nx b)
   exact d.there b j l (h b o e a)
  .cases q:H' b with
   | none=>exact absurd q a
   | some u =>
    obtain⟨v,D⟩:=(J.hok b u q).ex
    have z:=d.new b v a D
    have w:=i b v z
    rw[e]at w
    cases w
    exact z
 refine⟨⟨λb o e n a _=>i b o (c.old b o e n a),λb o e n a _=>?_,λb o e n _=>J.base.free b o e n (nx b),λb o e _=>?_,J.base.tups,J.base.frzs,J.base.tbls⟩,J.hok.stays λb u a E=>i b u (d.new b u a E),c⟩
 .obtain⟨F,y⟩:=J.base.slot b o e n a (nx b)
  obtain⟨_,t,f,C⟩:=I.ok.funs.mem a
  rw[e]at f
  cases f
  obtain⟨k,A⟩:=x b _ y C
  exact⟨k,A⟩
 .by_cases a:b∈X.fs
  .obtain⟨_,t,f,_⟩:=r.mem a
   exact⟨t,f⟩
  .obtain⟨j,l⟩:=c.there b o e a
   exact⟨j,i b j l⟩
def zoO (h:X.stack=X.env::X.outer)(D:X.env.frame=some X.env.locals)(k:X.ex=[])(I:Inv X pins σ H s)(a:Air X.prog X.w X.stack H s E e s') :
 wpAny M X.A (leaving X.env e) (λ_ d=>Air X.prog X.w X.outer X.H₀ X.s₀ E e d) E2 s':=by
 obtain⟨o,C,t,u,H',B,rfl,os,c,q,m,n,i,r,x⟩:=a
 have J:Inv X pins σ H' s':=I.call' (ch:=[]) os q m c (λb z=>nomatch z)
 rw[h]at n
 refine Z1 (Xd _ _) (wpAny_leaves_onW (Q:=λ_ d=>∃ g,d={ s' with heap:=g }/\Heap.FlyingW B X.outer o (.ref C) (.ref t) g/\s'.heap.UpToSlots g) (by rw[I.ok.frames,h]) D n λg f l=>⟨g,rfl,f,l⟩) ?_
 rintro _ _ ⟨g,rfl,f,l⟩ y
 obtain⟨w,A,v⟩:=I.airUn k J i f.1 f.2.2.1 l
 obtain⟨p,j,_⟩:=f.there
 exact⟨o,C,t,u,H',B,rfl,os.trans I.os,c,w,A,f,v,r.stay y ⟨p,j⟩,x⟩
end
def yu {P:zP}{w:World}{K:zv}{h:wn}{d:Heap}{N:zH}{c:Str}{b:Scope}{f:Addr}{i:Value}{A:zR}{outer:List Env}{s:zn}{H:Hp}{E:XK} :
 wK (Air P w) (wZ (Air P w) P w K h d N c b f i A outer s H E) E:=λg σ H1 j e k I a =>
 zoO (X:=wZ (Air P w) P w K h d N c b f i A outer s H E) rfl rfl rfl I a
def zg6 {P:zP}{w:World}{K:zv}{D:wn}{g:Heap}{N:zH}{j:Str}{d:Scope}{f:Addr}{R:Value}{A:zR}{outer:List Env}{s:zn}{H:Hp}{E:XK}
 {k:xC} {σ:St} {H1:Hp} {i:zn} {l:Heap} {m C:Addr} {args:zB}
 (I:Inv (wZ (Air P w) P w K D g N j d f R A outer s H E) k σ H1 i) (F:Heap.MadeExcOf i.heap l m (.ref C) args) (W:E (.ref C) none H1) :
 (wZ (Air P w) P w K D g N j d f R A outer s H E).xe (.ref m) { i with heap:=l }:=by
 let X:=wZ (Air P w) P w K D g N j d f R A outer s H E
 have I:Inv X k σ H1 i:=I
 have c:∀ b o,i.heap.get? b=some o->l.get? b=some o:=F.keeps
 have G:∀ env∈X.stack,∀ a,env.frame=some a->a∈frs X.stack:=λenv U a ha=>u1q.mpr ⟨env,U,ha⟩
 have J:Inv X k σ H1 { i with heap:=l }:=by
  have:=I.un (t':=i.toks) (H':=H1) (h':=l) (Un.kept c) (I.hok.kept c)
  exact this
 show wpAny (model P w) X.A (leaving X.env (.ref m)) (λ_ p=>Air P w outer H s E (.ref m) p) _ { i with heap:=l }
 refine Z1 (Xd _ _) (wpAny_leaves_madeW (Q:=λ_ p=>∃ n t,p={ i with heap:=n }/\Heap.FlyingW (PySem.W.hideAll i.heap (frs X.stack)) outer m (.ref C) (.ref t) n/\l.UpToSlots n) (base:=PySem.W.hideAll i.heap (frs X.stack)) (h:=i.heap) (L:=X.env.locals) (outer:=outer) (I.ok.frames) rfl (λb o q=>u2y _ q) (PySem.W.funFrames_hide I.stack G) F λn t v x2 x3 O=>⟨n,t,rfl,v,O⟩) ?_
 rintro _ _ ⟨n,t,rfl,v,O⟩ dk
 obtain⟨y,B,_⟩:=v.there
 have Y:ZL n m none:=by
  obtain⟨V,x,_⟩:=F.there
  exact ZL.stay (h:=l) ⟨_,x,rfl⟩ dk ⟨y,B⟩
 have M:Cov X.stack H1 i.heap H1 l (PySem.W.hideAll i.heap (frs X.stack)):=by
  refine⟨λb o e _ r=>u0q _ e r,λb o e r=>⟨o,u0q _ e r⟩,λb o r e=>?_⟩
  cases q:H1 b with
  | none=>exact absurd q r
  | some u =>
   obtain⟨y,S⟩:=(I.hok b u q).ex
   have z:=c b y S
   rw[e]at z
   cases z
   exact u0q _ S λz=>r (I.stkFree b z)
 obtain⟨T,u2,Z⟩:=I.airUn (X:=X) rfl J M v.1 v.2.2.1 O
 exact⟨m,C,t,none,H1,_,rfl,I.os,I.bare,T,u2,v,Z,Y,W⟩
abbrev bmV:zB:=[.type "ValueError",.type "Exception",.type "BaseException",.type "object"]
structure XCls (K:zv) (mg:wn) (C:Addr) (x:Str):Prop where
 bound:mg x=some (.ref C)
 exc:W.excIn K C bmV "ValueError.__new__"=true
def zmT {K:zv}{j:Heap}(X:K.In j)(q:W.excIn K C h a=true) :
 ∃ i N v q u g t d w c x r k m p o z,j.get? C=some (excClassObj v q C N u i g t d w c x r k m p o a)/\j.Ns N z/\z "__init__"=none/\OwnTail j h i:=by
 unfold W.excIn at q
 split at q
 .rename_i x J B I
  split at q
  .rename_i C' i r k m p n o y A
   simp only[j0,u0k,u03]at q
   obtain⟨⟨⟨⟨⟨rfl,rfl⟩,b⟩,D⟩,e⟩,f⟩:=q
   obtain⟨v,u,H,ns,E,F,t,d,w,c,G⟩:=J
   dsimp only at y b e f
   subst y b
   have s:B=#[r,k,m,p,some (.builtin n),o]:=by
    obtain⟨l⟩:=B
    simp only at A
    rw[A]
   subst s
   exact⟨i,ns,v,E,u,F,t,d,w,c,x,r,k,m,p,o,_,X _ _ I,.of_isNs (u2x X e),W.nsMap_none_of_in X e f,W.tail_of_in X D⟩
  .cases q
 .cases q
def zjS {P:zP}{w:World}{K:zv}{m:wn}{c:Heap}{N:zH}{b:Str}{a:Scope}{f:Addr}{L:Value}{A:zR}{outer:List Env}{s:zn}{H:Hp}{E:XK}{C:Addr}{x:Str}{V j k:Pos}
 (o:XCls K m C x) (Q:Gl (wZ (Air P w) P w K m c N b a f L A outer s H E) x) (S:(x == ("__debug__":Str))=false:=by decide) :
 PS (wZ (Air P w) P w K m c N b a f L A outer s H E) (.Raise (some (.Call (.Name x V) [] [] j)) none k) (λ_ _ H1=>E (.ref C) none H1):=by
 intro v W σ H1 D I h
 obtain⟨R,N',z,q,y,d,t,i,F,g,G,J,p,r,B,u,n,U,O,l,T⟩:=zmT I.ok.mod.kin o.exc
 refine wpAny_Raise_call_subU (C:=C) (nm:=z) (q:=q) (N:=N') (bs:=y) (bm:=R) (hdct:=d) (sn:=t) (sub:=i) (ab:=F) (col:=g) (dd:=G) (k0:=J) (k1:=p) (k2:=r) (k3:=B) (k5:=u)
  u0m (by decide) u0m (mN:=n) (T.hasType u0m.hasBase) (I.ok.hd rfl) rfl l (vC I Q o.bound ⟨rfl,?_⟩ S)
 exact evalArgs_empty ⟨rfl,u0b _,I.bk _ _ U,O.keeps I.bk,T.keeps I.bk,λX e M=>zg6 I M h⟩
def zj9:PA X a (λ_ _ _=>False):=λ_ _ _ _ _ _ _ h=>h.elim
end L2
namespace Dl
open PySem L2
def pay (j:Nat):Option (List (Str × V)):=match j/16%4 with
 | 0=>none
 | 1=>some [("at",.int ((j/64:Nat)-1))]
 | 2=>some [("row",.int ((j/64:Nat)-1))]
 | _=>some [("many",.int ((j/64/1024:Nat):Int)),("most",.int ((j/64%1024:Nat):Int))]
variable [KK]
section
variable (E:XK)(cl:Nat->Addr)
def EJ (j:Nat)(H:Hp):Prop:=match pay j with
 | none=>E (.ref (cl j)) none H
 | some b=>∀ a,H a=none->E (.ref (cl j)) (some a) (upd H a (.xd b))
def Wi (F H:Hp)(j:Nat):Prop:=∀ F' H',Gr F H F' H'->EJ E cl j H'
def RXE (t:TE)(a:zaV):Prop:=∀ (σ:St) (ρ:Ev) (F H:Hp) (j:Nat) (Q:VK),zX F H->VAt F ρ σ->a ρ=some j->Wi E cl F H j->t σ H Q
def RXA (t:TA)(a:zaV):Prop:=∀ (σ:St) (ρ:Ev) (F H:Hp) (j:Nat) (Q:zx->Hp->Prop),zX F H->VAt F ρ σ->a ρ=some j->Wi E cl F H j->t σ H Q
def RXS (t:TS)(a:xa):Prop:=∀ (Fb Hb F H:Hp) (ρ:SE) (σ:St) (D':Vp) (j:Nat),Rl Fb Hb F H ρ σ->a ρ=some j->Wi E cl Fb Hb j->t D' σ H
def XE (X:Cx)(e:Expr)(a:zaV):Prop:=∃ t,PE X e t/\RXE E cl t a
def XA (X:Cx)(b:y9)(a:zaV):Prop:=∃ t,PA X b t/\RXA E cl t a
def XS (X:Cx)(b:Stmt)(a:xa):Prop:=∃ t,PS X b t/\RXS E cl t a
def XSs (X:Cx)(a:wU)(b:xa):Prop:=∃ t,PSs X a t/\RXS E cl t b
end
section
variable {E:XK}{cl:Nat->Addr}{X:Cx}{a b c e:Expr}{es:y9}{st:Stmt}{sts:wU}{pos pos':Pos}
def Wi.grow (w:Wi E cl F H j)(g:Gr F H F1 H1):Wi E cl F1 H1 j:=λF' H' a=>w F' H' (g.trans a)
def Wi.out (w:Wi E cl Fb Hb j)(a:Rl Fb Hb F H ρ σ):Wi E cl (gOf ρ σ F H) H j:=λF' H' g=>w F' H' (a.out g)
def spX (cl:Nat->Addr)(m:Nat)(r:ziQ):Sp:=λb H _ E=>∃ a j F,a.length=m/\zX F H/\AtL F a b/\r a=some j/\Wi E cl F H j
def wj (m:Nat)(r:ziQ)(f:yx):zaV:=fun ρ=>(f ρ).bind λds=>if ds.length=m then r ds else none
def wL {k:Nat} {f:Addr} {d:zH} {g:yx} (F:xB X.prog X.w X.K X.mg X.base (Air X.prog X.w) k f h d (spX cl m r)) (o:wK (Air X.prog X.w) X E) (q:xk k X.A) (p:Gl X x) (n:X.mg x=some (.ref f)) (v:W.keepIn X.K (.ref f)=true) (I:xG X.K h d []) (C:AD X (e::es) g) (c:(x == ("__debug__":Str))=false:=by decide) (B:starEach (e::es) X.env=(false,eval e X.env)::starEach es X.env:=by rfl) (a:(backTo pos (starEach es X.env)).any (·.1)=false:=by rfl) :
 XE E cl X (.Call (.Name x G) (e::es) [] pos) (wj m r g):=by
 obtain⟨t,K,y⟩:=C
 refine⟨_,zah F q p n v I .nil o K c B a,fun σ ρ F0 H j Q s z e w=>?_⟩
 obtain⟨i,u,b⟩:=u4.mp e
 split at b <;> try cases b
 rename_i J
 refine y σ ρ F0 H i _ s z u λF1 H1 L l A=>?_
 exact⟨i,j,F1,J,l.fh,by rw[r8];exact A,b,w.grow l⟩
def zeb {k:Nat} {f:Addr} {g:wh} {d:zH} {p:wm} {c:zaV} (F:xB X.prog X.w X.K X.mg X.base CX0 k f g d (spD m p)) (o:xk k X.A) (n:Gl X x) (h:X.mg x=some (.ref f)) (v:W.keepIn X.K (.ref f)=true) (y:xG X.K g d []) (r:XA E cl X (e::es) c) (b:(x == ("__debug__":Str))=false:=by decide) (q:starEach (e::es) X.env=(false,eval e X.env)::starEach es X.env:=by rfl) (a:(backTo pos (starEach es X.env)).any (·.1)=false:=by rfl) :
 XE E cl X (.Call (.Name x u) (e::es) [] pos) c:=by
 obtain⟨t,l,z⟩:=r
 exact⟨_,zah F o n h v y .nil zaG l b q a,fun σ ρ F0 H j Q s i e w=>z σ ρ F0 H j _ s i e w⟩
def Zk {b:zaV}(h:XE E cl X a b)(c:starEach (a::es) X.env=(false,eval a X.env)::starEach es X.env:=by rfl):XA E cl X (a::es) b:=by
 obtain⟨t,p,r⟩:=h
 exact⟨_,zu p zj9 c,fun σ ρ F H j Q s d e w=>r σ ρ F H j _ s d e w⟩
def zgB {f:zU}{b:zaV}(h:ED X a f)(n:XA E cl X es b)(i:starEach (a::es) X.env=(false,eval a X.env)::starEach es X.env:=by rfl):XA E cl X (a::es) (fun ρ=>(f ρ).bind λ_=>b ρ):=by
 obtain⟨t,p,r⟩:=h
 obtain⟨u,o,k⟩:=n
 refine⟨_,zu p o i,fun σ ρ F H j Q s c e w=>?_⟩
 obtain⟨d,l,m⟩:=u4.mp e
 exact r σ ρ F H d _ s c l λF' H' v g q=>k σ ρ F' H' j _ g.fh (c.mono g.ff) m (w.grow g)
def Wu {b:zaV}(h:XE E cl X e b)(c:swapsWith e none pos.line X.env=pure false:=by rfl):XS E cl X (.Expr e pos) (fun ρ=>b (visG ρ)):=by
 obtain⟨t,p,r⟩:=h
 exact⟨_,Zj p c,λFb Hb F H ρ σ D' j a e w=>r σ _ _ H j _ a.gh a.visG e (w.out a)⟩
def Xm {b:zaV}(h:XE E cl X e b):XS E cl X (.Return (some e) pos) (fun ρ=>b (visG ρ)):=by
 obtain⟨t,p,r⟩:=h
 exact⟨_,Y7 p,λFb Hb F H ρ σ D' j a e w=>r σ _ _ H j _ a.gh a.visG e (w.out a)⟩
def zlQ {i:Nat}{b:zaV}(g:X.N.Nodup)(d:X.N[i]?=some x)(c:Loc X.env.scope x)(h:XE E cl X e b)(f:swapsWith e (some (.Name x pos')) pos.line X.env=pure false:=by rfl)(k:X.fn x=true\/X.env.scope.names.lookup x=some .local:=by first | exact .inl rfl | exact .inr rfl | assumption):XS E cl X (.Assign [.Name x pos'] e pos) (fun ρ=>b (visG ρ)):=by
 obtain⟨t,p,r⟩:=h
 exact⟨_,vK g d c p f k,λFb Hb F H ρ σ D' j a e w=>r σ _ _ H j _ a.gh a.visG e (w.out a)⟩
noncomputable def xIf (t:vr)(g h:xa):xa:=fun ρ=>match t (visG ρ) with
 | some true=>g ρ
 | some false=>h ρ
 | none=>none
def Yr {e f:wU}{t:vr}{g:xa}(i:TD X c t)(p:XSs E cl X e g)(q:XSs E cl X f h):XS E cl X (.If c e f pos) (xIf t g h):=by
 obtain⟨v,o,l⟩:=i
 obtain⟨u,s,n⟩:=p
 obtain⟨x,m,r⟩:=q
 refine⟨_,zgf o s m,λFb Hb F H ρ σ D' j b k w=>?_⟩
 unfold xIf at k
 cases h:t (visG ρ) with
 | none=>rw[h]at k;cases k
 | some d =>
  rw[h]at k
  refine l σ _ _ H d _ b.gh b.visG h λF' H' g=>?_
  have a:=b.grow (b.back g).1
  cases d with
  | true=>rw[t7 rfl];exact n Fb Hb _ H' ρ σ D' j a k w
  | false=>rw[j6 u7];exact r Fb Hb _ H' ρ σ D' j a k w
def xNo:xa:=λ_=>none
def vu:XS E cl X st xNo:=⟨_,zdW,λ_ _ _ _ _ _ _ _ _ h _=>by cases h⟩
def yb {g:xa}(h:XS E cl X st g):XSs E cl X [st] g:=let ⟨_,p,r⟩:=h;⟨_,wO p,r⟩
noncomputable def w1 (b:xa)(g:zz)(a:xa):xa:=fun ρ=>match b ρ with
 | some j=>some j
 | none=>match g ρ with
  | .nx c=>a c
  | _=>none
def yq {f:xa}{g:zz}(p:XS E cl X st f)(q:SD X st g)(y:XSs E cl X sts l):XSs E cl X (st::sts) (w1 f g l):=by
 obtain⟨A,x,z⟩:=p
 obtain⟨o,r,n⟩:=q
 obtain⟨u,t,B⟩:=y
 have e:PS X st (λD σ H=>A D σ H\/o D σ H):=λa s σ H D I h=>h.elim (x a s σ H D I) (r a s σ H D I)
 refine⟨_,xu e t,λFb Hb F H ρ σ D' j i k w=>?_⟩
 unfold w1 at k
 cases c:f ρ with
 | some C =>
  rw[c]at k
  cases k
  exact .inl (z Fb Hb F H ρ σ _ j i c w)
 | none =>
  rw[c]at k
  dsimp only at k
  cases b:g ρ with
  | nx v =>
   rw[b]at k
   refine .inr (n Fb Hb F H ρ σ _ i ?_)
   rw[b]
   exact λF' H' m d=>B Fb Hb F' H' v m D' j d k w
  | rt _=>rw[b]at k;cases k
  | bk _=>rw[b]at k;cases k
  | ct _=>rw[b]at k;cases k
  | no=>rw[b]at k;cases k
def xK {g:xa}(h:XS E cl X st g):XSs E cl X (st::sts) g:=by
 obtain⟨t,p,r⟩:=h
 exact⟨_,xu p (λ_ _ _ _ _ _ h=>(h:False).elim),λFb Hb F H ρ σ D' j a k w=>r Fb Hb F H ρ σ _ j a k w⟩
end
def Xu (j:Nat):xa:=λ_=>some j
def v9 {w:World} {N:zH} {f:Addr} {cl:Nat->Addr} {d g:Pos} (k:XCls K h (cl j) x) (m:Gl (wZ (Air P w) P w K h b N c a f i A outer s H E) x) (n:(x == ("__debug__":Str))=false:=by decide) (p:pay j=none:=by rfl) :
 XS E cl (wZ (Air P w) P w K h b N c a f i A outer s H E) (.Raise (some (.Call (.Name x o) [] [] d)) none g) (Xu j) :=
 ⟨_,zjS k m n,λFb Hb F H ρ σ D' q l e w=>by
  cases e
  have z:=w F H l.gr
  unfold EJ at z
  rw[p]at z
  exact z⟩
noncomputable def fnX (n:Nat)(b:xa)(a:zm):Option Nat:=b (a.map .v++List.replicate (n-a.length) .no)
def vN {w:World}{g:Heap}{f:Addr}{N ps:zH}{k:Nat}{gx:xa}(Fu:Fun K x b i f n)(S:yz N ps (zk i))(I:∀ (c:Value) (A:zR) (outer:List Env) (s:zn) (H:Hp) (E:XK),xk k (A.deeper (PyProof.Rows.envOfC b (zk i) s.heap.objs.size f c))->XSs E cl (wZ (Air P w) P w K u g N b (zk i) f c A outer s H E) (ya i) gx) :
 xB P w K u g (Air P w) (k+1) f n ps (spX cl ps.length (fnX N.length gx)):=by
 obtain⟨L,J,kV,y,M,O,c,ct,C,rfl,B,l⟩:=Fu.ex
 refine zpY B l S (λv H Q E h=>?_) λA outer s H v Q E z m=>?_
 .obtain⟨D,d,F,o,_,a,_⟩:=h
  rw[a.length];exact o
 .obtain⟨D,j,F,o,G,a,e,q⟩:=m
  obtain⟨t,p,r⟩:=I c A outer s H E z
  exact⟨t,p,r F H F H _ _ _ j (X5 G a) e q⟩
end Dl
namespace L2
open PySem PySem.Spec PyProof.Rows
section
variable {X:Cx}{pins:xC}{σ:St}{H H':Hp}{s s':zn}{E:XK}{e:Value}{E2:yU}{B h3:Heap}
def Inv.caught (I:Inv X pins σ H s)(os:s'.os=s.os)(g:AllBare s'.gens)(f:Un (frs X.stack) [] H H' s.heap s'.heap)(v:HOk X.prog X.w H' s'.heap)(d:Cov X.stack H s.heap H' s'.heap B)
 (t:B.StaysIn h3) (k:h3.FunFrames B X.stack) (x:s'.heap.UpToSlots h3):Inv X pins σ H' { s' with heap:=h3 }:=by
 obtain⟨N,p,l,w,h⟩:=s'
 have J:h=s.os:=os
 subst J
 have nil:∀ b:Addr,b∉([]:xS):=λb z=>nomatch z
 show Inv X pins σ H' { s with heap:=h3,gens:=p,drawn:=l,toks:=w }
 refine I.step (s:=s) (g':=p) (d':=l) (t':=w) (ch:=[]) (λb z=>nomatch z) (λb o A c _ e n=>t b o (d.old b o e n λz=>(q7.mp (I.stkSub b z)).elim A c)) (λb o A c _ e n=>?_) (λb o _ e n=>f.free b o e n (nil b)) (λb o _ e=>?_) f.tups f.frzs f.tbls (λm D=>?_) (v.stays λb u c M=>t b u (d.new b u c M)) g
 .obtain⟨K,i⟩:=f.any e n (nil b)
  obtain⟨_,y,a,j⟩:=I.funs.mem c
  rw[e]at a
  cases a
  obtain⟨q,L⟩:=x b _ i j
  exact⟨q,L⟩
 .by_cases c:b∈frs X.stack
  .obtain⟨_,y,a,_⟩:=k.mem c
   exact⟨y,a⟩
  .obtain⟨h,F⟩:=d.there b o e c
   exact⟨h,t b h F⟩
 .obtain⟨o,G,C,E,j,r⟩:=D
  obtain⟨K,i⟩:=f.any E I.free (nil _)
  exact x.ns ⟨_,G,C,i,j,r⟩
def zfv (m:X.stack=X.env::X.outer)(hf:X.env.frame=some X.env.locals)(N:X.ex=[])(I:Inv X pins σ H s)(a:Air X.prog X.w X.stack H s E e s') (k:∀ (b C t:Addr) (r:y6) (H':Hp) (B h3:Heap),E (.ref C) r H'->ZL h3 b r->H' b=none->(∀ h,X.s₀.heap.get? b=some h->False)->(∀ p∈X.pn++pins,p.1≠b)->Heap.FlyingW B X.stack b (.ref C) (.ref t) h3->(∀ x:Heap,B.StaysIn x->x.FunFrames B X.stack->h3.UpToSlots x->Inv X pins σ H' { s' with heap:=x }) ->
 e=.ref b->wpAny M X.A (handleBy (.ref b) X.env U) Q E2 { s' with heap:=h3 }) :
 wpAny M X.A (noteFrame e X.env) (λ_ s₂=>wpAny M X.A (setFlight e none) (λ_ s₃=>wpAny M X.A (handleBy e X.env U) Q E2 s₃) E2 s₂) E2 s':=by
 obtain⟨b,C,t,r,H',B,rfl,os,w,V,y,D,l,W,hE⟩:=a
 have O:X.A.frames=some (X.env::X.outer):=by rw[I.ok.frames,m]
 have v:=D
 rw[m]at v
 refine Z1 (Xq _ _) (wpAny_looks_onW (Q:=λ_ i=>∃ f,i={ s' with heap:=f }/\Heap.HeldW B (X.env::X.outer) b (.ref C) (.ref t) X.env.locals f/\s'.heap.UpToSlots f) O hf v λf c n=>⟨f,rfl,c,n⟩) ?_
 rintro _ _ ⟨f,rfl,c,n⟩ G
 refine Z1 (YE _ _) (wpAny_landsW (Q:=λ_ i=>∃ h3,i={ s' with heap:=h3 }/\Heap.FlyingW B (X.env::X.outer) b (.ref C) (.ref t) h3/\f.UpToSlots h3) (s:={ s' with heap:=f }) c λh3 d j=>⟨h3,rfl,d,j⟩) ?_
 rintro _ _ ⟨h3,rfl,d,j⟩ K
 have J:ZL h3 b r:=by
  obtain⟨R,T,_⟩:=d.there
  exact W.stay (DK.trans G K) ⟨R,T⟩
 rw[<-m]at d
 have o:B.get? b=none:=D.2.1
 have L:b∉frs X.stack:=λz=>by
  obtain⟨_,P,A,S⟩:=D.2.2.1.mem z
  obtain⟨oe,Z,_,_,_,he,_,hd,_⟩:=D.2.2.2
  rw[he]at A
  cases A
  exact S Z hd
 have g:∀ h,s.heap.get? b=some h->False:=λh z=>by
  obtain⟨P,F⟩:=l.there b h z L
  rw[o]at F
  cases F
 refine k b C t r H' B h3 hE J ?_ (λh z=>?_) (λp hp z=>?_) d (λx b1 b2 b3=>I.caught os w V y l b1 b2 ((n.trans j).trans b3)) rfl
 .cases q:H' b with
  | none=>rfl
  | some u =>
   obtain⟨R,Y⟩:=(y b u q).ex
   have z:=l.new b R (by rw[q];intro z;cases z) Y
   rw[o]at z
   cases z
 .obtain⟨P,F⟩:=I.base.there b h z (by rw[N];intro z;cases z)
  exact g P F
 .exact g p.2 (z ▸ (I.pin p hp).1)
end
abbrev Cx.held (X:Cx)(e:Value):Cx:={ X with A:=X.A.mark (some e),calm:=false }
section
variable {X:Cx}{pins:xC}{σ:St}{H H':Hp}{s s':zn}{E:yU}{e:Value}{M:Model}{A:zR}
def Cx.Ok.held (ok:X.Ok)(e:Value):(X.held e).Ok :=
 ⟨ok.mod,ok.kind,ok.glob,ok.blt,ok.above,ok.inj,ok.has,ok.cab,(λz=>by cases z),ok.frames,ok.stk,ok.exf,ok.bs,ok.bsz,ok.noex,ok.exfs,ok.funs,ok.frf⟩
def Inv.held (I:Inv X pins σ H s)(e:Value):Inv (X.held e) pins σ H s:=⟨I.ok.held e,I.os,I.bare,I.base,I.loc,I.cell,I.free,I.freeC,I.pin,I.hok,I.len⟩
def Inv.unheld (ok:X.Ok)(I:Inv (X.held e) pins σ H s):Inv X pins σ H s:=⟨ok,I.os,I.bare,I.base,I.loc,I.cell,I.free,I.freeC,I.pin,I.hok,I.len⟩
def ZA {i:Nat}{D:Pos}{Q:Unit->Shared->Prop}(I:Inv X pins σ H s)(P:X.N.Nodup)(N:X.N[i]?=some x)(S:X.env.scope.names.lookup x=some .local)(h:∀ s',Inv X pins (σ.set i none) H s'->Q () s'):wpAny M A (do bindName X.env x .none;unbindBehindTheSuite X.env x D) Q E s:=by
 obtain⟨m,O,hl⟩:=id I.loc
 have u:(X.env.scope.kind == .class||(X.env.scope.kind == .module&&X.env.locals != X.env.globals))=false:=by rw[I.ok.kind];rfl
 have G:i<σ.length:=by rw[I.len];exact(j3.mp N).1
 have t:=I.cne
 refine wpAny_nameGoes_keeps S O u λh' v F g=>?_
 obtain⟨oL,_,_,a0,_⟩:=id O
 have a:HOk X.prog X.w H h':=λb T e=>by
  refine(I.hok b T e).stay (λc K w q=>(g.2 c ?_).trans q) (λ_ q=>q) λ_ _ q=>q
  rintro rfl
  rcases w with rfl | w
  .rw[I.free]at e;cases e
  .rw[I.free]at w;cases w
 have f:∀ b o,X.s₀.heap.get? b=some o->b≠X.env.locals:=λb o e=>k6 (q5 (q4 e) I.ok.above)
 refine h _ ⟨I.ok,I.os,I.bare,⟨λb o e n J r=>?_,λb o e n J r=>?_,I.base.free,λb o e r=>?_,I.base.tups,I.base.frzs,I.base.tbls⟩,⟨_,F,λj y v' l B Z=>?_⟩,λy c e=>?_,I.free,I.freeC,λp Y=>?_,a,by simpa using I.len⟩
 .exact(g.2 b (f b o e)).trans (I.base.keep b o e n J r)
 .obtain⟨V,l⟩:=I.base.slot b o e n J r
  exact⟨V,(g.2 b (f b o e)).trans l⟩
 .obtain⟨R,l⟩:=I.base.there b o e r
  exact⟨R,(g.2 b (f b o e)).trans l⟩
 .by_cases C:j=i
  .subst C
   rw[r6 G]at B
   cases B
  .rw[u8 (i7 C)]at B
   obtain⟨U,W,q⟩:=hl j y v' l B Z
   refine⟨U,W,?_⟩
   rcases q with ⟨k,e⟩ | ⟨k,c,e,z⟩
   .refine .inl ⟨k,?_⟩
    have:y≠x:=λe=>C (zbb P l (e ▸ N))
    simp[this,e]
   .exact .inr ⟨k,c,e,z.sameBut g (t y c e)⟩
 .obtain⟨K,z⟩:=I.cell y c e
  exact⟨K,z.sameBut g (t y c e)⟩
 .obtain⟨e,n,L,nf,d⟩:=I.pin p Y
  exact⟨(g.2 p.1 L).trans e,n,L,nf,d⟩
def zgg (a C:Addr)(c:y6):HO:=.ext λh=>∃ b,h.get? a=some b/\b.cls=.ref C/\b.dict=c/\W.notCls b=true
def Inv.track {a:Addr}{o:HO}{C:Obj}{K:wq}(I:Inv X pins σ H s)(j:H a=none)(E:s.heap.get? a=some C)(A:C.data=.fields K)(h0:∀ L,X.s₀.heap.get? a=some L->False)(N:∀ p∈X.pn++pins,p.1≠a)
 (t:yT X.prog X.w (upd H a o) s.heap a o):Inv X pins σ (upd H a o) s:=by
 have w:X.env.locals≠a:=by
  rintro rfl
  obtain⟨m,⟨R,Q,O,r,l,_⟩,_⟩:=I.loc
  rw[E]at r
  cases r
  rw[A]at l
  cases l
 have y:∀ x c,X.env.cells.lookup x=some c->c≠a:=λx c e=>by
  rintro rfl
  obtain⟨v,P,k,h⟩:=I.cell x c e
  rw[E]at k
  cases k
  rw[A]at h
  cases h
 refine⟨I.ok,I.os,I.bare,⟨I.base.keep,I.base.slot,λb u e n J=>?_,I.base.there,λb B e=>?_,λb u v e=>?_,λb F e=>?_⟩,I.loc,I.cell,?_,λx c e=>?_,λp D=>?_,λb u e=>?_,I.len⟩
 .rw[zi (λz:b=a=>h0 u (z ▸ e))]
  exact I.base.free b u e n J
 .have f:=I.base.tups b B e
  rw[zi (ze f j)]
  exact f
 .have f:=I.base.frzs b u v e
  rw[zi (ze f j)]
  exact f
 .obtain⟨i,f⟩:=I.base.tbls b F e
  exact⟨i,by rw[zi (ze f j)];exact f⟩
 .rw[zi w]
  exact I.free
 .rw[zi (y x c e)]
  exact I.freeC x c e
 .obtain⟨e,n,G,M,d⟩:=I.pin p D
  exact⟨e,by rw[zi (N p D)];exact n,G,M,d⟩
 .by_cases c:b=a
  .subst c
   rw[zl]at e
   cases e
   exact t
  .rw[zi c]at e
   refine(I.hok b u e).stay (λ_ _ _ q=>q) (λc g=>?_) λc B g=>?_
   .rw[zi (ze g j)];exact g
   .rw[zi (ze g j)];exact g
end
abbrev Cx.pinned (X:Cx)(a:xC):Cx:={ X with pn:=X.pn++a }
section
variable {X:Cx}{pins ps:xC}{σ:St}{H H':Hp}{s s':zn}
def Cx.Ok.pinned (ok:X.Ok)(ps:xC):(X.pinned ps).Ok :=
 ⟨ok.mod,ok.kind,ok.glob,ok.blt,ok.above,ok.inj,ok.has,ok.cab,ok.hd,ok.frames,ok.stk,ok.exf,ok.bs,ok.bsz,ok.noex,ok.exfs,ok.funs,ok.frf⟩
def Inv.pinAll (I:Inv X pins σ H s):Inv (X.pinned pins) [] σ H s:=⟨I.ok.pinned pins,I.os,I.bare,I.base,I.loc,I.cell,I.free,I.freeC,λp a=>I.pin p (by rw[r8]at a;exact a),I.hok,I.len⟩
def Inv.unpin (ok:X.Ok)(I:Inv (X.pinned pins) ps σ H s):Inv X pins σ H s:=⟨ok,I.os,I.bare,I.base,I.loc,I.cell,I.free,I.freeC,λp a=>I.pin p (u06 _ a),I.hok,I.len⟩
end
abbrev zrl (i:Nat)(D:Vp):Vp:={ nx:=fun σ H=>D.nx (σ.set i none) H,rt:=D.rt,bk:=fun σ H=>D.bk (σ.set i none) H,ct:=fun σ H=>D.ct (σ.set i none) H }
def exW (K:zv)(CS:Addr)(i n:Nat)(u:TS)(D:Vp):XK:=λcls b H'=>∃ C,cls=.ref C/\W.exmOne K (.ref C) (.ref CS)=some true/\∀ (a:Addr) (σ:St),σ.length=n->H' a=none->u (zrl i D) (σ.set i (some (.ref a))) (upd H' a (zgg a C b))
def zqa {Y:Cx} {i:Nat} {p:wU} {tb:XK->TS} (a0:Y.stack=Y.env::Y.outer) (hf:Y.env.frame=some Y.env.locals) (Z:Y.ex=[]) (R:Y.N.Nodup) (A:Y.N[i]?=some n) (w:Y.env.scope.names.lookup n=some .local) (hg:Gl Y x) (hm:Y.mg x=some (.ref CS)) (r:∀ (ps:xC) (W:yU) (E0:XK),wK (Air Y.prog Y.w) ((Y.pinned ps).wish W) E0->PSs ((Y.pinned ps).wish W) p (tb E0)) (l:∀ d,PSs (Y.held (.ref d)).nox (b₀::j) u) (hd:(x == ("__debug__":Str))=false:=by decide) :
 PS Y.nox (.Try p [.ExceptHandler (some (.Name x np)) (some n) (b₀::j) G] [] [] U) (λD σ H=>tb (exW Y.K CS i Y.N.length u D) D σ H):=by
 intro c s σ H D I h
 have ok:Y.Ok:=I.ok.unwish
 have IY:Inv Y c σ H s:=I.unwish
 refine wpAny_Try_except ?_
 refine g6 (r c _ (exW Y.K CS i Y.N.length u D) ?_ [] s σ H D (IY.pinAll.wish _) h) ?_ λe s₁ h=>h
 .intro a5 z H1 s1 e F I1 a
  have I1':Inv Y c z H1 s1:=I1.unwish.unpin ok
  refine zfv (X:=Y) a0 hf Z I1' a λd C t od H' B P hE T O h0 a3 y m ee=>?_
  obtain⟨C',ec,E,hu⟩:=hE
  cases ec
  have I3:Inv Y c z H' { F with heap:=P }:=m P y.1 y.2.2.1 (.refl _)
  obtain⟨ob,a1,J⟩:=y.there
  have ty:PySem.W.Looks (model Y.prog Y.w) P (typeOf (.ref d)) (.ref C):=J ▸ (PySem.W.Looks.ld a1).andThen .now
  refine wpAny_handleBy_cons (codeAny_handlers_test (vC (X:=Y.held (.ref d)) (I3.held (.ref d)) hg hm ?_ hd)) (by intro q;cases q)
  refine(PySem.W.exm_one (M:=model Y.prog Y.w) I3.kIn ty E).here ?_
  refine codeAny_handlers_suite_as ?_
  refine Z1 (YE _ _) (wpAny_setFlight_noneW (Q:=λ_ a7=>∃ k,a7={ F with heap:=k }/\B.StaysIn k/\k.FunFrames B Y.stack/\k.TracedW B d (.ref C) (.ref t)/\∀ b o,P.get? b=some o->(∀ vs,o.data≠.fields vs)->k.get? b=some o) (s:={ F with heap:=P }) y.1 y.2.2.1 y.2.2.2.at λk V k2 k3 k4=>⟨k,rfl,V,k2,k3,k4⟩) ?_
  rintro _ _ ⟨k,rfl,V,k2,k3,k4⟩ a2
  have I4:Inv Y c z H' { F with heap:=k }:=m k V k2 λb o hb hn=>⟨o.slots,k4 b o hb hn⟩
  obtain⟨S,vs,_,_,_,K,a4,L,_⟩:=k3
  obtain⟨a9,N,a8⟩:=T.stay a2 ⟨S,K⟩
  rw[K]at N
  cases N
  have a6:PySem.W.notCls S=true:=by unfold PySem.W.notCls;rw[L]
  have I5:Inv Y c z (upd H' d (zgg d C od)) { F with heap:=k }:=I4.track O K L h0 a3 ⟨⟨S,K,a4.1,a8,a6⟩,⟨S,K⟩,λh1 h2 ⟨o1,e1,e2⟩ kk=>⟨o1,kk o1 e1,e2⟩⟩
  refine zaX (X:=Y.held (.ref d)) (v:=.ref d) (I5.held (.ref d)) R A (.inl w) rfl (λs6 I6=>?_) (.inr w)
  refine g6 (l d c s6 _ _ (zrl i D) (I6.wish _) (hu d z I4.len O)) (λf s7 q=>?_) λx s7 q=>q.elim
  cases f with
  | ret uv =>
   obtain⟨v,g,H7,I7,rv,q⟩:=q
   exact ZA ((Inv.unheld (X:=Y) ok I7.unwish)) R A w λs8 I8=>⟨v,_,H7,I8.wish _,rv,q⟩
  | next =>
   obtain⟨g,H7,I7,q⟩:=q
   exact ZA ((Inv.unheld (X:=Y) ok I7.unwish)) R A w λs8 I8=>⟨_,H7,I8.wish _,q⟩
  | brk =>
   obtain⟨g,H7,I7,q⟩:=q
   exact ZA ((Inv.unheld (X:=Y) ok I7.unwish)) R A w λs8 I8=>⟨_,H7,I8.wish _,q⟩
  | cont =>
   obtain⟨g,H7,I7,q⟩:=q
   exact ZA ((Inv.unheld (X:=Y) ok I7.unwish)) R A w λs8 I8=>⟨_,H7,I8.wish _,q⟩
 .intro f s₁ q
  cases f with
  | ret uv =>
   obtain⟨v,g,H7,I7,rv,q⟩:=q
   exact⟨v,g,H7,(Inv.unpin (X:=Y) ok I7.unwish).wish _,rv,q⟩
  | next =>
   obtain⟨g,H7,I7,q⟩:=q
   exact u2h ⟨g,H7,(Inv.unpin (X:=Y) ok I7.unwish).wish _,q⟩
  | brk =>
   obtain⟨g,H7,I7,q⟩:=q
   exact⟨g,H7,(Inv.unpin (X:=Y) ok I7.unwish).wish _,q⟩
  | cont =>
   obtain⟨g,H7,I7,q⟩:=q
   exact⟨g,H7,(Inv.unpin (X:=Y) ok I7.unwish).wish _,q⟩
end L2
namespace L2
open PySem PySem.Spec PyProof.Rows PySem.W PySem.Calls PySem.Builtin PySem.Builtin.Getset_descriptor
section
variable {prog:zP}{w:World}{A:zR}{E:yU}{K:zv}{h:Heap}{g:Array GenState}{d:Drawn}{t:Nat}{os:OsState}{a C:Addr}{o:Obj}
def Of (h:Heap)(a:Addr)(o:Obj)(C:Addr):Prop:=h.get? a=some o/\o.cls=.ref C
def Of.type (I:Of h a o C):Looks M h (typeOf (.ref a)) (.ref C):=I.2 ▸ (Looks.ld I.1).andThen .now
def zgw (X:K.In h) (d:findIn K (.ref C) b=some (some x)) (f:specialIn K x "__get__"=some (some c)) (e:takesIn K x=some true):Looks M h (Builtin.ObjectAttr.find (.ref a) (.ref C) b) (.bind c x):=by
 have L1:=looks_findIn (M:=M) X d
 have L2:Looks M h (Builtin.ObjectAttr.getOf (some x)) (some c):=looks_specialIn X f
 have L3:=looks_takesIn (M:=M) X e
 exact L1.andThen (L2.andThen ((show Looks M h (Builtin.ObjectAttr.dataDescriptor? (some x) (some c)) (some (c,x))from L3.andThen .now).andThen (Looks.tag .now)))
def zmq {R:Result->Shared->Prop} (X:K.In h) (I:Of h a o C) (b:mroIn K C (.type "object")=some true) (e:R (.ok (.ret (.ref C))) ⟨h,g,d,t,os⟩) :
 codeAny (model prog w) A (.call (.builtin "getset_descriptor.__get__") ⟨[.builtin "object.__class__",.ref a,c],[]⟩) R ⟨h,g,d,t,os⟩:=by
 have L0:=I.type (M:=model prog w)
 have L1:=looks_mroIn (M:=model prog w) X b
 refine u12 KF.slot_gs.plain KF.entry_gs (KF.slot_gs.check _ _ _ _ _ _ _ _ KF.type_class (KF.args_gs _ _ _) ?_)
 unfold Builtin.«getset_descriptor.__get__» descrGet
 rw[dga_obj]
 refine u5 (t5 ?_)
 unfold descrGetter descrCheckInstance descrNameAndClass isInstance
 simp only[KF.owner_class]
 repeat lk
 refine⟨u2o _ (by decide +kernel),codeAny_builtin KF.entry_class ?_⟩
 unfold Builtin.«object.__class__» shownTypeOf
 repeat lk
 exact e
def zhR {f:Tok} {Q:Fin->Shared->Prop} (X:K.In h) (I:Of h a o C) (c:findIn K (.ref C) "__class__"=some (some (.builtin "object.__class__"))) (j:specialIn K (.builtin "object.__class__") "__get__"=some (some (.builtin "getset_descriptor.__get__"))) (e:takesIn K (.builtin "object.__class__")=some true) (b:mroIn K C (.type "object")=some true)
 (i:Q (.done (.ret (.ref C))) ⟨h,g,d,t,os⟩):wpAny (model prog w) A (Builtin.«object.__getattribute__» ⟨[.ref a,.str "__class__" f],[]⟩) Q E ⟨h,g,d,t,os⟩:=by
 have L0:=I.type (M:=model prog w)
 have L1:=zgw (M:=model prog w) (a:=a) X c j e
 refine u5 (t5 (u5 ?_))
 refine t5 (u5 (L0.at (u5 (L1.at ?_))))
 show wpAny _ _ (holding [.builtin "object.__class__"] (call (.builtin "getset_descriptor.__get__") [.builtin "object.__class__",.ref a,.ref C])>>=ret) _ _ _
 exact u5 (l8 (u1I (zmq X I b (t5 i))))
def zib {Q:Unit->Shared->Prop} (X:K.In h) (I:Of h a o C) (e:subIn K (.ref C) (.type "BaseException")=some true) (j:Q () ⟨h,g,d,t,os⟩):wpAny M A (checkBuiltinCall "BaseException.__getattribute__" ⟨[.ref a,b],[]⟩) Q E ⟨h,g,d,t,os⟩:=by
 have f:builtinKind "BaseException.__getattribute__"=some .slot:=by decide +kernel
 have c:splitId "BaseException.__getattribute__"=some ("BaseException","__getattribute__"):=by decide +kernel
 have i:=F.args_bexc_ga (.ref a) b
 have L0:=I.type (M:=M)
 have L1:Looks M h (isSubtype (.ref C) (.type "BaseException")) true:=looks_subIn X e
 simp only[checkBuiltinCall,f,c]
 refine u5 ?_
 unfold isInstance
 refine u5 (L0.at (L1.at ?_))
 repeat (first | assumption | wp_step)
def zqu {f:Tok} {Q:yU} (X:K.In h) (I:Of h a o C) (e:findIn K (.ref C) "__getattribute__"=some (some (.builtin "BaseException.__getattribute__"))) (b:findIn K (.ref C) "__getattr__"=some none)
 (j:findIn K (.ref C) "__class__"=some (some (.builtin "object.__class__"))) (p:specialIn K (.builtin "object.__class__") "__get__"=some (some (.builtin "getset_descriptor.__get__"))) (k:takesIn K (.builtin "object.__class__")=some true) (i:mroIn K C (.type "object")=some true) (l:subIn K (.ref C) (.type "BaseException")=some true) (n:Q (.ref C) ⟨h,g,d,t,os⟩) :
 wpAny (model prog w) A (getAttrBy (.ref a) (.str "__class__" f) false) Q E ⟨h,g,d,t,os⟩:=by
 have L0:=I.type (M:=model prog w)
 have L1:=looks_findIn (M:=model prog w) X e
 have L2:=looks_findIn (M:=model prog w) X b
 have m:=F.attrBase_ValueError.ga.bind (.ref a)
 have c:(Value.builtin "BaseException.__getattribute__" == Value.builtin "object.__getattribute__")=false:=by decide +kernel
 unfold getAttrBy
 refine l8 (u5 (L0.at (u5 (L1.at ?_))))
 dsimp only
 rw[c,u0U,j6 u7]
 unfold getAttrByItsOwn
 refine u5 ?_
 show wpAny _ _ (typeLookup (.ref C) "__getattr__") _ _ _
 refine L2.at (u5 (u0Q (l8 ?_)))
 show wpAny _ _ (boundAndCalled (.builtin "BaseException.__getattribute__") (.ref a) (.str "__class__" f)) _ _ _
 unfold boundAndCalled
 rw[m]
 refine u5 (t5 ?_)
 refine u1I (u12 F.attrBase_ValueError.ga.plain F.entry_bexc_ga (zib X I l (zhR X I j p k i ?_)))
 exact handed_on rfl n
def zht {Q:Option Value->Shared->Prop} {s:zn} (X:K.In s.heap) (I:Of s.heap a o C) (b:findIn K (.ref C) "__getattribute__"=some (some (.builtin "BaseException.__getattribute__"))) (c:findIn K (.ref C) "__getattr__"=some none)
 (f:findIn K (.ref C) "__class__"=some (some (.builtin "object.__class__"))) (k:specialIn K (.builtin "object.__class__") "__get__"=some (some (.builtin "getset_descriptor.__get__"))) (h:takesIn K (.builtin "object.__class__")=some true) (e:mroIn K C (.type "object")=some true) (i:subIn K (.ref C) (.type "BaseException")=some true)
 (j:Q (some (.ref C)) { s with toks:=s.toks+1 }):wpAny (model prog w) A (getAttr? (.ref a) "__class__") Q E s:=by
 obtain⟨l,g,d,t,os⟩:=s
 unfold getAttr? getAttrBy?
 exact u5 (wpAny_mkText (u5 (u0Q (zqu X I b c f k h e i (t5 j)))))
def w8 (K:zv) (C:Addr):Bool:=(clsIn K C).isSome&&findIn K (.ref C) "__getattribute__" == some (some (.builtin "BaseException.__getattribute__"))&&findIn K (.ref C) "__getattr__" == some none&&findIn K (.ref C) "__class__" == some (some (.builtin "object.__class__"))
 && specialIn K (.builtin "object.__class__") "__get__" == some (some (.builtin "getset_descriptor.__get__"))&&takesIn K (.builtin "object.__class__") == some true&&mroIn K C (.type "object") == some true&&subIn K (.ref C) (.type "BaseException") == some true
def zjU (q:w8 K C=true):KitX K (.ref a) (.ref C) (λh=>∃ o,Of h a o C):=by
 unfold w8 at q
 simp only[j0,u0k]at q
 obtain⟨⟨⟨⟨⟨⟨⟨c,j⟩,g⟩,t⟩,x⟩,p⟩,m⟩,v⟩:=q
 obtain⟨B,b⟩:=u2K.mp c
 unfold clsIn at b
 refine⟨λ_ _ _ ⟨_,I⟩=>I.type,λ_ _ X _=>?_,λh s D w n A X d=>?_,λX ⟨_,I⟩ k=>zht X I j g t x p m v k⟩
 .split at b
  .rename_i u r i f l
   intro A' Q' E' y k q
   unfold isType loadHead
   exact u5 (wpAny_loadPart (k _ _ (X _ _ l)) (t5 q))
  .cases b
 .refine Bool.eq_false_iff.mpr λq=>?_
  have e:C=s:=Value.ref.inj (u0k.mp q)
  subst e
  split at b
  .rename_i u r i f l
   have z:=(X _ _ l).symm.trans d
   cases z
  .cases b
def Vt {s:zn}{Q:yU}(q:w8 K C=true)(X:K.In s.heap)(I:∃ o,Of s.heap a o C)(e:kitOne K (.ref C) c=some b)(f:∀ d,Q (.bool b) { s with toks:=d }) :
 wpAny (model prog w) A (call (.builtin "isinstance") [.ref a,c]) Q E s:=kia_one (zjU q) X I e (by intro z;cases z) f
end
end L2
namespace L2
open PySem PySem.Spec PyProof.Rows
section
variable {P:zP}{w:World}{K:zv}{mg:wn}{base:Heap}
def zgI (P:zP)(w:World)(K:zv)(mg:wn)(base:Heap)(k:Nat)(f:Addr)(g:wh)(b:zH)(c:Sp):Prop :=
 (∀ a H Q E,c a H Q E->a.length=b.length)/\∀ (A:zR) (outer:List Env) (s:zn) (H:Hp) (args:Args) (d:zB) (a:zx) (Q:VK) (E:XK) (e:Value),xk k A->zkC P w K mg base A outer s H->BindsTo s g args (b.zip d)->yw a d->c a H Q E ->
  codeAny (model P w) (A.mark (some e)) (.call (.ref f) args) (CR CX0 outer P w H s Q E) s
def zmR {f:Addr}{D:wh}{N ps:zH}{k:Nat}{B:Sp}(F:Fun K x c i f D)(S:yz N ps (zk i))(l:∀ g H Q E,B g H Q E->g.length=ps.length) (h:∀ (d:Value) (A:zR) (outer:List Env) (s:zn) (H:Hp) (g:zx) (Q:VK) (E:XK) (p:Value),xk k (A.deeper (envOfC c (zk i) s.heap.objs.size f d))->B g H Q E ->
 ∃ t,PSs ((wZ CX0 P w K mg base N c (zk i) f d A outer s H E).held p).nox (ya i) t/\t { nx:=λ_ H'=>Q .non H',rt:=Q } (start N g) H):zgI P w K mg base (k+1) f D ps B:=by
 obtain⟨oc,od,kV,Y,pm,an,d,ct,O,rfl,lk,z⟩:=F.ex
 refine⟨l,λA outer s H args us g Q E p C m X r n=>?_⟩
 have KX:K.In s.heap:=m.mod.kin.keeps λb o e=>(m.bs b o e).1
 have lim:s.heap.NoLimit:=m.mod.nolimit.keeps λb o e=>(m.bs b o e).1
 refine u1R (A:=A.mark (some p)) C.depth (KX _ _ lk) rfl S.co S.gen rfl (u2w KX z) (X _ _ _ _ ?_)
 refine wpAny_newFunctionEnv_cells S.kind (λy T=>?_) λenv W G x=>?_
 .rcases S.par y.1 (u1r (a:=y.1) (b:=y.2) T).1 with q | q
  .exact .inl q
  .exact .inr ⟨q,u0X _ _ _ (.inl q)⟩
 subst W
 refine⟨lim.keeps x.toInCall.keep,codeAny_func ?_⟩
 obtain⟨t,M,hq⟩:=h d A outer s H g Q E p (C.deeper _) n
 have I:Inv (wZ CX0 P w K mg base N c (zk i) f d A outer s H E) [] (start N g) H G:=Ww S C.hd m (l _ _ _ _ n) r x
 refine g6 (M [] G (start N g) H _ ((I.held p).wish _) hq) (λZ U j=>?_) λe U j=>j.elim
 cases Z with
 | ret u =>
  obtain⟨v,L,H',J,R,q⟩:=j
  exact⟨v,H',J.os,J.bare,J.base,J.hok,R,q⟩
 | next =>
  obtain⟨L,H',J,q⟩:=j
  exact⟨V.non,H',J.os,J.bare,J.base,J.hok,rfl,q⟩
 | brk =>
  obtain⟨_,_,_,q⟩:=j
  exact False.elim q
 | cont =>
  obtain⟨_,_,_,q⟩:=j
  exact False.elim q
end
def zd2 {Y:Cx} {k:Nat} {f:Addr} {p:Pos} {t:TA} (F:zgI Y.prog Y.w Y.K Y.mg Y.base k f y v l) (B:xk k Y.A) (A:Gl Y x) (z:Y.mg x=some (.ref f)) (D:W.keepIn Y.K (.ref f)=true) (K:xG Y.K y v []) (n:Y.Ok) (J:PA (Y.held m).nox (e::c) t) (o:(x == ("__debug__":Str))=false:=by decide) (G:starEach (e::c) Y.env=(false,eval e Y.env)::starEach c Y.env:=by rfl) (j:(backTo b (starEach c Y.env)).any (·.1)=false:=by rfl) :
 PE (Y.held m).nox (.Call (.Name x p) (e::c) [] b) (zl2 l [] E t):=by
 intro a s σ H Q I h
 refine u0G (vC I A z ?_ o)
 refine u1w (h₀:=Y.base) I.ok.mod.kin D (thn (J b a s σ H _ I h) λg i ⟨w,H1,I1,r,q⟩=>⟨I1.kIn,?_⟩) G j
 have q:l (w++[]) H1 Q E:=q
 rw[r8]at q
 have I2:Inv Y a σ H1 i:=Inv.unheld (X:=Y) n I1.unwish
 refine u1I (u1l (F.2 Y.A Y.stack i H1 ⟨g,[]⟩ g w Q E m B I2.env0 ?_ r q) λr L d=>?_)
 .have:=K i g I2.kIn (by rw[r8,<- r.length];exact F.1 _ _ _ _ q)
  rwa[r8]at this
 .cases r with
  | error e=>exact False.elim d
  | ok C =>
   cases C with
   | ret u=>exact I1.after d
   | next=>exact False.elim d
   | brk=>exact False.elim d
   | cont=>exact False.elim d
end L2
namespace L2
open PySem PySem.Spec PyProof.Rows PySem.SeqAt
def za3:∀ {c:List Bool} {a:zB},yw (c.map V.bl) a->a=c.map Value.bool
 | [],a,r=>by
  have:=r.length
  exact List.eq_nil_of_length_eq_zero (by rw[<-this];rfl)
 | b::c,a,r=>by
  cases r with
  | cons d e =>
   rw[za3 e]
   cases d
   rfl
def zdV {a:List Bool}(h:y∈(a.map Value.bool).toArray):EqAt A s y (.bool true) (isBoolOf true y):=by
 obtain⟨b,_,rfl⟩:=l6.mp (List.mem_toArray.mp h)
 exact EqAt.bool_bool b true
def zhJ:V->zx->Hp->VK->Prop:=λx b H Q=>∃ (l:Addr) (a:List Bool),x=.ref l/\b=[.bl true]/\H l=some (.lst (a.map V.bl))/\Q (.int ((a.countP (· == true):Nat):Int)) H
def zfG:MtR X "list.count" zhJ:=by
 intro d s σ H x w v z Q I g t h
 obtain⟨l,a,rfl,rfl,i,q⟩:=h
 cases g
 obtain⟨u,rfl,o⟩:=t.one
 cases o
 obtain⟨m,r,pl,A⟩:=I.list (SqL.of (K:=X.K) i)
 have e:=za3 r
 subst e
 obtain⟨⟨cls,p,data,k⟩,c,b,n,f⟩:=pl.isList
 simp only at b f
 subst b f
 refine u0z PySem.F.slot_list_count ⟨_,c,rfl⟩ PySem.F.entry_list_count (PySem.F.args_list_count_2 _ _) (list_countAt l (a.map Value.bool).toArray n p k (.bool true) (isBoolOf true)) ⟨c,λy j=>zdV j,?_⟩
 refine⟨.int (((a.map Value.bool).toArray.toList.countP (isBoolOf true):Nat):Int),H,I.tok _,⟨_,rfl⟩,?_⟩
 rw[show(a.map Value.bool).toArray.toList=a.map Value.bool from rfl,List.countP_map]
 exact q
def zia:V->zx->Hp->VK->Prop:=λx b H Q=>∃ (l:Addr) (a:List Bool),x=.ref l/\b=[.bl true]/\H l=some (.lst (a.map V.bl))/\true∈a/\Q (.int ((a.idxOf true:Nat):Int)) H
def zho:MtR X "list.index" zia:=by
 intro i s σ H x G v J Q I A z h
 obtain⟨l,a,rfl,rfl,o,k,q⟩:=h
 cases A
 obtain⟨u,rfl,t⟩:=z.one
 cases t
 obtain⟨F,r,pl,w⟩:=I.list (SqL.of (K:=X.K) o)
 have e:=za3 r
 subst e
 obtain⟨⟨cls,E,data,C⟩,j,d,n,f⟩:=pl.isList
 simp only at d f
 subst d f
 have c:a.idxOf true<a.length:=List.idxOf_lt_length_iff.mpr k
 have g:=Xs
 have L:a.length<=sizeLine:=by simpa using w
 refine u0z PySem.F.slot_list_index ⟨_,j,rfl⟩ PySem.F.entry_list_index (PySem.F.args_list_index_2 _ _) (list_indexAt l (a.map Value.bool).toArray n E C (.bool true) (isBoolOf true) (a.idxOf true) (by simpa using c) (by omega) ?_ ?_) ⟨j,λy B=>zdV B,⟨.int ((a.idxOf true:Nat):Int),H,I.tok _,⟨_,rfl⟩,q⟩⟩
 .simp only[List.getElem_toArray,u1V]
  rw[List.getElem_idxOf c]
  rfl
 .intro m D b
  simp only[List.getElem_toArray,u1V]
  exact List.not_of_lt_findIdx (p:=(· == true)) (xs:=a) b
end L2
namespace L2
open PySem PySem.Spec PyProof.Rows
def clsV:V->Option Value
 | .ref C=>some (.ref C)
 | .ty T=>some (.type T)
 | _=>none
def zqP (K:zv):zfr:=λe H Q=>∃ (a C:Addr) (d:y6) (v:V) (c:Value) (b:Bool),e=[.ref a,v]/\H a=some (zgg a C d)/\w8 K C=true/\clsV v=some c/\W.kitOne K (.ref C) c=some b/\Q (.bl b) H
def xh {X:Cx}:v5 X (.builtin "isinstance") (zqP X.K):=by
 intro i s σ H z n Q I x h
 obtain⟨a,C,y,v,c,b,rfl,j,w,l,u,q⟩:=h
 obtain⟨g,e,rfl,f,d⟩:∃ g e,n=[g,e]/\xi (.ref a) g/\xi v e:=by
  cases x with
  | cons f r=>cases r with
   | cons d r=>cases r;exact⟨_,_,rfl,f,d⟩
 cases f
 have p:e=c:=by
  cases v <;> try cases l
  .cases d;rfl
  .cases d;rfl
 subst p
 obtain⟨⟨m,o,t,_⟩,_⟩:=I.hok a _ j
 exact Vt w I.kIn ⟨m,o,t⟩ u λk=>⟨.bl b,H,I.tok k,rfl,q⟩
def zdC {K:zv}{σ:St}{H:Hp}{a C:Addr}{d:y6}{v:V}{c:Value}{b:Bool}{Q:VK}(h0:σ[0]?=some (some (.ref a)))(e:H a=some (zgg a C d))(h:w8 K C=true)(f:clsV v=some c)(g:W.kitOne K (.ref C) c=some b)(q:Q (.bl b) H) :
 tCB (zqP K) (WJ (Y2 0) (WJ (tC v) zhl)) σ H Q:=⟨.ref a,h0,⟨a,C,d,v,c,b,rfl,e,h,f,g,q⟩⟩
def zeT (n j:Nat):List Bool:=(List.range n).map λi=>i == j
def vo (K:zv) (a:xS) (CS C:Addr) (j:Nat):Bool:=w8 K C&&(W.kitOne K (.ref C) (.type "ValueError") == some true)&&(W.exmOne K (.ref C) (.ref CS) == some true)&&(a.map (λc=>W.kitOne K (.ref C) (.ref c)) == (zeT a.length j).map some)
structure zbs (K:zv) (cs:xS) (CS C:Addr) (j:Nat):Prop where
 look:w8 K C=true
 val:W.kitOne K (.ref C) (.type "ValueError")=some true
 exm:W.exmOne K (.ref C) (.ref CS)=some true
 hot:cs.map (λc=>W.kitOne K (.ref C) (.ref c))=(zeT cs.length j).map some
def zbs.of {K:zv}{a:xS}{CS C:Addr}{j:Nat}(h:vo K a CS C j=true):zbs K a CS C j:=by
 unfold vo at h
 simp only[j0,u0k]at h
 exact⟨h.1.1.1,h.1.1.2,h.1.2,h.2⟩
section
variable {K:zv}{σ:St}{H H0:Hp}{a C:Addr}{od:y6}
def tIs (K:zv):xS->TA
 | []=>zhl
 | c::r=>WJ (tCB (zqP K) (WJ (Y2 0) (WJ (tC (.ref c)) zhl))) (tIs K r)
def zly (h0:σ[0]?=some (some (.ref a)))(h:H a=some (zgg a C od))(j:w8 K C=true):∀ (f:xS) (d:List Bool) (Q:zx->Hp->Prop),f.map (λc=>W.kitOne K (.ref C) (.ref c))=d.map some->Q (d.map V.bl) H->tIs K f σ H Q:=by
 intro f
 induction f with
 | nil =>
  intro d Q e q
  cases d with
  | nil=>exact q
  | cons b r=>cases e
 | cons c r i =>
  intro d Q e q
  cases d with
  | nil=>cases e
  | cons b d =>
   obtain⟨k,g⟩:=List.cons.inj e
   exact zdC h0 h j rfl k (i d _ g q)
structure KSt (H0:Hp) (a C:Addr) (od:y6) (bs:List Bool) (σ:St) (H:Hp):Prop where
 same:zX H0 H
 len:σ.length=2
 e0:σ[0]?=some (some (.ref a))
 he:H a=some (zgg a C od)
 lst:∃ p,σ[1]?=some (some (.ref p))/\H p=some (.lst (bs.map V.bl))
def zhE {c:List Bool}{p:Addr}(s:zX H0 H)(h:σ.length=2)(g:σ[0]?=some (some (.ref a)))(d:H a=some (zgg a C od))(f:H p=none):KSt H0 a C od c (σ.set 1 (some (.ref p))) (upd H p (.lst (c.map V.bl))):=by
 refine⟨λb o e=>?_,by rw[u24];exact h,?_,?_,p,?_,zl⟩
 .have:=s b o e
  rw[zi (ze this f)];exact this
 .rw[u8 (by decide)];exact g
 .rw[zi (ze d f)];exact d
 .rw[r6 (by omega)]
def zgM {cs:xS}{bs:List Bool}{D:Vp}(h:w8 K C=true)(e:cs.map (λc=>W.kitOne K (.ref C) (.ref c))=bs.map some)(g:bs.length<=sizeLine)(j:σ.length=2)(f:σ[0]?=some (some (.ref a)))(d:H a=some (zgg a C od))(k:∀ b H',KSt H a C od bs b H'->D.nx b H') :
 zn5 (zru (tIs K cs)) (Vv 1) D σ H :=
 zly f d h cs bs _ e ⟨by rw[u9];exact g,λp i=>k _ _ (zhE (.refl _) j f d i)⟩
def zas {cs:xS}{d bs:List Bool}{D:Vp}(m:w8 K C=true)(e:cs.map (λc=>W.kitOne K (.ref C) (.ref c))=bs.map some)(l:d.length+bs.length<=sizeLine)(S:KSt H0 a C od d σ H)(k:∀ g H',KSt H0 a C od (d++bs) g H'->D.nx g H') :
 zn5 (tOp zrw (Y2 1) (zru (tIs K cs))) (Vv 1) D σ H:=by
 obtain⟨p,j,h⟩:=S.lst
 refine⟨.ref p,j,zly S.e0 S.he m cs bs _ e ⟨by rw[u9];omega,λq f=>?_⟩⟩
 refine⟨p,q,d.map V.bl,bs.map V.bl,rfl,rfl,by rw[zi (ze h f)];exact h,zl,by rw[u9,u9];exact l,λr i=>?_⟩
 rw[<-r9]
 refine k _ _ (zhE (λb o e=>?_) S.len S.e0 ?_ i)
 .have:=S.same b o e
  rw[zi (ze this f)];exact this
 .rw[zi (ze S.he f)];exact S.he
def zgK:∀ j:Nat,j<13->(zeT 13 j).countP (· == true)=1/\(zeT 13 j).idxOf true=j/\true∈zeT 13 j:=by decide +kernel
def zmM {j:Nat} {D:Vp} {d:TS} (i:W.kitOne K (.ref C) (.type "ValueError")=some true) (l:w8 K C=true) (e:j<13) (S:KSt H0 a C od (zeT 13 j) σ H) (k:D.rt (.int j) H) :
 zqT (tIfS (tOr (tNot (tB (tCB (zqP K) (WJ (Y2 0) (WJ (tC (.ty "ValueError")) zhl))))) (zeP (tOp rNe (tBM K "list" zhJ (Y2 1) (WJ (tC (.bl true)) zhl)) (tC (.int 1))))) d zqc) (zrK (tBM K "list" zia (Y2 1) (WJ (tC (.bl true)) zhl))) D σ H:=by
 obtain⟨f,g,h⟩:=zgK j e
 obtain⟨p,c,b⟩:=S.lst
 refine zdC S.e0 S.he l rfl i ⟨true,rfl,?_⟩
 show(if (!true)=true then _ else _)
 rw[j6 (by decide)]
 refine⟨.ref p,c,.inl ⟨rfl,_,SqL.of b⟩,p,_,rfl,rfl,b,?_⟩
 rw[f]
 refine⟨rfl,false,by rw[zcz];rfl,?_⟩
 show(if false=true then _ else _)
 rw[j6 (by decide)]
 refine⟨.ref p,c,.inl ⟨rfl,_,SqL.of b⟩,p,_,rfl,rfl,b,h,?_⟩
 rw[g]
 exact k
end
def zic (d:Nat->Addr)(ok:Nat->Prop):Sp:=λc H Q _=>∃ a j b,c=[.ref a]/\H a=some (zgg a (d j) b)/\ok j/\∀ H',zX H H'->Q (.int (j:Nat)) H'
def PS.nox {X:Cx}{t:TS}(h:PS X.nox b t):PS X b t:=λa s σ H D I hw =>
 g6 (h a s σ H D (I.wish _) hw) (λ_ _ q=>q.unwish) λ_ _ z=>False.elim z
end L2
namespace Dl
open PySem L2
variable [KK]
def SD.nox {X:Cx}{g:zz}(h:SD X.nox a g):SD X a g:=let ⟨t,p,r⟩:=h;⟨t,p.nox,r⟩
def SDs.nox {X:Cx}{g:zz}(h:SDs X.nox a g):SDs X a g:=let ⟨t,p,r⟩:=h;⟨t,p.nox,r⟩
noncomputable def xEx (a:zaV):xa:=fun ρ=>a (visG ρ)
def zjI (f:zU)(a:zaV):zaV:=fun ρ=>(f ρ).bind λ_=>a ρ
def yf:XSs E cl X a xNo:=⟨λ_ _ _=>False,λ_ _ _ _ _ _ h=>h.elim,λ_ _ _ _ _ _ _ _ _ h _=>by cases h⟩
def Gr.more (s:zX F H)(k:zX H H'):Gr F H F H':=⟨zX.refl _,s.trans k,λp o a b=>⟨.inl a,k p o b⟩⟩
def zli (a:xa)(g:zz)(h:Nat->Option D):zz:=fun ρ=>match a ρ with
 | some j=>match h j with
  | some d=>.rt d
  | none=>.no
 | none=>g ρ
def zbr (H:Hp)(j:Nat)(a:y6):Prop:=match pay j with
 | none=>a=none
 | some c=>∃ b,a=some b/\H b=some (.xd c)
def zbr.mono (h:zbr H j a)(s:zX H H'):zbr H' j a:=by
 unfold zbr at h ⊢
 cases e:pay j with
 | none=>rw[e]at h;exact h
 | some f=>rw[e]at h;obtain⟨c,d,b⟩:=h;exact⟨c,d,s _ _ b⟩
structure Est (cl:Nat->Addr) (i j:Nat) (σ:St) (H:Hp) (a:Addr) (od:y6):Prop where
 sl:σ[i]?=some (some (.ref a))
 he:H a=some (zgg a (cl j) od)
 pa:zbr H j od
def RU (c:Nat->Addr)(i:Nat)(u:TS)(h:Nat->Option D):Prop:=∀ (j:Nat) (d:D) (σ:St) (H:Hp) (a:Addr) (b:y6) (D':Vp),h j=some d->Est c i j σ H a b->(∀ H' v,(∀ F,zX F H->∃ F',Gr F H F' H'/\At F' d v)->D'.rt v H')->u D' σ H
def zlG {Y:Cx} {i:Nat} {y:Nat->Addr} {g:zz} {h:Nat->Option D} (K:Y.stack=Y.env::Y.outer) (hf:Y.env.frame=some Y.env.locals) (J:Y.ex=[]) (hN:Y.N.Nodup) (U:Y.N[i]?=some n) (hk:Y.env.scope.names.lookup n=some .local) (hg:Gl Y x) (hm:Y.mg x=some (.ref CS)) (L:∀ (c:xC) (W:yU) (E0:XK),wK (Air Y.prog Y.w) ((Y.pinned c).wish W) E0->XSs E0 y ((Y.pinned c).wish W) a S) (hb:∀ (c:xC) (W:yU),SDs ((Y.pinned c).wish W) a g) (C:∀ j d,h j=some d->PySem.W.exmOne Y.K (.ref (y j)) (.ref CS)=some true) (m:Y.Ok->∀ A,PSs (Y.held (.ref A)).nox (b₀::l) u) (hu:RU y i u h) (hd:(x == ("__debug__":Str))=false:=by decide) :
 SD Y.nox (.Try a [.ExceptHandler (some (.Name x np)) (some n) (b₀::l) z] [] [] G) (zli S g h):=by
 let R:XK->TS:=λE0 D σ H=>∀ (c:xC) (W:yU),wK (Air Y.prog Y.w) ((Y.pinned c).wish W) E0->∃ t,PSs ((Y.pinned c).wish W) a t/\t D σ H
 refine⟨λD σ H=>R (exW Y.K CS i Y.N.length u D) D σ H,λf s σ H D I N=>?_,λFb Hb F H ρ σ D Z k=>?_⟩
 .refine zqa (tb:=R) K hf J hN U hk hg hm (λc W E0 M f s σ H D I N=>?_) (m I.ok.unwish) hd f s σ H D I N
  obtain⟨t,p,ht⟩:=N c W M
  exact p f s σ H D I ht
 .intro c W M
  unfold zli at k
  cases e:S ρ with
  | none =>
   rw[e]at k
   obtain⟨t,p,r⟩:=hb c W
   exact⟨t,p,r Fb Hb F H ρ σ D Z k⟩
  | some j =>
   rw[e]at k
   dsimp only at k
   cases E:h j with
   | none=>rw[E]at k;exact k.elim
   | some d =>
    rw[E]at k
    obtain⟨t,p,r⟩:=L c W _ M
    refine⟨t,p,r Fb Hb F H ρ σ D j Z e λF' H' Q=>?_⟩
    have go:∀ (B:y6) (H0:Hp),zX H' H0->zbr H0 j B->exW Y.K CS i Y.N.length u D (.ref (y j)) B H0:=λB H0 X pa=>⟨_,rfl,C j d E,λA σ' hl hn=>by
     have P:i<σ'.length:=by
      rw[hl]
      exact(j3.mp U).1
     have w:zX H0 (upd H0 A (zgg A (y j) B)):=λb o q=>by rw[zi (ze q hn)];exact q
     refine hu j d _ _ A B _ E ⟨by rw[r6 P],zl,pa.mono w⟩ λH'' v av=>?_
     obtain⟨F2,g2,a2⟩:=av F' (Q.fh.trans (X.trans w))
     exact k F2 H'' v ((Q.trans (Gr.more Q.fh (X.trans w))).trans g2) a2⟩
    unfold EJ
    cases T:pay j with
    | none=>exact go none H' (zX.refl _) (by unfold zbr;rw[T])
    | some fs=>exact λV O=>go (some V) _ (λb o q=>by rw[zi (ze q O)];exact q) (by unfold zbr;rw[T];exact⟨V,rfl,zl⟩)
def SX (c:Nat->Addr)(i:Nat)(t:TE)(f:Nat->Option D):Prop:=∀ (j:Nat) (d:D) (σ:St) (H:Hp) (a:Addr) (b:y6) (Q:VK),f j=some d->Est c i j σ H a b->(∀ H' v,zX H H'->(∀ F,At F d v)->Q v H')->t σ H Q
section
variable {cl:Nat->Addr}{i:Nat}
def fK (a:List Nat):Nat->Option D:=λj=>if j%16∈a then some (.int (j%16:Nat))else none
def zdE {f:List Nat}{ok:Nat->Prop}(b:∀ j,cl j=cl (j%16))(c:∀ j,j∈f->ok j):SX cl i (zl2 (zic cl ok) [] E (WJ (Y2 i) zhl)) (fK f):=by
 intro j d σ H a l Q e g k
 unfold fK at e
 split at e <;> try cases e
 rename_i h
 refine⟨.ref a,g.sl,a,j%16,l,rfl,?_,c _ h,λH' m=>k H' _ m λF=>.int⟩
 rw[<-b j]
 exact g.he
def zlM {t:TE}{f:Nat->Option D}(h:SX cl i t f):RU cl i (zrK t) f:=λj d σ H a b D' e c k =>
 h j d σ H a b _ e c λH' v g l=>k H' v λF s=>⟨F,Gr.more s g,l F⟩
end
end Dl
namespace L2
open PySem PySem.Spec PyProof.Rows
def zfy (a C t:Addr)(b:y6):HO:=.ext λh=>∃ c,h.get? a=some { cls:=.ref C,dict:=b,data:=.fields #[.ref t,.none,.none,.none,.bool false,.none],slots:=c }
section
variable {X:Cx}{pins:xC}{σ:St}{H:Hp}{s:zn}{h':Heap}{a C t dx:Addr}{f:Str}
def ziq {w:World}{H:Hp}{h:Heap}(e:h.get? a=some { cls:=.ref C,dict:=b,data:=.fields #[.ref t,.none,.none,.none,.bool false,.none],slots:=sl }):yT P w H h a (zfy a C t b) :=
 ⟨⟨sl,e⟩,⟨_,e⟩,λc d ⟨sl,z⟩ k=>⟨sl,k _ z⟩⟩
def Inv.two {p:HO}{A:Nat}(I:Inv X pins σ H s)(x:H a=some (.ext φ))(j:∀ o,H dx=some o->∃ l,o=.xd l)(w:∀ o,s.heap.get? dx=some o->H dx≠none)(C:a≠dx)(k:∀ b o,b≠a->b≠dx->s.heap.get? b=some o->h'.get? b=some o)(t:yT X.prog X.w (upd (upd H dx m) a p) h' a p)(r:yT X.prog X.w (upd (upd H dx m) a p) h' dx m):Inv X pins σ (upd (upd H dx m) a p) { s with heap:=h',toks:=A }:=by
 have d:∀ b u,H b=some u->(∀ ψ,u≠.ext ψ)->(∀ l,u≠.xd l)->upd (upd H dx m) a p b=some u:=λb u e t r=>by
  have h:b≠a:=λz=>by subst z;rw[x]at e;cases e;exact t _ rfl
  have i:b≠dx:=λz=>by subst z;obtain⟨l,rfl⟩:=j u e;exact r _ rfl
  rw[zi h,zi i];exact e
 have f:∀ b o,s.heap.get? b=some o->H b=none->b≠a/\b≠dx:=λb o e n=>⟨λz=>by(subst z;rw[x]at n;cases n),λz=>by(subst z;exact w o e n)⟩
 refine I.un ⟨λb o e n _ _=>k b o (f b o e n).1 (f b o e n).2 e,λb o e n _ _=>⟨o.slots,k b o (f b o e n).1 (f b o e n).2 e⟩,λb o e n _=>by rw[zi (f b o e n).1,zi (f b o e n).2];exact n,λb o e _=>?_,
  λb y e=>d b _ e (λ_ z=>by cases z) (λ_ z=>by cases z),λb o u e=>d b _ e (λ_ z=>by cases z) (λ_ z=>by cases z),λb B e=>⟨#[],by rw[Array.append_empty];exact d b _ e (λ_ z=>by cases z) (λ_ z=>by cases z)⟩⟩ λb u e=>?_
 .by_cases h:b=a
  .subst h;exact t.ex
  .by_cases i:b=dx
   .subst i;exact r.ex
   .exact⟨o,k b o h i e⟩
 .by_cases h:b=a
  .subst h;rw[zl]at e;cases e;exact t
  .rw[zi h]at e
   by_cases i:b=dx
   .subst i;rw[zl]at e;cases e;exact r
   .rw[zi i]at e
    refine(I.hok b u e).stay (λc v g q=>?_) (λc g=>d c _ g (λ_ z=>by cases z) λ_ z=>by cases z) λc y g=>d c _ g (λ_ z=>by cases z) λ_ z=>by cases z
    rcases g with rfl | g
    .exact k _ v h i q
    .refine k c v (λz=>?_) (λz=>?_) q
     .subst z;rw[x]at g;cases g
     .subst z;obtain⟨l,z⟩:=j _ g;cases z
def zre {Q:Unit->Shared->Prop}(I:Inv X pins σ H s)(e:H a=some (zfy a C t none))(k:Xn X.K C)(n:Yh X.K C f)(v:xi y u)(h:∀ dx c,H dx=none->Inv X pins σ (upd (upd H dx (.xd [(f,y)])) a (zfy a C t (some dx))) c->Q () c):wpAny (model X.prog X.w) A (setAttr (.ref a) f u) Q E s:=by
 obtain⟨⟨d,i⟩,_⟩:=I.hok a _ e
 refine zjG I.kIn i rfl rfl rfl k n λh' l m p=>h s.heap.objs.size _ (I.hok.fresh (t6 _)) ?_
 have j:a≠s.heap.objs.size:=k6 (q4 i)
 refine I.two e (λo z=>by rw[I.hok.fresh (t6 _)]at z;cases z) (λo z=>absurd (q4 z) (u0h _)) j (λb o r _ z=>p b o r z) (ziq (sl:=d) l) ⟨_,m,λg=>?_⟩
 show zdr (List.lookup g [(f,y)]) _
 by_cases q:g=f
 .subst q
  rw[t7 rfl]
  simp only[List.lookup,u0T]
  exact v
 .rw[j6 q]
  simp only[List.lookup,g0.mpr q]
  trivial
end
def sX1 (K:zv)(c d:TE)(f:Str):TS:=λD σ H=>d σ H λy H1=>c σ H1 λx H2=>∃ a C t,x=.ref a/\H2 a=some (zfy a C t none)/\Xn K C/\Yh K C f/\∀ b,H2 b=none->D.nx σ (upd (upd H2 b (.xd [(f,y)])) a (zfy a C t (some b)))
section
variable {X:Cx}{o e value:Expr}{f:Str}{pos pos':Pos}{ta tv:TE}
def zoI (k:PE X o ta)(p:PE X value tv)(c:swapsWith value (some (.Attribute o f pos')) pos.line X.env=pure false):PS X (.Assign [.Attribute o f pos'] value pos) (sX1 X.K ta tv f):=by
 intro b s σ H D I h
 refine u1H (thn (p b s σ H _ I h) λu r ⟨y,H1,I1,v,q⟩=>thn (k b r σ H1 _ I1 q) λj z hh9=>?_) c
 obtain⟨x,H2,I2,e,a,C,t,ex,l,i,n,g⟩:=hh9
 subst ex
 obtain rfl:j=Value.ref a:=e
 exact zre I2 l i n v λd w m I3=>⟨σ,_,I3,g d m⟩
end
def spI (K:zv)(m:Nat)(ns:zH)(g:zx->List (Str × V)):Sp:=λd H Q _=>∃ a C t c,d=.ref a::c/\c.length=m/\H a=some (zfy a C t none)/\Xn K C/\(∀ f,f∈ns->Yh K C f)/\∀ b,H b=none->Q .non (upd (upd H b (.xd (g c))) a (zfy a C t (some b)))
def gI1 (f:Str):zx->List (Str × V):=λa=>[(f,a.getD 0 .non)]
def zh1 {K:zv}{m:Nat}{ns:zH}{g:zx->List (Str × V)}(b:zx)(H:Hp)(Q:VK)(E:XK)(h:spI K m ns g b H Q E):b.length=m+1:=by
 obtain⟨a,C,t,d,rfl,c,_⟩:=h
 rw[k7,c]
def zfY {K:zv} {f:Str} {b:zx} {H:Hp} {Q:VK} {E:XK} {rt:VK} (h:spI K 1 [f] (gI1 f) b H Q E):sX1 K (Y2 0) (Y2 1) f { nx:=λ_ H'=>Q .non H',rt:=rt } (start ["self",f] b) H:=by
 obtain⟨a,C,t,c,rfl,d,i,g,k,q⟩:=h
 obtain⟨y,rfl⟩:∃ y,c=[y]:=by
  cases c with
  | nil=>cases d
  | cons y r=>cases r with
   | nil=>exact⟨y,rfl⟩
   | cons _ _=>cases d
 exact⟨y,rfl,.ref a,rfl,a,C,t,rfl,i,g,k f (j5.mpr rfl),λe j=>q e j⟩
section
variable {X:Cx}{pins:xC}{σ:St}{H:Hp}{s:zn}{ea dx:Addr}{φ:Heap->Prop}
def Inv.untrack {H':Hp}(I:Inv X pins σ H s)(g:H ea=some (.ext φ))(l:H' ea=none)(f:∀ b,b≠ea->H' b=H b):Inv X pins σ H' s:=by
 have no:∀ b,H b=none->H' b=none:=λb e=>by
  have:b≠ea:=λz=>by(subst z;rw[g]at e;cases e)
  rw[f b this];exact e
 have keep:∀ b u,H b=some u->(∀ ψ,u≠.ext ψ)->H' b=some u:=λb u e n=>by
  have:b≠ea:=λz=>by(subst z;rw[g]at e;cases e;exact n _ rfl)
  rw[f b this];exact e
 refine⟨I.ok,I.os,I.bare,⟨I.base.keep,I.base.slot,λb o e n k=>no b (I.base.free b o e n k),I.base.there,λb h e=>keep b _ (I.base.tups b h e) (λ_ z=>by cases z),λb o u e=>keep b _ (I.base.frzs b o u e) (λ_ z=>by cases z),λb i e=>?_⟩,I.loc,I.cell,no _ I.free,λx c e=>no _ (I.freeC x c e),λp m=>?_,λb u e=>?_,I.len⟩
 .obtain⟨a,z⟩:=I.base.tbls b i e
  exact⟨a,keep b _ z λ_ y=>by cases y⟩
 .obtain⟨e,n,r⟩:=I.pin p m
  exact⟨e,no _ n,r⟩
 .have j:b≠ea:=λz=>by(subst z;rw[l]at e;cases e)
  rw[f b j]at e
  exact(I.hok b u e).stay (λ_ _ _ q=>q) (λc d=>keep c _ d λ_ z=>by cases z) λc h d=>keep c _ d λ_ z=>by cases z
end
structure zqA (K:zv) (mg:wn) (C:Addr) (x:Str) (f:Addr) (ns:zH):Prop where
 bound:mg x=some (.ref C)
 exc:zmA K C f=true
 attr:WE K C=true
 no:∀ n,n∈ns->W.findIn K (.ref C) n=some none
def zfT {P:zP}{w:World}{K:zv}{S:wn}{i:Heap}{N:zH}{j:Str}{d:Scope}{f:Addr}{Y:Value}{A:zR}{outer:List Env}{s:zn}{H:Hp}{E:XK}{C fI:Addr}{fd:wh}{x:Str}{np G b5:Pos}{ns ps:zH}{m k:Nat}{g:zx->List (Str × V)}{e:Expr}{es:y9}{t:TA}
 (hc:zqA K S C x fI ns) (F:xB P w K S i CX0 k fI fd ps (spI K m ns g)) (O:xG K fd ps []) (hr:xk (k+1) (wZ (Air P w) P w K S i N j d f Y A outer s H E).A) (hg:Gl (wZ (Air P w) P w K S i N j d f Y A outer s H E) x) (ha:PA (wZ (Air P w) P w K S i N j d f Y A outer s H E) (e::es) t) (hd:(x == ("__debug__":Str))=false:=by decide)
 (b4:starEach (e::es) (wZ (Air P w) P w K S i N j d f Y A outer s H E).env=(false,eval e (wZ (Air P w) P w K S i N j d f Y A outer s H E).env)::starEach es (wZ (Air P w) P w K S i N j d f Y A outer s H E).env:=by rfl) (b7:(backTo G (starEach es (wZ (Air P w) P w K S i N j d f Y A outer s H E).env)).any (·.1)=false:=by rfl) :
 PS (wZ (Air P w) P w K S i N j d f Y A outer s H E) (.Raise (some (.Call (.Name x np) (e::es) [] G)) none b5) (λ_ σ H0=>t σ H0 λU H1=>U.length=m/\m<=1000/\∀ p,H1 p=none->E (.ref C) (some p) (upd H1 p (.xd (g U)))):=by
 let X:=wZ (Air P w) P w K S i N j d f Y A outer s H E
 intro l s1 σ H0 D I h
 have I:Inv X l σ H0 s1:=I
 obtain⟨bm,NN,nm,q,bs,sn,a7,ab,a9,dd,k0,k1,k2,k3,k5,mN,oI,hC,hN,hi,T,hf,c2⟩:=zi2 I.ok.mod.kin hc.exc
 refine ze9 (C:=C) (nm:=nm) (q:=q) (N:=NN) (bs:=bs) (bm:=bm) (hdct:=true) (sn:=sn) (sub:=a7) (ab:=ab) (col:=a9) (dd:=dd) (k0:=k0) (k1:=k1) (k2:=k2) (k3:=k3) (k5:=k5) (mN:=mN) (fI:=fI) (oI:=oI) (T.hasType u0m.hasBase) (I.ok.hd rfl) (by rw[b4];show((false||(backTo G (starEach es _)).any (·.1)))=false;rw[b7];rfl) hi c2 (vC I hg hc.bound ⟨rfl,?_⟩ hd)
 have hs:=ha G l s1 σ H0 _ I h
 rw[b4]at hs ⊢
 refine PySem.Calls.evalArgs_plain (g6 hs (λW c z=>?_) λ_ _ z=>z)
 obtain⟨U,H1,I2,r,hl,hm,hE⟩:=z
 have I2:Inv X l σ H1 c:=I2
 have b9:W.length<=sizeLine:=by rw[<-r.length,hl];exact i4 (vT hm)
 refine⟨rfl,b9,I2.bk _ _ hC,hN.keeps I2.bk,T.keeps I2.bk,I2.bk _ _ hf,?_⟩
 have I3:Inv X l σ (upd H1 (c.heap.objs.size+1) (zfy (c.heap.objs.size+1) C c.heap.objs.size none)) { c with heap:=exH c.heap C W }:=I2.laid (t':=c.toks) (λb o z=>vj z) (u1g _) (ziq (zls _ _ _))
 have b0:H1 (c.heap.objs.size+1)=none:=I2.hok.fresh (u1g _)
 let R:VK:=λv H'=>v=.non/\∃ p,upd H1 (c.heap.objs.size+1) (zfy (c.heap.objs.size+1) C c.heap.objs.size none) p=none/\H'=upd (upd (upd H1 (c.heap.objs.size+1) (zfy (c.heap.objs.size+1) C c.heap.objs.size none)) p (.xd (g U))) (c.heap.objs.size+1) (zfy (c.heap.objs.size+1) C c.heap.objs.size (some p))
 have a8:spI K m ns g (.ref (c.heap.objs.size+1)::U) (upd H1 (c.heap.objs.size+1) (zfy (c.heap.objs.size+1) C c.heap.objs.size none)) R E0:=⟨_,C,_,U,rfl,hl,zl,.of hc.attr,hc.no,λp M=>⟨rfl,p,M,rfl⟩⟩
 have r3:yw (V.ref (c.heap.objs.size+1)::U) (Value.ref (c.heap.objs.size+1)::W):=.cons rfl r
 have b6:(Value.ref (c.heap.objs.size+1)::W++[]).length=ps.length:=by rw[r8,<- r3.length];exact F.len _ _ _ _ a8
 have bd:=O { c with heap:=exH c.heap C W } (Value.ref (c.heap.objs.size+1)::W) I3.kIn b6
 rw[r8]at bd
 refine u1I (u1l (F.run _ X.stack _ _ ⟨Value.ref (c.heap.objs.size+1)::W,[]⟩ _ _ R E0 (hr.make C W []) (I3.env0.make C W []) bd r3 a8) λres Z z=>?_)
 cases res with
 | error e=>exact z.elim
 | ok fl =>
  cases fl with
  | next=>exact False.elim z
  | brk=>exact False.elim z
  | cont=>exact False.elim z
  | ret u =>
   obtain⟨v,H4,c1,a1,a0,a6,rv,rfl,p,M,rfl⟩:=id z
   have J4:Inv X l σ _ Z:=I3.call' (ch:=[]) c1 a0 a6 a1 (λb z=>nomatch z)
   obtain rfl:u=Value.none:=rv
   have a2:c.heap.objs.size+1≠p:=λz=>by(subst z;rw[zl]at M;cases M)
   have c0:H1 p=none:=by rw[zi a2.symm]at M;exact M
   have J5:Inv X l σ (upd H1 p (.xd (g U))) Z:=J4.untrack (ea:=c.heap.objs.size+1) zl (by rw[zi a2];exact b0) λb O=>by
    rw[zi O]
    unfold upd
    by_cases J:b=p
    .rw[t7 J,t7 J]
    .rw[j6 J,j6 J,j6 O]
   obtain⟨⟨sl,a5⟩,_⟩:=J4.hok _ _ zl
   refine⟨rfl,_,some p,sl,J4.bk _ _ hC,a5,?_⟩
   show wpAny (model P w) X.A (leaving X.env (.ref (c.heap.objs.size+1))) (λ_ a4=>Air P w outer H s E (.ref (c.heap.objs.size+1)) a4) _ Z
   let B:=PySem.W.hideAll Z.heap ((c.heap.objs.size+1)::frs X.stack)
   have c3:∀ env∈X.stack,∀ a,env.frame=some a->a∈(c.heap.objs.size+1)::frs X.stack:=λenv he a ha=>.tail _ (u1q.mpr ⟨env,he,ha⟩)
   refine Z1 (Xd _ _) (wpAny_leaving_firstW (Q:=λ_ a4=>∃ J,a4={ Z with heap:=J }/\Heap.LeftW B (X.env::outer) (c.heap.objs.size+1) (.ref C) (.ref c.heap.objs.size) Z.heap J) (base:=B) (L:=X.env.locals) (outer:=outer) (J4.ok.frames) (PySem.W.funFrames_hide J4.stack c3) rfl a5 (λb o q=>u2y _ q) (u11 _ (.head _)) rfl rfl rfl λJ y=>⟨J,rfl,y⟩) ?_
   rintro _ _ ⟨J,rfl,y1,⟨_,_,y2⟩,y3,y4⟩ dk
   have x1:Heap.FlyingW B outer (c.heap.objs.size+1) (.ref C) (.ref c.heap.objs.size) J:=⟨y1,u11 _ (.head _),y2,y3⟩
   have a3:∀ b,b∉frs X.stack->b≠c.heap.objs.size+1->b∉(c.heap.objs.size+1)::frs X.stack:=λb h1 J z=>(q7.mp z).elim J h1
   have c4:Cov X.stack H1 c.heap (upd H1 p (.xd (g U))) Z.heap B:=by
    refine⟨λb o e n O=>?_,λb o e O=>?_,λb o O e=>?_⟩
    .have ne:b≠c.heap.objs.size+1:=k6 (u0y (q4 e))
     exact u0q _ (a0.keep b o (vj e) (by rw[zi ne];exact n) O (by simp)) (a3 b O ne)
    .have ne:b≠c.heap.objs.size+1:=k6 (u0y (q4 e))
     obtain⟨o',e'⟩:=a0.there b o (vj e) (by simp)
     exact⟨o',u0q _ e' (a3 b O ne)⟩
    .refine u0q _ e (a3 b (λz=>O (J5.stkFree b z)) λz=>?_)
     subst z
     exact O (by rw[zi a2];exact b0)
   obtain⟨u1,u2,u3⟩:=I2.airUn (X:=X) rfl J5 c4 x1.1 x1.2.2.1 y4
   obtain⟨ob,b8,_⟩:=x1.there
   exact⟨_,C,_,some p,_,B,rfl,J5.os,J5.bare,u1,u2,x1,u3,ZL.stay (h:=Z.heap) ⟨_,a5,rfl⟩ dk ⟨ob,b8⟩,hE p c0⟩
end L2
namespace Dl
open PySem L2
variable [KK]
def xRI (a:ziQ)(b:yx):xa:=fun ρ=>(b (visG ρ)).bind a
def zjl (c a:Nat):ziQ
 | [.int i]=>if -1<=i then some (c+16*a+64*(i+1).toNat)else none
 | _=>none
def zp6 (d:Nat->Addr)(C:Addr)(m:Nat)(g:zx->List (Str × V))(b:ziQ):Prop:=∀ a j,b a=some j->d j=C/\a.length=m/\∀ F c,AtL F a c->pay j=some (g c)
def Z5 {cl:Nat->Addr} {c:Nat} (b:∀ j,cl j=cl (j%16)) (l:c<16):zp6 cl (cl c) 1 (gI1 "at") (zjl c 1):=by
 intro k j e
 unfold zjl at e
 split at e <;> try cases e
 rename_i i
 split at e <;> cases e
 rename_i n
 refine⟨by rw[b (c+16*1+64*(i+1).toNat)];congr 1;omega,rfl,λF m a=>?_⟩
 obtain⟨v,r,rfl,f,d⟩:=a.cons_inv
 cases f.int_inv
 cases d.nil_inv
 have g:(c+16*1+64*(i+1).toNat)/16%4=1:=by omega
 have h:(((c+16*1+64*(i+1).toNat)/64:Nat):Int)-1=i:=by omega
 unfold pay
 rw[g]
 show some [(_,V.int _)]=_
 rw[h]
 rfl
def vO {w:World} {N:zH} {d:Str} {f:Addr} {k:Nat} {g:zx->List (Str × V)} (R:zqA K h C x L ns) (F:xB P w K h c CX0 k L I B (spI K m ns g)) (hb:xG K I B []) (u:zp6 cl C m g n) (U:xk (k+1) (wZ (Air P w) P w K h c N d b f l A outer s H E).A) (T:Gl (wZ (Air P w) P w K h c N d b f l A outer s H E) x) (ha:AD (wZ (Air P w) P w K h c N d b f l A outer s H E) (e::o) G) (O:m<=1000:=by decide) (X:(x == ("__debug__":Str))=false:=by decide) (r:starEach (e::o) (wZ (Air P w) P w K h c N d b f l A outer s H E).env=(false,eval e (wZ (Air P w) P w K h c N d b f l A outer s H E).env)::starEach o (wZ (Air P w) P w K h c N d b f l A outer s H E).env:=by rfl) (v:(backTo i (starEach o (wZ (Air P w) P w K h c N d b f l A outer s H E).env)).any (·.1)=false:=by rfl) :
 XS E cl (wZ (Air P w) P w K h c N d b f l A outer s H E) (.Raise (some (.Call (.Name x np) (e::o) [] i)) none q) (xRI n G):=by
 obtain⟨t,pa,Y⟩:=ha
 refine⟨_,zfT R F hb U T pa X r v,λFb Hb F H ρ σ D' j p e w=>?_⟩
 obtain⟨J,W,e2⟩:=u4.mp e
 obtain⟨ec,Q,M⟩:=u J j e2
 refine Y σ _ _ H J _ p.gh p.visG W λF' H' S gr a=>⟨by rw[a.length];exact Q,O,λZ y=>?_⟩
 have z:=w F' H' (p.out gr)
 unfold EJ at z
 rw[M F' S a,ec]at z
 exact z Z y
def Wo (b:vL)(a:xa)(g:zz):zm->SE->Option Nat
 | [],_=>none
 | d::ds,ρ=>match b d ρ with
  | none=>none
  | some e=>match a e with
   | some j=>some j
   | none=>match g e with
    | .nx c=>Wo b a g ds c
    | .ct c=>Wo b a g ds c
    | _=>none
def zoq (f:yx)(b:vL)(c:xa)(g:zz):xa:=fun ρ=>match f (visF ρ) with
 | some a=>Wo b c g a ρ
 | none=>none
def zot {X:Cx}{f:yx}{g:zz}(hp:PassesOwn (model X.prog X.w) X.A X.env X.xe)(R:X.calm=true)(M:ID X G n f)(S:BD X G b)(hx:XSs E cl X c A)(hb:SDs X c g)(Y:∀ x,foldedSetIterable n X.env x=pure x:=by intro _;rfl):XS E cl X (.For G n c [] C) (zoq f b A g):=by
 obtain⟨wi,U,ri⟩:=M
 obtain⟨a0,pg,rg⟩:=S
 obtain⟨t1,p1,r1⟩:=hx
 obtain⟨T,W,r2⟩:=hb
 have L:PSs X c (λD σ H=>t1 D σ H\/T D σ H):=λp s σ H D I h=>h.elim (p1 p s σ H D I) (W p s σ H D I)
 refine⟨_,zd0 hp R U pg L Y,λFb Hb F H ρ σ D' j u k w=>?_⟩
 unfold zoq at k
 cases h:f (visF ρ) with
 | none=>rw[h]at k;cases k
 | some a =>
  rw[h]at k
  refine ri σ _ _ H a _ u.gr.fh u.visF h λF1 H1 J g1 K=>?_
  have o:=u.grow g1
  refine⟨λi m σ H=>m=a.length-i/\i<=a.length/\∃ F ρ,zX F1 F/\Rl Fb Hb F H ρ σ/\Wo b A g (a.drop i) ρ=some j,⟨a.length,by simp,u0b _,F1,ρ,zX.refl _,o,k⟩,?_⟩
  rintro i m σ H ⟨rfl,M,F,ρ,P,u,k⟩
  obtain⟨Q,go⟩:=K i F H P u.gr.fh
  by_cases r:i<a.length
  .have V:a.drop i=a[i]::a.drop (i+1):=u0a r
   rw[V]at k
   unfold Wo at k
   obtain⟨q1,q2⟩:=go a[i] (by simp[r])
   refine .inr ⟨q1,fun σ H=>∃ F ρ,zX F1 F/\Rl Fb Hb F H ρ σ/\Wo b A g (a.drop (i+1)) ρ=some j,fun σ' H' w=>⟨a.length-(i+1),by omega,rfl,r,w⟩,λx H' Z=>?_⟩
   obtain⟨F3,N,a3⟩:=q2 x H' Z
   cases t:b a[i] ρ with
   | none=>rw[t]at k;cases k
   | some v =>
    rw[t]at k
    dsimp only at k
    refine rg Fb Hb F3 H' ρ v σ _ x _ (u.grow N) a3 t λO z=>?_
    have s3:=P.trans N.ff
    cases q:A v with
    | some j' =>
     rw[q]at k
     cases k
     exact .inl (r1 Fb Hb F3 H' v O _ j z q w)
    | none =>
     rw[q]at k
     dsimp only at k
     refine .inr (r2 F1 (hb2 F1 Hb) F3 H' v O _ (z.dn o.gr.ff s3) ?_)
     cases l:g v with
     | nx B=>rw[l]at k;exact λF4 H4 σ4 y=>⟨F4,B,y.gr.ff,y.up o.gr,k⟩
     | ct B=>rw[l]at k;exact λF4 H4 σ4 y=>⟨F4,B,y.gr.ff,y.up o.gr,k⟩
     | bk B=>rw[l]at k;cases k
     | rt d=>rw[l]at k;cases k
     | no=>rw[l]at k;cases k
  .have e:i=a.length:=by omega
   subst e
   rw[u0R]at k
   cases k
end Dl
namespace L2
open PySem PySem.Spec PyProof.Rows
def VX (s:Stmt)(k:Nat):Stmt:=match s with
 | .ClassDef _ _ _ a _ _ _ _ _ _ _=>a.getD k s
 | _=>s
def zn2 (K:zv)(C:Addr)(ns:zH):Bool:=ns.all λn=>W.findIn K (.ref C) n == some none
def vW {K:zv}{C:Addr}{ns:zH}(h:zn2 K C ns=true):∀ n,n∈ns->W.findIn K (.ref C) n=some none:=λn a=>u0k.mp (p4.mp h n a)
end L2
namespace Dl
open PySem L2
def zi3 (a:List Nat)(h:Nat->Option D):Nat->Option D:=λj=>if j%16∈a then h j else none
def zhG {d:D}(e:zi3 a h j=some d):j%16∈a:=by
 unfold zi3 at e
 split at e
 .assumption
 .cases e
def zlj [KK](r:RU b i u h):RU b i u (zi3 c h):=λj d σ H a f D' e g k=>by
 unfold zi3 at e
 split at e
 .exact r j d σ H a f D' e g k
 .cases e
end Dl
namespace Dl
open PySem L2
variable [KK]
section
variable {E:XK}{cl:Nat->Addr}{X:Cx}{a b:Expr}{pos:Pos}
def zrR {f:zU}(h:XE E cl X a c)(i:ED X b f)(d:Z9 b):XE E cl X (.Subscript a b pos) c:=by
 obtain⟨t,p,r⟩:=h
 obtain⟨u,k,_⟩:=i
 exact⟨_,zku zlk p k d,fun σ ρ F H j Q s g e w=>r σ ρ F H j _ s g e w⟩
end
end Dl
namespace Dl
open PySem L2
variable [KK]
section
variable {X:Cx}
def rNeT:R2:=λx y H Q=>∃ F a b,zX F H/\At F (.tup a) x/\At F (.tup b) y/\okE 20 (.tup a)=true/\okE 20 (.tup b)=true/\Q (.bl (!eqN 20 (.tup a) (.tup b))) H
def zpv {k:Nat}(D:xk k X.A):OpR X (compareOp .NotEq) rNeT:=by
 intro z s σ H x y v u Q I g l h
 obtain⟨F,w,t,i,N,K,E,G,q⟩:=h
 have M:X.A.units+30<cLine:=by have:=D.un;omega
 obtain⟨p,U,rfl,C,n⟩:=N.tup_inv
 obtain⟨J,V,rfl,L,bl⟩:=K.tup_inv
 cases g
 cases l
 obtain⟨d,r,B,S⟩:=I.tuple (SqT.of (i _ _ C))
 obtain⟨a,m,f,R⟩:=I.tuple (SqT.of (i _ _ L))
 have b:d.toArray.size=w.length:=by rw[t9,<- r.length,n.length]
 have c:a.toArray.size=t.length:=by rw[t9,<- m.length,bl.length]
 refine SeqAt.RcNeAt.tuples (e:=λj=>eqN 19 (w.getD j .non) (t.getD j .non)) (show s.heap.IsTuple p d.toArray from B) (show s.heap.IsTuple J a.toArray from f) (by omega) (λj A o=>?_) _ _ _ _ ⟨.bl _,H,I,rfl,?_⟩
 .obtain⟨W,O,g⟩:=n.nth r (j:=j) (by simpa using A)
  obtain⟨T,P,l⟩:=bl.nth m (j:=j) (by simpa using o)
  exact zbZ I i 19 (wM E (by rw[<-b];exact A)) (wM G (by rw[<-c];exact o)) O P (by simpa using g) (by simpa using l) (l7 (show X.A.units+20<=X.A.units+30 from u0P (by decide) _) M)
 .rw[b,c,<- zaQ]
  exact q
end
def zoi:xz
 | .tup ds,.tup es=>if (okE 20 (.tup ds)&&okE 20 (.tup es))=true then some (.bl (!eqN 20 (.tup ds) (.tup es)))else none
 | _,_=>none
def zmm:OpD rNeT zoi:=by
 intro F H x y d e z Q s c f a q
 unfold zoi at a
 split at a
 .split at a <;> cases a
  rename_i b
  rw[j0]at b
  exact⟨F,_,_,s,c,f,b.1,b.2,q F H _ (.refl s) .bl⟩
 .cases a
end Dl
namespace OwnDk
open PySem
section
variable {prog:zP}{w:World}{A:zR}{E:yU}{s:zn}
def zbi (hh:A.handled=none)(I a:Addr)(hne:a≠I){ob:Obj}{es:Array DictEntry}{ep:Nat}(hd:ob.data=.dict es ep) :
 Walks prog w A I [I,a] [I] es.size (λi v=>∃ e,es[i]?=some e/\v=e.key) (λi h=>h.IsKeyIter I a i es.size ep/\h.get? a=some ob) where
 sub:=λb hb=>by simp at hb;simp[hb]
 frame:=λ_ _ _ x hk=>⟨x.1.at λo e=>hk I (by simp) o e,hk a (by simp) _ x.2⟩
 item:=λi s Q E hi x hQ=>by
  have hx:es[i]?=some (es[i]'hi):=u0H _
  refine L2.raw_next x.1 x.2 hd hx λh' he' hs'=>?_
  exact hQ _ h' s.toks ⟨_,hx,rfl⟩ ⟨he',(hs'.2 a hne).trans x.2⟩ λb o hb eo=>hs'.extBut b o (λh=>hb (by simp[h])) eo
 done:=λs Q E x hQ=>L2.raw_end hh x.1 x.2 hd (t6 _) λh' he'=>hQ h' s.toks λb o hb eo=>he' b o (λh=>hb (by simp[h])) eo
 self:=λ_ _ _ _ x hQ=>wpAny_pyIter_keyiter x.1 hQ
def XI {B:Obj}{f:Array DictEntry}{Q:zB->Shared->Prop}(X:A.handled=none)(hs:(a == sysModules)=false)(P:s.heap.get? a=some B)(H:B.ExactDict)(M:B.data=.dict f u)(h8:f.size<=sizeLine)(hQ:∀ m,(∀ b o,s.heap.get? b=some o->m.heap.get? b=some o)->m.gens=s.gens->m.drawn=s.drawn->m.os=s.os->Q (f.toList.map (·.key)) m):wpAny (model prog w) A (collect (.ref a)) Q E s:=by
 have D:a<s.heap.objs.size:=q4 P
 have n:s.heap.objs.size≠a:=u0O D
 unfold collect
 refine u5 (wpAny_runValue (codeAny_builtin F.entry_proto_collect ?_))
 rw[Around.under_plainId F.plain_proto_collect _]
 show wpAny _ A.in1 (newList []>>=λl=>again (.builtin "list.__iadd__" ⟨[l,.ref a],[]⟩)) _ _ s
 refine u5 (l5 ?_)
 refine t5 ⟨plainId_quiet F.plain_list_iadd _,codeAny_builtin F.entry_list_iadd ?_⟩
 rw[Around.under_plainId F.plain_list_iadd _]
 have j:(s.heap.push { cls:=.type "list",data:=.seq ([]:zB).toArray }).get? a=some B:=u6 _ P
 have C:(s.heap.push { cls:=.type "list",data:=.seq ([]:zB).toArray }).get? s.heap.objs.size=some { cls:=.type "list",data:=.seq ([]:zB).toArray }:=j8 _ rfl
 generalize v:s.heap.push { cls:=.type "list",data:=.seq ([]:zB).toArray }=h1 at j C ⊢
 have V:∀ b o,s.heap.get? b=some o->h1.get? b=some o:=λb o e=>by rw[<-v];exact u6 _ e
 have r:h1.objs.size=s.heap.objs.size+1:=by rw[<-v];exact p6 ..
 show wpAny _ A.in1 (Builtin.List.listExtendWith (.ref s.heap.objs.size) (.ref a) (.ref s.heap.objs.size)) _ _ _
 unfold Builtin.List.listExtendWith
 refine u5 (u1S (T:="dict") ⟨_,j,H.1⟩ ?_)
 have g1:Builtin.List.listSameRef (.ref s.heap.objs.size) (.ref a)=false:=by simp[Builtin.List.listSameRef,n]
 have Z:(Value.type "dict" == Value.type "list")=false:=by decide
 have R:(Value.type "dict" == Value.type "tuple")=false:=by decide
 simp only[g1,Z,R,Bool.or_false,u1n,u2B]
 refine u5 (L2.raw_iter hs j H M ?_)
 have x:(h1.push { cls:=.type "dict_keyiterator",data:=.fields #[.ref a,.int 0 0,.int f.size 0,.int u 0] }).IsKeyIter h1.objs.size a 0 f.size u:=⟨_,j8 _ rfl,rfl,rfl⟩
 have t:(h1.push { cls:=.type "dict_keyiterator",data:=.fields #[.ref a,.int 0 0,.int f.size 0,.int u 0] }).get? a=some B:=u6 _ j
 have p:=u6 { cls:=.type "dict_keyiterator",data:=.fields #[.ref a,.int 0 0,.int f.size 0,.int u 0] } C
 generalize J:h1.push { cls:=.type "dict_keyiterator",data:=.fields #[.ref a,.int 0 0,.int f.size 0,.int u 0] }=h2 at x t p ⊢
 have Y:∀ b o,h1.get? b=some o->h2.get? b=some o:=λb o e=>by rw[<-J];exact u6 _ e
 refine u5 (l8 (PySem.W.kdl_hint_dict ⟨_,t,H.1⟩ ?_))
 show wpAny _ A.in1 (if true=true then _ else _) _ _ _
 rw[t7 rfl]
 refine u5 (u1K (u5 ?_))
 show wpAny _ A.in1 (updateSeq s.heap.objs.size (·.push .none)>>=λ_=>updateSeq s.heap.objs.size (·.pop)) _ _ _
 refine u5 (wpAny_updateSeq p rfl ?_)
 have y:=i0 (Obj.mapSeq (·.push Value.none)) p rfl
 refine wpAny_updateSeq (hz:=by seq_fits) y rfl ?_
 have G:=i0 (Obj.mapSeq (·.pop)) y rfl
 have q:∀ b o,b≠s.heap.objs.size->h2.get? b=some o->((h2.update s.heap.objs.size (Obj.mapSeq (·.push Value.none))).update s.heap.objs.size (Obj.mapSeq (·.pop))).get? b=some o :=
  λb o O e=>(h9 _ _ (i7 O)).trans ((h9 _ _ (i7 O)).trans e)
 have k:h1.objs.size≠s.heap.objs.size:=by rw[r];exact Nat.succ_ne_self _
 have L:a≠h1.objs.size:=by rw[r];exact k6 (u0y D)
 have W:=zbi (prog:=prog) (w:=w) (A:=A.in1) X h1.objs.size a L M
 refine t5 ⟨plainId_quiet F.plain_extend_loop _,codeAny_extend_loopS W.toS h8 _ (λd=>?_) _ f.size 0 _ #[] _ rfl (u0b _) ⟨x.at λo e=>q _ _ k e,q _ _ (i7 n) t⟩ G (ItemsOf.nil _) λm g c' h K c=>?_⟩
 .rcases q7.mp d with e | e
  .exact k e.symm
  .exact n (j5.mp e)
 .show wpAny _ A (load s.heap.objs.size>>=_) _ _ m
  refine u5 (wpAny_load K ?_)
  refine t5 ?_
  have U:g.toList=f.toList.map (·.key):=by
   apply List.ext_getElem?
   intro i
   by_cases I:i<f.size
   .have N:g[i]?=some (g[i]'(by rw[c.1];exact I)):=u0H _
    obtain⟨e,S,q3⟩:=c.2 i _ N
    rw[k9,u1M,u1M,N,S,q3]
    rfl
   .rw[u1O (by rw[l9,c.1];exact u0E I),u1O (by rw[u9,l9];exact u0E I)]
  rw[U]
  refine hQ m (λb o e=>h.heap b o (λd=>?_) (q b o (k6 (q4 e)) (Y b o (V b o e)))) h.gens h.drawn h.os
  rcases q7.mp d with z | z
  .exact k6 (q4 e) z
  .have:=q4 e
   rw[j5.mp z,r]at this
   exact absurd (Nat.lt_of_succ_lt this) (u0h _)
def own_sorted_dict {x:Obj}{l:Array DictEntry}{Q:yU}(M:A.handled=none)(T:(a == sysModules)=false)(hS:s.heap.get? a=some x)(K:x.ExactDict)(N:x.data=.dict l H)(g:l.size<64)(D:∀ v∈l.toList.map (·.key),∃ t,OwnSortT.TT s.heap v t) (h:∀ (f B:Heap) (z:Nat) (d:wq) (c:Nat),d.toList.Perm (l.toList.map (·.key))->OwnSortT.Rise s.heap d.toList->(∀ b o,s.heap.get? b=some o->f.get? b=some o)->(∀ b o,f.get? b=some o->B.get? b=some o) ->
 B.get? f.objs.size=some { cls:=.type "list",dict:=none,data:=.seq d c,slots:=#[] }->Q (.ref f.objs.size) { s with heap:=B,toks:=z }) :
 wpAny (model prog w) A (call (.builtin "sorted") [.ref a]) Q E s:=by
 refine Calls.call_function_entry PyProof.Rows.kind_sorted PyProof.Rows.plain_sorted PyProof.Rows.entry_sorted (PyProof.Rows.args_sorted1 _) ?_
 unfold Builtin.«sorted»
 refine u5 (m:=checkCount "sorted" 1 1 _) (t5 (u5 (XI M T hS K N (r0 (i4 g) (by rw[u0I];decide)) λU k W P I=>?_)))
 obtain⟨f,S,R,X,u⟩:=U
 have L:S=s.gens:=W
 have e2:R=s.drawn:=P
 have e3:u=s.os:=I
 subst L e2 e3
 have g:(l.toList.map (·.key)).length<64:=by rw[u9,l9];exact g
 generalize l.toList.map (·.key)=vs at *
 refine u5 (wpAny_newList ?_)
 have j:(f.push (PyProof.Rows.seqObj "list" vs.toArray 0)).get? f.objs.size=some (PyProof.Rows.seqObj "list" vs.toArray 0):=j8 _ rfl
 have C:∀ b o,s.heap.get? b=some o->(f.push (PyProof.Rows.seqObj "list" vs.toArray 0)).get? b=some o:=λb o e=>u6 _ (k b o e)
 refine u5 (l8 (i5 PyProof.Rows.slot_list_sort ⟨_,j,rfl⟩ PyProof.Rows.entry_list_sort (OwnSortT.ownT_list_sort j (λv q=>let ⟨t,r⟩:=D v q;⟨t,r.keep C⟩) g λd F O=>⟨_,rfl,?_⟩) (PyProof.Rows.args_list_sort _)))
 have n:OwnSortT.Rise s.heap d.toList:=by
  obtain⟨V,Y,J,q3⟩:=O
  refine⟨V,Y,λi v t q r=>?_,q3⟩
  obtain⟨t0,p⟩:=D v (F.mem_iff.mp (o8 q))
  rw[(J i v t q r).uniq (p.keep C)]
  exact p
 have hn:∀ b o,b≠f.objs.size->(f.push (PyProof.Rows.seqObj "list" vs.toArray 0)).get? b=some o->(PyProof.Rows.sortedHeap (f.push (PyProof.Rows.seqObj "list" vs.toArray 0)) f.objs.size vs d).get? b=some o:=λb o G e=>by
  unfold PyProof.Rows.sortedHeap
  exact(h9 _ _ (i7 G)).trans (u6 _ (u6 _ ((h9 _ _ (i7 G)).trans e)))
 have y:∃ c,(PyProof.Rows.sortedHeap (f.push (PyProof.Rows.seqObj "list" vs.toArray 0)) f.objs.size vs d).get? f.objs.size=some { cls:=.type "list",dict:=none,data:=.seq d c,slots:=#[] }:=by
  unfold PyProof.Rows.sortedHeap
  have Z:=i0 (Obj.mapSeq λ_=>(#[]:wq)) j rfl
  have u2:=u6 (PyProof.Rows.seqObj "list" #[] 0) (u6 (PyProof.Rows.seqObj "tuple" vs.toArray 0) Z)
  exact⟨_,i0 (Obj.mapSeq λ_=>d) u2 rfl⟩
 obtain⟨c,y⟩:=y
 exact t5 ⟨_,rfl,h f _ _ d c F n k (λb o e=>hn b o (k6 (q4 e)) (u6 _ e)) y⟩
end
end OwnDk
namespace Dl
open PySem L2
def zmU:List Key->Option zC
 | []=>some []
 | .inl i::r=>(zmU r).map (i::·)
 | _=>none
def zdc:List (List Key)->Option ZI
 | []=>some []
 | k::ks=>match zmU k with
  | some (i::t)=>(zdc ks).map ((i::t)::·)
  | _=>none
def zjO:∀ {k:List Key} {t:zC},zmU k=some t->k=t.map Sum.inl:=by
 intro k
 induction k with
 | nil=>intro t h;cases h;rfl
 | cons a k b =>
  intro t h
  cases a with
  | inl i =>
   obtain⟨r,e,rfl⟩:=t4.mp h
   rw[b e]
   rfl
  | inr x=>cases h
def zkQ:∀ {a:List (List Key)} {b:ZI},zdc a=some b->a=b.map (λt=>t.map Sum.inl)/\∀ t∈b,t≠[]:=by
 intro a
 induction a with
 | nil=>intro b h;cases h;exact⟨rfl,λt h=>by cases h⟩
 | cons k a g =>
  intro b h
  unfold zdc at h
  split at h
  .rename_i i t e
   obtain⟨r,d,rfl⟩:=t4.mp h
   obtain⟨f,j⟩:=g d
   refine⟨by rw[f,zjO e];rfl,λu c=>?_⟩
   rcases q7.mp c with rfl | c
   .exact List.cons_ne_nil _ _
   .exact j u c
  .cases h
def zn1 (t:zC):ZI->ZI
 | []=>[t]
 | u::us=>if HT.lexLt u t=true then u::zn1 t us else t::u::us
def Xo:ZI->ZI
 | []=>[]
 | t::ts=>zn1 t (Xo ts)
def zbz (t:zC):∀ a:ZI,(zn1 t a).Perm (t::a):=by
 intro a
 induction a with
 | nil=>exact u3a _
 | cons u a b =>
  unfold zn1
  split
  .exact(b.cons u).trans (List.Perm.swap _ _ _)
  .exact u3a _
def Wz:∀ a:ZI,(Xo a).Perm a:=by
 intro a
 induction a with
 | nil=>exact u3a _
 | cons t a b=>exact(zbz t _).trans (b.cons t)
def zhm (t:zC):∀ f:ZI,f.Pairwise (λa b=>HT.lexLt b a=false)->(zn1 t f).Pairwise λa b=>HT.lexLt b a=false:=by
 intro f
 induction f with
 | nil=>intro _;exact u1s _ _
 | cons u f g =>
  intro h
  rw[u0u]at h
  unfold zn1
  by_cases c:HT.lexLt u t=true
  .rw[t7 c]
   refine u0u.mpr ⟨λv d=>?_,g h.2⟩
   rcases q7.mp ((zbz t f).mem_iff.mp d)with rfl | d
   .cases e:HT.lexLt v u with
    | false=>rfl
    | true =>
     have:=OwnSortT.lex_trans _ _ _ c e
     rw[OwnSortT.lex_irr]at this
     cases this
   .exact h.1 v d
  .rw[j6 c]
   have c:HT.lexLt u t=false:=by cases e:HT.lexLt u t with
    | false=>rfl
    | true=>exact absurd e c
   refine u0u.mpr ⟨λv d=>?_,u0u.mpr h⟩
   rcases q7.mp d with rfl | d
   .exact c
   .cases e:HT.lexLt v t with
    | false=>rfl
    | true =>
     rcases OwnSortT.lex_neg v u t e with z | z
     .rw[h.1 v d]at z;cases z
     .rw[c]at z;cases z
def zc2:∀ c:ZI,(Xo c).Pairwise λa b=>HT.lexLt b a=false:=by
 intro c
 induction c with
 | nil=>exact List.Pairwise.nil
 | cons t c d=>exact zhm t _ d
def Wj {d:ZI}(p:d.Perm c)(h:d.Pairwise λa b=>HT.lexLt b a=false):d=Xo c :=
 List.Perm.eq_of_pairwise (le:=λa b=>HT.lexLt b a=false) (λa b _ _ e f=>OwnSortT.lex_total _ _ f e) h (zc2 c) (p.trans (Wz c).symm)
def zrY (t:zC):D:=.tup (t.map .int)
def zex:zjX
 | [.dct _ true ks _]=>if ks.length<64 then (zdc ks).map λa=>(Xo a).map zrY else none
 | _=>none
variable [KK]
section
variable {X:Cx}{e:Expr}{pos:Pos}
def Gr.seeL {H:Hp}:∀ {F:Hp} (d:List (Addr × zx)),zX F H->(∀ b∈d,H b.1=some (.tup b.2))->∃ F',Gr F H F' H/\∀ b∈d,F' b.1=some (.tup b.2):=by
 intro F d
 induction d generalizing F with
 | nil=>intro s _;exact⟨F,.refl s,λb h=>by cases h⟩
 | cons b d g =>
  intro s h
  obtain⟨F1,e,i⟩:=Gr.see s (h b f8)
  obtain⟨F2,f,j⟩:=g e.fh λc a=>h c (r4 _ a)
  refine⟨F2,e.trans f,λc a=>?_⟩
  rcases q7.mp a with rfl | a
  .exact f.ff _ _ i
  .exact j c a
def zcl (O:X.calm=true):v5 X (.builtin "sorted") (λC H Q=>∃ F a z ks ys x,C=[.ref a]/\zX F H/\zac F a z true ks ys/\ks.length<64/\zdc ks=some x/\∀ l zs F',H l=none->Gr F H F' H->AtL F' ((Xo x).map zrY) zs->Q (.ref l) (upd H l (.lst zs))):=by
 intro a3 s σ H C us Q I r h
 obtain⟨F,a,z,ks,ys,x,rfl,sm,P,a8,hk,q⟩:=h
 obtain⟨u,rfl,ru⟩:=XF r
 cases ru
 obtain⟨rfl,a1⟩:=zkQ hk
 rw[u9]at a8
 obtain⟨u,hu,hz⟩:=P.mono sm
 unfold zdj at hu
 rw[t7 rfl]at hu
 obtain⟨E,rfl,W,-⟩:=hu
 have ok:yT X.prog X.w H s.heap a (.dT E):=by
  cases z with
  | true=>rw[t7 rfl]at hz;obtain⟨ob,e⟩:=hz;exact(show yT X.prog X.w H s.heap a (.frz ob (.dT E))from I.hok a _ e).2
  | false=>rw[j6 u7]at hz;exact I.hok a _ hz
 obtain⟨_,a5,C,pr,o,es,ep,e1,ex,dt,he,nd⟩:=ok
 have hp:=u2O pr
 have b6:E.length=x.length:=by have:=u0x List.length W;rw[u9,u9]at this;exact this
 have J:es.toList.map (·.key)=C.map λq=>Value.ref q.2.1:=by rw[he,u0F];rfl
 have a7:es.size<64:=by rw[<-l9,he,u9];omega
 have b0:∀ {l:zaa} {m:List (List Key × Addr × Value)},Paired (λp q=>p.1=q.1/\H q.2.1=some (.tup (p.1.map kV))/\xi p.2 q.2.2) l m->∀ (j:Nat) (k:j<l.length) (G:j<m.length),l[j].1=m[j].1/\H m[j].2.1=some (.tup (l[j].1.map kV)):=λ{l m} r=>by
  induction r with
  | nil=>intro j k;simp at k
  | cons h t M =>
   intro j k G
   cases j with
   | zero=>exact⟨h.1,h.2.1⟩
   | succ j=>exact M j (by simpa using k) (by simpa using G)
 have U:∀ (j:Nat) (k:j<x.length) (G:j<C.length),H C[j].2.1=some (.tup (x[j].map V.int)):=λj k G=>by
  have h3:j<E.length:=by omega
  obtain⟨-,r2⟩:=b0 pr j h3 G
  have T:E[j].1=x[j].map Sum.inl:=by
   have:=u0x (λl=>l[j]?) W
   simp only[k9]at this
   rw[g5 h3,g5 k]at this
   exact o4 this
  rw[r2,T,u0F]
  rfl
 have L:∀ {v:Value},v∈(C.map λq=>Value.ref q.2.1)->∃ b t,v=.ref b/\t∈x/\H b=some (.tup (t.map V.int))/\OwnSortT.TT s.heap v t:=λ{v} hv=>by
  obtain⟨j,hj,rfl⟩:=u1f hv
  rw[u9]at hj
  have R:j<x.length:=by omega
  have D:=U j R hj
  rw[u1V]
  obtain⟨us,ru,⟨o,ho,S,n,P⟩,_⟩:=I.tuple (SqT.of D)
  exact⟨C[j].2.1,x[j],rfl,u0S R,D,C[j].2.1,o,n,us,rfl,ho,S,P,YJ ru,a1 _ (u0S R)⟩
 refine OwnDk.own_sorted_dict (I.ok.hd O) a5 e1 ex dt a7 (λv hv=>by rw[J]at hv;obtain⟨b,t,-,-,-,N⟩:=L hv;exact⟨t,N⟩) λk h' tk Z c pm ri k1 k2 hL=>?_
 rw[J]at pm
 obtain⟨us,l1,l2,l3⟩:=ri
 have a0:∀ (y:zB) (f:ZI),y.length=f.length->(∀ w∈y,w∈C.map λq=>Value.ref q.2.1)->(∀ (i:Nat) v t,y[i]?=some v->f[i]?=some t->OwnSortT.TT s.heap v t)->∃ A:List (Addr × zC),A.map (·.2)=f/\yw (A.map λb=>V.ref b.1) y/\∀ b∈A,H b.1=some (.tup (b.2.map V.int)):=by
  intro y
  induction y with
  | nil =>
   intro f K _ _
   cases f with
   | nil=>exact⟨[],rfl,.nil,λb h=>by cases h⟩
   | cons _ _=>simp at K
  | cons w y M =>
   intro f K hm N
   cases f with
   | nil=>simp at K
   | cons t f =>
    obtain⟨A,Y,z1,z2⟩:=M f (by simpa using K) (λw' a9=>hm w' (r4 _ a9)) (λi v t k G=>N (i+1) v t (by simpa using k) (by simpa using G))
    obtain⟨a,t',rfl,_,ha,b4⟩:=L (hm w f8)
    have et:t'=t:=b4.uniq (N 0 _ t rfl rfl)
    subst et
    exact⟨(a,t')::A,by rw[n0,Y],.cons rfl z1,λb D=>by
     rcases q7.mp D with rfl | D
     .exact ha
     .exact z2 b D⟩
 obtain⟨A,Y,z1,z2⟩:=a0 Z.toList us l1 (λw hw=>pm.mem_iff.mp hw) l2
 have B:us.Perm x:=by
  have kv:∀ (y:zB) (f:ZI),y.length=f.length->(∀ (i:Nat) v t,y[i]?=some v->f[i]?=some t->OwnSortT.TT s.heap v t)->f=y.map λv=>(OwnSortT.keyTT s.heap v).getD []:=by
   intro y
   induction y with
   | nil=>intro f K _;cases f with
    | nil=>rfl
    | cons _ _=>simp at K
   | cons w y M =>
    intro f K N
    cases f with
    | nil=>simp at K
    | cons t f =>
     rw[n0,OwnSortT.keyTT_of (N 0 w t rfl rfl),<- M f (by simpa using K) λi v t k G=>N (i+1) v t (by simpa using k) (by simpa using G)]
     rfl
  rw[kv _ _ l1 l2,kv (C.map λq=>Value.ref q.2.1) x (by rw[u9];omega) λi v t k G=>?_]
  .exact pm.map _
  .obtain⟨hi,e2⟩:=j3.mp k
   obtain⟨a2,T⟩:=j3.mp G
   rw[u9]at hi
   have D:=U i a2 hi
   rw[T]at D
   obtain⟨b5,a4,⟨o,ho,S,n,P⟩,_⟩:=I.tuple (SqT.of D)
   exact⟨C[i].2.1,o,n,b5,by rw[<-e2,u1V],ho,S,P,YJ a4,a1 t (by rw[<-T];exact u0S a2)⟩
 have T:=Wj B l3
 subst T
 obtain⟨F',g,hF⟩:=Gr.seeL (A.map λb=>(b.1,b.2.map V.int)) sm λb D=>by
  obtain⟨c,O,rfl⟩:=l6.mp D
  exact z2 c O
 have az:AtL F' ((Xo x).map zrY) (A.map λb=>V.ref b.1):=by
  rw[<-Y]
  clear Y z1 pm l1 l2
  induction A with
  | nil=>exact .nil
  | cons b A M=>exact .cons (.tup (hF (b.1,b.2.map V.int) (l6.mpr ⟨b,f8,rfl⟩)) (.ints _)) (M (λc O=>z2 c (r4 _ O)) (λc O=>by
   obtain⟨d,P,rfl⟩:=l6.mp O
   exact hF _ (l6.mpr ⟨d,r4 _ P,rfl⟩)))
 have I2:Inv X a3 σ H { s with heap:=k,toks:=tk }:=I.kept λb u e=>k1 b u e
 have a6:(A.map λb=>V.ref b.1).length<=sizeLine:=by
  have hh:A.length=(Xo x).length:=by rw[<-Y,u9]
  rw[u9,hh,(Wz x).length_eq,u0I]
  omega
 exact⟨.ref k.objs.size,_,I2.laid (t':=tk) (λb o e=>k2 b o e) (t6 _) (show yT X.prog X.w _ h' _ (.lst (A.map λb=>V.ref b.1)) from⟨a6,Z.toList,c,z1,by simpa using hL⟩),rfl,q _ _ F' (I2.hok.fresh (t6 _)) g az⟩
def zfu {p:Pos} {f:yx} (k:X.calm=true) (c:Gl X "sorted") (j:X.mg "sorted"=none) (L:AD X [e] f)
 (J:starEach [e] X.env=(false,eval e X.env)::starEach [] X.env:=by rfl) (d:(backTo pos (starEach [] X.env)).any (·.1)=false:=by rfl):FL X (.Call (.Name "sorted" p) [e] [] pos) (fFn zex f):=by
 obtain⟨t,O,u⟩:=L
 refine⟨_,yD (zcl k) c j zfE O (by decide) (by decide) J d,fun σ ρ F H z Q s y e q=>?_⟩
 obtain⟨A,n,K⟩:=u4.mp e
 refine u σ ρ F H A _ s y n λF1 H1 P i C=>?_
 have a:=K
 unfold zex at a
 split at a
 .rename_i B o R
  split at a <;> try cases a
  rename_i v
  obtain⟨E,M,rfl⟩:=t4.mp a
  obtain⟨x,r,rfl,I,N⟩:=C.cons_inv
  cases N.nil_inv
  obtain⟨p,G,rfl,m,bl⟩:=I.dct_inv
  refine⟨F1,p,B,o,G,E,rfl,i.fh,m,(by omega),M,λl zs F' h g w=>?_⟩
  have b:=i.trans g
  exact q _ _ _ _ (b.trans (Gr.hide b.fh h _)) (zbO b h) (b.fh.free h) zl w
 .cases a
end
end Dl
namespace Dl
open PySem L2
variable [KK]
def shT (k:Bool):D->Option (zm × D)
 | .tup [x,y]=>match k,x,y with
  | false,.lst es,y=>some (es,y)
  | true,x,.lst es=>some (es,x)
  | _,_,_=>none
 | _=>none
def tvT (k:Bool)(p:Addr)(v:V):zx:=if k=true then [v,.ref p]else [.ref p,v]
def tupT (k:Bool)(a:zm)(y:D):D:=if k=true then .tup [y,.lst a]else .tup [.lst a,y]
omit [KK] in
def zpp {k:Bool}{d:D}(h:shT k d=some (c,y)):d=tupT k c y:=by
 unfold shT at h
 split at h
 .rename_i a b
  cases k with
  | false=>cases a <;> cases h;rfl
  | true=>cases b <;> cases h;rfl
 .cases h
def ziG (k:Bool)(F H:Hp)(Q:VK)(d:D):Prop:=match shT k d with
 | some (es,y)=>∀ F' H' a p b v,Gr F H F' H'->H p=none->H a=none->F' p=none->F' a=none->H' p=some (.lst b)->H' a=some (.tup (tvT k p v))->AtL F' es b->At F' y v->Q (.ref a) H'
 | none=>∀ F' H' v,Gr F H F' H'->At F' d v->Q v H'
def ziG.up {k:Bool}{d:D}(c:Gr Fb Hb F1 H1)(h:ziG k Fb Hb Q d):ziG k F1 (hb2 F1 Hb) Q d:=by
 have b:∀ q,hb2 F1 Hb q=none->Hb q=none:=λq h=>by
  cases e:F1 q with
  | none=>rw[YN e]at h;exact h
  | some o=>rw[zd5 e]at h;cases h
 unfold ziG at h ⊢
 cases e:shT k d with
 | some p =>
  obtain⟨m,y⟩:=p
  rw[e]at h
  exact λF' H' a p f v g j i=>h F' H' a p f v (c.up g) (b p j) (b a i)
 | none =>
  rw[e]at h
  exact λF' H' v g l=>h F' H' v (c.up g) l
def ziG.of {k:Bool}{Q:VK}{d:D}(h:∀ F' H' v,Gr F H F' H'->At F' d v->Q v H'):ziG k F H Q d:=by
 unfold ziG
 cases e:shT k d with
 | none=>exact h
 | some q =>
  obtain⟨E,y⟩:=q
  rintro F' H' a p f v g B x o s l r w C
  have m:a≠p:=ziV r l (by intro z;cases z)
  have A:=g.show B o l
  have t:=A.show x (by rw[zi m];exact s) r
  have n:zX F' (upd F' p (.lst f)):=λb u e=>by rw[zi (ze e o)];exact e
  have j:zX (upd F' p (.lst f)) (upd (upd F' p (.lst f)) a (.tup (tvT k p v))):=λb u e=>by rw[zi (ze e (by rw[zi m];exact s))];exact e
  have i:At (upd (upd F' p (.lst f)) a (.tup (tvT k p v))) (.lst E) (.ref p):=At.lst (j _ _ zl) (w.mono (n.trans j))
  have c:At (upd (upd F' p (.lst f)) a (.tup (tvT k p v))) y v:=C.mono (n.trans j)
  refine h _ _ _ t ?_
  rw[zpp e]
  cases k with
  | false=>exact At.tup zl (.cons i (.cons c .nil))
  | true=>exact At.tup zl (.cons c (.cons i .nil))
def zq1 (k:Bool)(Fb Hb:Hp)(E:Vp):Ctl->Prop
 | .rt d=>ziG k Fb Hb E.rt d
 | c=>SOk Fb Hb E c
def RST (k:Bool)(t:TS)(g:zz):Prop:=∀ (Fb Hb F H:Hp) (ρ:SE) (σ:St) (E:Vp),Rl Fb Hb F H ρ σ->zq1 k Fb Hb E (g ρ)->t E σ H
def SDT (k:Bool)(X:Cx)(a:Stmt)(g:zz):Prop:=∃ t,PS X a t/\RST k t g
def zlL (k:Bool)(X:Cx)(a:wU)(g:zz):Prop:=∃ t,PSs X a t/\RST k t g
section
variable {k:Bool}{X:Cx}{st:Stmt}{sts:wU}{a b c e tg:Expr}{pos pos':Pos}
def zaS:zlL k X [] zD:=⟨_,zcL,λ_ _ F H ρ σ E r h=>h F H σ r⟩
def ve {g:zz}(i:SDT k X st g)(j:zlL k X sts h):zlL k X (st::sts) (zK g h):=by
 obtain⟨t,p,r⟩:=i
 obtain⟨u,l,f⟩:=j
 refine⟨_,xu p l,λFb Hb F H ρ σ E c q=>?_⟩
 refine r Fb Hb F H ρ σ { E with nx:=u E } c ?_
 unfold zK at q
 cases e:g ρ with
 | nx m =>
  rw[e]at q
  exact λF' H' b a=>f Fb Hb F' H' m b E a q
 | rt d=>rw[e]at q;exact q
 | bk d=>rw[e]at q;exact q
 | ct d=>rw[e]at q;exact q
 | no=>rw[e]at q;exact q
def ZJ {g:zz}(a:SDT k X st g):zlL k X [st] g:=let ⟨_,p,r⟩:=a;⟨_,wO p,r⟩
def zd9 {g:zz}(h:SD X st g)(b:∀ ρ d,g ρ≠.rt d):SDT k X st g:=by
 obtain⟨t,p,r⟩:=h
 refine⟨t,p,λFb Hb F H ρ σ E a q=>r Fb Hb F H ρ σ E a ?_⟩
 cases e:g ρ with
 | rt d=>exact absurd e (b ρ d)
 | nx _=>rw[e]at q;exact q
 | bk _=>rw[e]at q;exact q
 | ct _=>rw[e]at q;exact q
 | no=>rw[e]at q;exact q
def zg1 {e f:wU}{t:vr}{g:zz}(i:TD X c t)(o:zlL k X e g)(p:zlL k X f h):SDT k X (.If c e f pos) (sIf t g h):=by
 obtain⟨v,n,j⟩:=i
 obtain⟨u,s,m⟩:=o
 obtain⟨w,l,r⟩:=p
 refine⟨_,zgf n s l,λFb Hb F H ρ σ E b q=>?_⟩
 unfold sIf at q
 cases h:t (visG ρ) with
 | none=>rw[h]at q;exact q.elim
 | some d =>
  rw[h]at q
  refine j σ _ _ H d _ b.gh b.visG h λF' H' g=>?_
  have a:=b.grow (b.back g).1
  cases d with
  | true=>rw[t7 rfl];exact m Fb Hb _ H' ρ σ E a q
  | false=>rw[j6 u7];exact r Fb Hb _ H' ρ σ E a q
def znP {f:yx}{b:vL}{g:zz}(hp:PassesOwn (model X.prog X.w) X.A X.env X.xe)(K:X.calm=true)(C:ID X tg j f)(M:BD X tg b)(hb:zlL k X n g)(T:∀ x,foldedSetIterable j X.env x=pure x:=by intro _;rfl):SDT k X (.For tg j n [] pos) (XG f b g):=by
 obtain⟨wi,P,Y⟩:=C
 obtain⟨S,R,rg⟩:=M
 obtain⟨tb,N,rb⟩:=hb
 refine⟨_,zd0 hp K P R N T,λFb Hb F H ρ σ E o q=>?_⟩
 unfold XG at q
 cases h:f (visF ρ) with
 | none=>rw[h]at q;exact q.elim
 | some a =>
  rw[h]at q
  refine Y σ _ _ H a _ o.gr.fh o.visF h λF1 H1 J V y=>?_
  have c:=o.grow V
  refine⟨λi m σ H=>m=a.length-i/\i<=a.length/\∃ F ρ,zX F1 F/\Rl Fb Hb F H ρ σ/\zq1 k Fb Hb E (zel b g (a.drop i) ρ),⟨a.length,by simp,u0b _,F1,ρ,zX.refl _,c,q⟩,?_⟩
  rintro i m σ H ⟨rfl,C,F,ρ,G,o,q⟩
  obtain⟨t,go⟩:=y i F H G o.gr.fh
  by_cases s:i<a.length
  .have Q:a.drop i=a[i]::a.drop (i+1):=u0a s
   rw[Q]at q
   unfold zel at q
   obtain⟨W,I⟩:=go a[i] (by simp[s])
   refine .inr ⟨W,fun σ H=>∃ F ρ,zX F1 F/\Rl Fb Hb F H ρ σ/\zq1 k Fb Hb E (zel b g (a.drop (i+1)) ρ),fun σ' H' w=>⟨a.length-(i+1),by omega,rfl,s,w⟩,λx H' U=>?_⟩
   obtain⟨F3,B,Z⟩:=I x H' U
   cases p:b a[i] ρ with
   | none=>rw[p]at q;exact q.elim
   | some v =>
    rw[p]at q
    dsimp only at q
    refine rg Fb Hb F3 H' ρ v σ _ x _ (o.grow B) Z p λO z=>?_
    have L:=G.trans B.ff
    refine rb F1 (hb2 F1 Hb) F3 H' v O _ (z.dn c.gr.ff L) ?_
    cases l:g v with
    | nx u=>rw[l]at q;exact λF4 H4 A r=>⟨F4,u,r.gr.ff,r.up c.gr,q⟩
    | ct u=>rw[l]at q;exact λF4 H4 A r=>⟨F4,u,r.gr.ff,r.up c.gr,q⟩
    | bk u=>rw[l]at q;exact λF4 H4 A r=>q F4 H4 A (r.up c.gr)
    | rt d=>rw[l]at q;exact ziG.up c.gr q
    | no=>rw[l]at q;exact q.elim
  .have e:i=a.length:=by omega
   subst e
   rw[u0R]at q
   exact .inl ⟨t rfl,q F H σ o⟩
def zcX (i:Nat)(f:zU):zz:=fun ρ=>match ρ[i]?,f (visF ρ) with
 | some (.o ds),some y=>.rt (.tup [.lst ds,y])
 | _,_=>.no
def zg4 {a:zx}(h:a.length<=2):a.length<=sizeLine:=i4 (vT (r0 h (by decide)))
def za6 {f:zU}{x1}(ho:PE X a (Y2 i))(he:ED X e f)(hs:starEach [a,e] X.env=(false,eval a X.env)::starEach [e] X.env:=by rfl)(hs2:starEach [e] X.env=(false,eval e X.env)::starEach [] X.env:=by rfl):SDT false X (.Return (some (.Tuple [a,e] x1 pos')) pos) (zcX i f):=by
 obtain⟨t,p,r⟩:=he
 refine⟨_,Y7 (zdQ (zu ho (zu p yF hs2) hs)),λFb Hb F H ρ σ E j q=>?_⟩
 unfold zcX at q
 cases l:ρ[i]? with
 | none=>rw[l]at q;exact q.elim
 | some J =>
  rw[l]at q
  cases J with
  | no=>exact q.elim
  | v _=>exact q.elim
  | m _ _ _=>exact q.elim
  | k _ _ _=>exact q.elim
  | o A =>
   cases n:f (visF ρ) with
   | none=>rw[n]at q;exact q.elim
   | some y =>
    rw[n]at q
    obtain⟨x,O,B,G,M,L,N⟩:=j.owns i A l
    refine⟨_,B,?_⟩
    refine r σ _ _ H y _ j.gr.fh j.visF n λF' H' v g K=>⟨zg4 (t6 _),λz b=>?_⟩
    have c:=j.grow g
    obtain⟨I,w,h,_,u,d,s⟩:=c.owns i A l
    rw[B]at h
    cases h
    have C:x≠z:=ze d b
    exact q F' _ z x w v (c.gr.trans (Gr.hide g.fh b _)) G (c.notbase b) u (g.fh.free b) (by rw[zi C];exact d) zl s K
def zmX (a:yx)(f:zU):zz:=fun ρ=>match a (visF ρ),f (visF ρ) with
 | some es,some y=>.rt (.tup [.lst es,y])
 | _,_=>.no
def zjf {f:zU}{k:yx}{x1}(hl:FL X a k)(he:ED X e f)(hs:starEach [a,e] X.env=(false,eval a X.env)::starEach [e] X.env:=by rfl)(hs2:starEach [e] X.env=(false,eval e X.env)::starEach [] X.env:=by rfl):SDT false X (.Return (some (.Tuple [a,e] x1 pos')) pos) (zmX k f):=by
 obtain⟨t,p,r⟩:=he
 obtain⟨u,B,x⟩:=hl
 refine⟨_,Y7 (zdQ (zu B (zu p yF hs2) hs)),λFb Hb F H ρ σ E c q=>?_⟩
 unfold zmX at q
 cases j:k (visF ρ) with
 | none=>rw[j]at q;exact q.elim
 | some G =>
  rw[j]at q
  cases i:f (visF ρ) with
  | none=>rw[i]at q;exact q.elim
  | some y =>
   rw[i]at q
   refine x σ _ _ H G _ c.gr.fh c.visF j λF' H' l C g h0 I s w=>?_
   refine r σ _ F' H' y _ g.fh (c.visF.mono g.ff) i λF2 H2 v d J=>⟨zg4 (t6 _),λm b=>?_⟩
   obtain⟨A,n⟩:=d.kl (λ_ z=>by cases z) I s
   have o:l≠m:=ze n b
   have h:=(c.grow g).grow d
   exact q F2 _ m l C v (h.gr.trans (Gr.hide d.fh b _)) (c.notbase h0) (h.notbase b) A (d.fh.free b) (by rw[zi o];exact n) zl (w.mono d.ff) J
end
def zq8 (k:Bool)(m:Nat)(p:wm):Sp:=λb H Q _=>∃ a d F,a.length=m/\zX F H/\AtL F a b/\p a=some d/\ziG k F H Q d
def zoG {k:Bool}{w:World}{f:Addr}{N ps:zH}{g:zz}(Fu:Fun K x b l f u)(S:yz N ps (zk l))(G:∀ (c:Value) (A:zR) (outer:List Env) (s:zn) (H:Hp) (E:XK),xk n (A.deeper (PyProof.Rows.envOfC b (zk l) s.heap.objs.size f c))->zlL k (wZ CX0 P w K v i N b (zk l) f c A outer s H E).nox (ya l) g)(m:∀ ρ C,g ρ≠.nx C) :
 xB P w K v i CX0 (n+1) f u ps (zq8 k ps.length (fnD N.length g)):=by
 refine Fu.ok S (λz H Q E h=>?_) λc A outer s H z Q E B h=>?_
 .obtain⟨o,d,F,y,_,a,_⟩:=h
  rw[a.length];exact y
 .obtain⟨o,d,F,y,D,a,e,q⟩:=h
  obtain⟨t,p,r⟩:=G c A outer s H E B
  refine⟨t,p,r F H F H _ _ _ (X5 D a) ?_⟩
  unfold fnD at e
  cases j:g (o.map .v++List.replicate (N.length-o.length) .no) with
  | rt I=>rw[j]at e;cases e;exact q
  | nx ρ=>exact absurd j (m _ _)
  | bk ρ=>rw[j]at e;cases e
  | ct ρ=>rw[j]at e;cases e
  | no=>rw[j]at e;cases e
def zqn {k:Bool}{w:World}{f:Addr}{p:wm}(F:xB P w K c a CX0 n f e b (zq8 k m p)):xB P w K c a CX0 n f e b (spD m p) :=
 F.imp λq H Q E ⟨g,d,F',j,o,h,l,i⟩=>⟨g,d,F',j,o,h,l,ziG.of i⟩
end Dl
namespace Dl
open PySem L2
variable [KK]
section
variable {X:Cx}{st1 st2 st3 st4:Stmt}{i j:Nat}
omit [KK] in
def zmQ {i:Nat}{f:yx}(ρ:SE)(d:D):Wr i f ρ≠.rt d:=by
 unfold Wr
 cases f (visF ρ) <;> (intro h;cases h)
omit [KK] in
def znw {i:Nat}{f:zU}(ρ:SE)(d:D):Vm m i f ρ≠.rt d:=by
 unfold Vm
 split <;> (intro h;cases h)
def NNx (g:zz):Prop:=∀ ρ a,g ρ≠.nx a
omit [KK] in
def zaz {g:zz}(k:NNx h):NNx (zK g h):=fun ρ b e=>by
 unfold zK at e
 cases a:g ρ with
 | nx r=>rw[a]at e;exact k _ _ e
 | _=>rw[a]at e;cases e
omit [KK] in
def zjF {i:Nat}{f:zU}:NNx (zcX i f):=fun ρ a e=>by
 unfold zcX at e
 split at e <;> cases e
end
end Dl
namespace L2
open PySem PySem.Spec PyProof.Rows
section
variable {X:Cx}
def znS:V->zx->Hp->VK->Prop:=λx b H Q=>∃ l a y,x=.ref l/\b=[]/\H l=some (.lst (a++[y]))/\Q y (upd H l (.lst a))
def zfA (r:yw (b++[y]) a):∃ f u,a=f++[u]/\yw b f/\xi y u:=by
 have c:=r.take b.length
 have d:=r.drop b.length
 rw[List.take_left]at c
 rw[List.drop_left]at d
 obtain⟨u,e,g⟩:=d.one
 refine⟨a.take b.length,u,?_,c,g⟩
 have:=List.take_append_drop b.length a
 rw[e]at this
 exact this.symm
def zgi:MtM X "list.pop" znS:=by
 intro d s σ H x p v w Q I i o h
 obtain⟨l,f,y,rfl,rfl,b,q⟩:=h
 cases i
 cases o
 obtain⟨z,j,n,r,t,e⟩:=I.lstM b
 obtain⟨a,u,rfl,c,k⟩:=zfA r
 have m:f.length+1<=sizeLine:=by rw[j4]at z;exact z
 have g:a.length=f.length:=c.length.symm
 refine u0z F.slot_list_pop ⟨_,e,rfl⟩ F.entry_list_pop (F.args_list_pop_1 _) (PySem.MeetsSeq.list_pop_last l (a++[u]).toArray n u (by simp) (by rw[t9,j4,g];exact m)) ⟨e,?_⟩
 refine⟨y,_,I.lset (its':=a) b e (by simp[List.eraseIdx_append_of_length_le]) c (by omega),k,q⟩
end
end L2
namespace Dl
open PySem L2
section
variable [KK]{X:Cx}{a:Expr}{pos:Pos}
def AtL.unsnoc {a:zm}{d:D}(h:AtL F (a++[d]) b):∃ g y,b=g++[y]/\AtL F a g/\At F d y:=by
 have c:=h.take a.length
 have f:=h.drop a.length
 rw[List.take_left]at c
 rw[List.drop_left]at f
 obtain⟨y,r,e,i,j⟩:=f.cons_inv
 cases j.nil_inv
 refine⟨b.take a.length,y,?_,c,i⟩
 have:=List.take_append_drop a.length b
 rw[e]at this
 exact this.symm
end
def b3:zbB
 | .tup [x,y,z]=>some [some x,some y,some z]
 | _=>none
end Dl
namespace Dl
open PySem L2
variable [KK]
def edv {X:Cx} (i:Nat) (e:X.N[i]?=some x:=by rfl) (d:Vis X.env.scope x:=by first | exact Or.inl rfl | exact Or.inr (Or.inl rfl) | exact Or.inr (Or.inr rfl)) (c:(x == ("__debug__":Str))=false:=by decide) (a:(x == ("__classdict__":Str))=false:=by decide):ED X (.Name x b) (zc i):=zoT i (pv i e d c a)
def zy {X:Cx} {k:Nat} {f:Addr} {p:wm} (F:xB X.prog X.w X.K X.mg X.base CX0 j f l h (spD m p)) (r:xk k X.A) (q:Gl X x) (d:Def X.K X.mg x o h f l) (t:AD X (e::b) i) (n:j<=k:=by decide) (g:(x == ("__debug__":Str))=false:=by decide) (s:starEach (e::b) X.env=(false,eval e X.env)::starEach b X.env:=by rfl) (c:(backTo a (starEach b X.env)).any (·.1)=false:=by rfl) :
 ED X (.Call (.Name x u) (e::b) [] a) (zo m p i):=znO (F.mono n) r q d.at_ d.kp d.bd t g s c
end Dl
namespace L2
open PySem PySem.Spec PyProof.Rows
def zfM:∀ {b:zH} {a:zB},yw (b.map V.str) a->∃ l:List (Str × Tok),a=strValues l/\l.map (·.1)=b:=by
 intro b
 induction b with
 | nil=>intro a h;cases h;exact⟨[],rfl,rfl⟩
 | cons x b c =>
  intro a h
  cases h with
  | cons r t =>
   obtain⟨u,rfl⟩:=r
   obtain⟨l,rfl,e⟩:=c t
   exact⟨(x,u)::l,rfl,by rw[n0,e]⟩
def ziC (l:List (Str × Tok)):yw ((l.map (·.1)).map V.str) (strValues l):=by
 induction l with
 | nil=>exact .nil
 | cons p l a=>exact .cons ⟨p.2,rfl⟩ a
section
variable {X:Cx}
def zoA (K:zv):V->zx->Hp->VK->Prop:=λx c H Q=>∃ a p b,x=.str a/\c=[.ref p]/\SqL K H p (b.map V.str)/\JoinOk a b=true/\Q (.str (Txt.join a b)) H
def zcP:MtM X "str.join" (zoA X.K):=by
 intro b s σ H x m v o Q I c j h
 obtain⟨i,p,n,rfl,rfl,d,a,q⟩:=h
 obtain⟨t,rfl⟩:=c
 obtain⟨u,rfl,g⟩:=j.one
 cases g
 obtain⟨e,r,pl,w⟩:=I.list d
 obtain⟨l,rfl,f⟩:=zfM r
 exact SC.join (D:=p) pl.isList f a λy k=>⟨.str _,H,I.tok _,⟨_,rfl⟩,q⟩
def zgs {w:World} {s:zn} {a b:Str} {f:Tok} {Q:yU} (i:(b.length == 0)=false) (j:a.length+2<=sizeLine) (q:∀ (l:List (Str × Tok)) (k:Nat),l.map (·.1)=Txt.split a b->Q (.ref s.heap.objs.size) { s with heap:=s.heap.push { cls:=.type "list",data:=.seq (strValues l).toArray },toks:=k }) :
 wpAny (model e w) A (call (.builtin "str.split") [.str a c,.str b f]) Q E s:=by
 have h:(Builtin.Str.partsBetween a (Builtin.Str.occurrences a b 0 a.length (a.length+1)) b.length).length<=sizeLine:=by
  have z:=StrLaws.occ_length_le a b 0 a.length (a.length+1)
  rw[length_partsBetween]
  omega
 cases d:(decide (a.length<b.length)||decide (Builtin.Str.strKind a<Builtin.Str.strKind b)) with
 | true=>exact u0z F.slot_str_split (u2L s a c) u2G (u2p _ _) (meets_str_split_cannot_occur a b c f d) (q [(a,c)] s.toks (by unfold Txt.split;rw[t7 d];rfl))
 | false =>
  cases g:(Builtin.Str.occurrences a b 0 a.length (a.length+1)).isEmpty with
  | true=>exact u0z F.slot_str_split (u2L s a c) u2G (u2p _ _) (meets_str_split_not_found a b c f d i g) (q [(a,c)] s.toks (by unfold Txt.split;rw[j6 (by rw[d];decide),t7 g];rfl))
  | false =>
   refine u0z F.slot_str_split (u2L s a c) u2G (u2p _ _) (meets_str_split_sep a b c f d i g (by omega) h) ?_
   have z:=q (numbered s.toks (Builtin.Str.partsBetween a (Builtin.Str.occurrences a b 0 a.length (a.length+1)) b.length))
   rw[<-strsFrom_eq]at z
   exact z _ (by rw[numbered_texts];unfold Txt.split;rw[j6 (by rw[d];decide),j6 (by rw[g];decide)])
def zlR:V->zx->Hp->VK->Prop:=λx c H Q=>∃ a b,x=.str a/\c=[.str b]/\(b.length == 0)=false/\a.length+2<=sizeLine/\(Txt.split a b).length<=sizeLine/\∀ l,H l=none->Q (.ref l) (upd H l (.lst ((Txt.split a b).map V.str)))
def zdO:MtM X "str.split" zlR:=by
 intro c s σ H x m v n Q I d i h
 obtain⟨a,b,rfl,rfl,g,f,j,q⟩:=h
 obtain⟨t,rfl⟩:=d
 obtain⟨u,rfl,o,rfl⟩:=i.one
 refine zgs g f λl k e=>?_
 refine⟨.ref _,_,I.lnew (ys:=(Txt.split a b).map V.str) (its:=strValues l) (by rw[<-e];exact ziC l) (by rw[u9];exact j),rfl,q _ I.fresh⟩
def zbq:v5 X (.type "int") (λc H Q=>∃ a n,c=[.str a]/\a.length<=640/\intText? a=some n/\Q (.int n) H):=by
 intro b s σ H c f Q I r h
 obtain⟨a,n,rfl,d,e,q⟩:=h
 obtain⟨u,rfl,t,rfl⟩:=XF r
 exact call_int_1 (PySem.W.KIN.gives_text d e).meets (show(Made.int n).post _ s from⟨rfl,.int n,H,I.tok _,⟨_,rfl⟩,q⟩)
def Its (a:Str):It:=⟨λi _=>i<a.cps.size,λi H x H'=>H'=H/\∃ c,a.cps[i]?=some c/\x=.str ⟨#[c]⟩,λi _=>a.cps.size<=i⟩
def zkf {P:zP} {w:World} {K:zv} {tg:Expr} (a:Str) (t:Tok) (it:Addr):zlB P w K tg (Its a) [it] it (λi h=>h.IsStrIter it "str_ascii_iterator" a t i) where
 mem:=j5.mpr rfl
 obj:=λi h st b hb=>by
  obtain rfl:=j5.mp hb
  obtain⟨o,e,_,d⟩:=st
  exact⟨o,e,λv z=>by rw[d]at z;cases z⟩
 keep:=λi h h' st k=>by
  obtain⟨o,e,r⟩:=st
  exact⟨o,k it (j5.mpr rfl) o e,r⟩
 item:=by
  intro X hP hw hK hc i pins s σ H E I hf st hg
  subst hP hw hK
  have hg:i<a.cps.size:=hg
  obtain⟨f0,f1,f2,f3,f4,f5⟩:=hf it (j5.mpr rfl)
  refine wpAny_pyNext_ascii_item st (c:=a.cps[i]) (u0H hg) λh' st' sb=>?_
  have I1:Inv X pins σ H { s with heap:=h',toks:=s.toks+1 }:=I.turned (t':=s.toks+1) (λb o hb e=>(sb.2 b hb).trans e) f0 f1 f3 f4 f5
  obtain⟨o,e,c,d⟩:=id st'
  exact⟨_,rfl,zjp (s:={ s with heap:=h',toks:=s.toks+1 }) e c d (by decide) ⟨.str ⟨#[a.cps[i]]⟩,H,I1,⟨_,rfl⟩,⟨rfl,_,u0H hg,rfl⟩,st',λb hb=>(hf b hb).1⟩⟩
 done:=by
  intro X hP hw hK hc i pins s σ H E I hf st hg
  subst hP hw hK
  have hg:a.cps.size<=i:=hg
  obtain⟨f0,f1,f2,f3,f4,f5⟩:=hf it (j5.mpr rfl)
  exact wpAny_pyNext_ascii_end (I.ok.hd hc) st (Array.getElem?_eq_none hg) λh' eb=>⟨rfl,I.turned (t':=s.toks) (λb o hb e=>eb b o hb e) f0 f1 f3 f4 f5⟩
 self:=λ_ _ _ _ _ st h=>wpAny_pyIter_striter_ascii st h
def iTxt (t:TE):TI:=fun σ H R=>t σ H λx H1=>∃ a,x=.str a/\a.cps.all (· < 128)=true/\R (Its a) H1
def zon {f:Expr}{t:TE}(h:PE X e t):PI X f e (iTxt t):=by
 intro c s σ H R I q
 refine thn (h c s σ H _ I q) λv d hh9=>?_
 obtain⟨x,H1,I1,g,i⟩:=hh9
 obtain⟨a,rfl,j,q⟩:=i
 obtain⟨u,rfl⟩:=g
 refine wpAny_pyIter_ascii j ?_
 refine⟨_,[d.heap.objs.size],_,Its a,H1,rfl,I1.kept (t':=d.toks) (λb o e=>u6 _ e),zkf a u _,⟨_,j8 _ rfl,rfl,rfl⟩,λb k=>?_,q⟩
 rw[j5.mp k]
 exact I1.fpOk (t6 _) (I1.hok.fresh (t6 _))
end
end L2
namespace Dl
open PySem L2 PySem.Spec PyProof.Rows
variable [KK]
section
variable {X:Cx}{tg a b e:Expr}{pos:Pos}
def Xl:zm->Option zH
 | []=>some []
 | .str x::ds=>(Xl ds).map (x::·)
 | _=>none
omit [KK] in
def ZY (a:zH):Xl (a.map .str)=some a:=by
 induction a with
 | nil=>rfl
 | cons x a b=>show(Xl (a.map .str)).map (x::·)=_;rw[b];rfl
def AtL.strs:∀ {a:zm} {b:zH} {c:zx},Xl a=some b->AtL F a c->c=b.map V.str:=by
 intro a
 induction a with
 | nil=>intro b c h f;cases h;exact f.nil_inv
 | cons d a g =>
  intro b c h f
  cases d with
  | str x =>
   obtain⟨l,e,rfl⟩:=t4.mp h
   obtain⟨y,r,rfl,i,j⟩:=f.cons_inv
   rw[g e j,i.str_inv]
   rfl
  | _=>cases h
def AtL.ofStrs (a:zH):AtL F (a.map D.str) (a.map V.str):=by
 induction a with
 | nil=>exact .nil
 | cons x a b=>exact .cons .str b
def zcK (c d:D):Option D:=match c,d with
 | .str s,.lst ds=>(Xl ds).bind λa=>if JoinOk s a=true then some (.str (Txt.join s a))else none
 | _,_=>none
def zc1 {p:Pos}{f:zU}{g:yx}(I:ED X a f)(E:AD X [e] g)
 (O:∀ {b:TE} {t:TA},PE X a b->PA X [e] t->PE X (.Call (.Attribute a "join" p) [e] [] pos) (tBM X.K "str" (zoA X.K) b t)):ED X (.Call (.Attribute a "join" p) [e] [] pos) (zbA zcK f g):=by
 obtain⟨b,P,x⟩:=I
 obtain⟨t,J,N⟩:=E
 refine⟨_,O P J,fun σ ρ F H z Q s o h0 q=>?_⟩
 obtain⟨c,w,m⟩:=u4.mp h0
 obtain⟨T,G,h⟩:=u4.mp m
 clear h0 m
 split at h
 .rename_i d
  unfold zcK at h
  split at h
  .rename_i i U
   obtain⟨C,K,h⟩:=u4.mp h
   split at h <;> cases h
   rename_i k
   refine x σ ρ F H _ _ s o w λF1 H1 v j B=>?_
   cases B.str_inv
   refine⟨rfl,?_⟩
   refine N σ ρ F1 H1 _ _ j.fh (o.mono j.ff) G λF2 H2 R n A=>?_
   obtain⟨y,V,rfl,L,M⟩:=A.cons_inv
   cases M.nil_inv
   obtain⟨l,S,rfl,r,u⟩:=L.lst_inv
   have:=u.strs K
   subst this
   exact⟨i,l,C,rfl,rfl,SqL.of (n.fh _ _ r),k,q F2 H2 _ (j.trans n) .str⟩
  .cases h
 .cases h
def zef (c d:D):Option zm:=match c,d with
 | .str x,.str y=>if (y.length == 0)=false/\x.length<=100000/\(Txt.split x y).length<=100000 then some ((Txt.split x y).map .str)else none
 | _,_=>none
def zmj (m:D->D->Option zm)(f:zU)(g:yx):yx:=fun ρ=>(f ρ).bind λc=>(g ρ).bind λa=>match a with
 | [d]=>m c d
 | _=>none
def zer {p:Pos}{f:zU}{g:yx}(J:ED X a f)(G:AD X [e] g)
 (N:∀ {i:TE} {t:TA},PE X a i->PA X [e] t->PE X (.Call (.Attribute a "split" p) [e] [] pos) (tBM X.K "str" zlR i t)):FL X (.Call (.Attribute a "split" p) [e] [] pos) (zmj zef f g):=by
 obtain⟨i,O,A⟩:=J
 obtain⟨t,K,L⟩:=G
 refine⟨_,N O K,fun σ ρ F H z Q s o h0 q=>?_⟩
 obtain⟨c,r,n⟩:=u4.mp h0
 obtain⟨S,I,h⟩:=u4.mp n
 clear h0 n
 split at h
 .rename_i d
  unfold zef at h
  split at h
  .rename_i x y
   split at h <;> cases h
   rename_i w
   refine A σ ρ F H _ _ s o r λF1 H1 v k E=>?_
   cases E.str_inv
   refine⟨rfl,?_⟩
   refine L σ ρ F1 H1 _ _ k.fh (o.mono k.ff) I λF2 H2 P j B=>?_
   obtain⟨u,T,rfl,C,M⟩:=B.cons_inv
   cases M.nil_inv
   cases C.str_inv
   have R:100002<=sizeLine:=by rw[u0I];decide
   have b:=k.trans j
   exact⟨x,y,rfl,rfl,w.1,by omega,by omega,λl m=>q _ _ _ _ (b.trans (Gr.hide j.fh m _)) (zbO b m) (j.fh.free m) zl (AtL.ofStrs _)⟩
  .cases h
 .cases h
def zcM:wm
 | [.int i]=>if 0<=i/\i<1000000 then some (.str (Str.ofString (toString i)))else none
 | _=>none
def zdi:CaD (λg H Q=>∃ i,g=[.int i]/\i.natAbs.log2<1920/\Q (.str (toString i)) H) zcM:=by
 intro F H k j z Q s a h q
 unfold zcM at h
 split at h
 .rename_i i
  split at h <;> cases h
  rename_i l
  obtain⟨x,r,rfl,b,f⟩:=a.cons_inv
  cases f.nil_inv
  refine⟨i,by rw[b.int_inv],?_,q F H _ (.refl s) .str⟩
  by_cases c:i.natAbs=0
  .rw[c];decide
  .have e:(2:Nat)^20=1048576:=by decide
   have d:i.natAbs<2^20:=by rw[e];omega
   exact(Nat.log2_lt c).mpr (q5 d (Nat.pow_le_pow_right (by decide) (by decide)))
 .cases h
def zm9:wm
 | [.str x]=>if x.length<=640 then (intText? x).map .int else none
 | _=>none
def zk0:CaD (λf H Q=>∃ a n,f=[.str a]/\a.length<=640/\intText? a=some n/\Q (.int n) H) zm9:=by
 intro F H j i z Q s b h q
 unfold zm9 at h
 split at h
 .rename_i x
  split at h
  .rename_i d
   obtain⟨n,g,rfl⟩:=t4.mp h
   obtain⟨y,r,rfl,c,e⟩:=b.cons_inv
   cases e.nil_inv
   exact⟨x,n,by rw[c.str_inv],d,g,q F H _ (.refl s) .int⟩
  .cases h
 .cases h
def zkL:wm
 | [.str x]=>if x.length<=100000 then some (.int (x.length:Int))else none
 | _=>none
def zd8:CaD (λa H Q=>∃ z,a=[.str z]/\z.length<=sizeLine/\Q (.int z.length) H) zkL:=by
 intro F H g f z Q s b h q
 unfold zkL at h
 split at h
 .rename_i x
  split at h <;> cases h
  rename_i i
  obtain⟨y,r,rfl,c,d⟩:=b.cons_inv
  cases d.nil_inv
  have e:100002<=sizeLine:=by rw[u0I];decide
  exact⟨x,by rw[c.str_inv],by omega,q F H _ (.refl s) .int⟩
 .cases h
def zqY:xz
 | .str x,.int i=>if x.length<=100000 then (L2.atI x.cps.toList i).map λc=>.str ⟨#[c]⟩else none
 | _,_=>none
def zml:OpD zrr zqY:=by
 intro F H x y d e z Q s f g a q
 unfold zqY at a
 split at a
 .rename_i w i
  split at a
  .rename_i j
   obtain⟨c,b,rfl⟩:=t4.mp a
   have h:100002<=sizeLine:=by rw[u0I];decide
   exact⟨w,i,c,f.str_inv,g.int_inv,by omega,b,q F H _ (.refl s) .str⟩
  .cases a
 .cases a
def zpt {f:zU}(e:ED X a f)(c:ED X b h)(d:Z9 b):ED X (.Subscript a b pos) (zh zqY f h) :=
 let ⟨_,pa,ra⟩:=e
 let ⟨_,pb,rb⟩:=c
 ⟨_,zku zlx pa pb d,zfD zml ra rb⟩
def zrs:xz
 | .str x,.str y=>some (.bl (!(Builtin.Str.occurrences y x 0 y.length 1).isEmpty))
 | _,_=>none
def zlZ:OpD (λx y H Q=>∃ i j,x=.str i/\y=.str j/\Q (.bl (!(Builtin.Str.occurrences j i 0 j.length 1).isEmpty)) H) zrs:=by
 intro F H x y d e z Q s b c a q
 unfold zrs at a
 split at a <;> cases a
 exact⟨_,_,b.str_inv,c.str_inv,q F H _ (.refl s) .bl⟩
def zpR:D->Option zm
 | .str x=>if x.cps.all (· < 128)=true then some (x.cps.toList.map λc=>.str ⟨#[c]⟩)else none
 | _=>none
def iTx (f:zU):yx:=fun ρ=>(f ρ).bind zpR
def zqq {f:zU}(C:ED X a f):ID X tg a (iTx f):=by
 obtain⟨t,p,r⟩:=C
 refine⟨_,zon p,fun σ ρ F H G R s u e q=>?_⟩
 obtain⟨d,m,g⟩:=u4.mp e
 refine r σ ρ F H d _ s u m λF1 H1 v A z=>?_
 unfold zpR at g
 split at g
 .rename_i x
  split at g <;> cases g
  rename_i l
  refine⟨x,z.str_inv,l,q F1 H1 _ A λi F2 H2 E o=>⟨λB=>?_,λd k=>?_⟩⟩
  .show x.cps.size<=i
   rw[u9,l9]at B
   omega
  .rw[k9]at k
   obtain⟨c,h,rfl⟩:=t4.mp k
   have j:i<x.cps.size:=by have:=(j3.mp h).1;rwa[l9]at this
   refine⟨j,λy H3 w=>?_⟩
   obtain⟨rfl,n,b,rfl⟩:=w
   have:n=c:=by
    rw[u1M]at h
    rw[h]at b
    exact(o4 b).symm
   subst this
   exact⟨F2,.refl o,.str⟩
 .cases g
end
end Dl
namespace Mz
open PySem Dl
abbrev Tie:=Int × Int
abbrev z0:=List Tie
def ltP (s t:Tie):Prop:=s.1<t.1\/(s.1=t.1/\s.2<t.2)
instance (s t:Tie):Decidable (ltP s t):=by unfold ltP;infer_instance
def zhq (h:ltP a b)(k:ltP b c):ltP a c:=by
 unfold ltP at *
 omega
def zd (t:Tie):D:=.tup [.int t.1,.int t.2]
def zgu {t:Tie}(h:zd s=zd t):s=t:=by
 unfold zd at h
 injection h with h
 injection h with h1 h2
 injection h2 with h2 _
 injection h1 with h1
 injection h2 with h2
 exact u2v h1 h2
def zI (b:Int)(a:z0):D:=.tup [.int b,.tup (a.map zd)]
structure xR (many:Int) (ties:z0):Prop where
 lo:1<=many
 hi:many<=8
 rng:∀ t∈ties,0<=t.1/\t.1<t.2/\t.2<many
 srt:ties.Pairwise ltP
def leP (s t:Tie):Bool:=if s.1=t.1 then (if s.2=t.2 then true else decide (s.2<=t.2))else decide (s.1<=t.1)
def zbe {t:Tie}:leP s t=false↔ltP t s:=by
 unfold leP ltP
 by_cases h:s.1=t.1
 .rw[t7 h]
  by_cases k:s.2=t.2
  .rw[t7 k];simp;omega
  .rw[j6 k,g9];omega
 .rw[j6 h,g9];omega
def Y6:D->Option Tie
 | .tup [.int a,.int b]=>some (a,b)
 | _=>none
def Yk (t:Tie):Y6 (zd t)=some t:=rfl
def W5 {d:D}{t:Tie}(h:Y6 d=some t):d=zd t:=by
 unfold Y6 at h
 split at h
 .cases h;rfl
 .cases h
def inR (m a:Int):Bool:=decide (0<=a)&&decide (a<=m-1)
def wN (m:Int)(d:D):Bool:=match Y6 d with
 | some t=>inR m t.1&&inR m t.2&&!decide (t.1=t.2)
 | none=>false
def zb7 (p:Option Tie)(t:Tie):Bool:=match p with
 | some q=>!leP t q
 | none=>true
def yW (m:Int):Option Tie->zm->Bool
 | _,[]=>true
 | p,d::r=>match Y6 d with
  | some t=>wN m d&&!decide (t.2<t.1)&&zb7 p t&&yW m (some t) r
  | none=>false
def YK (m:Int):D->Bool
 | .tup a=>yW m none a
 | _=>false
def wB:D->Bool
 | .tup [.int m,t]=>decide (1<=m)&&decide (m<=8)&&YK m t
 | _=>false
def Xp (m:Int):∀ (f:zm) (p:Option Tie),yW m p f=true↔∃ l:z0,f=l.map zd/\(∀ t∈l,0<=t.1/\t.1<t.2/\t.2<m)/\(∀ q,p=some q->∀ t∈l,ltP q t)/\l.Pairwise ltP:=by
 intro f
 induction f with
 | nil =>
  intro p
  refine⟨λ_=>⟨[],rfl,by simp,by simp,.nil⟩,λ_=>rfl⟩
 | cons d r w =>
  intro p
  unfold yW
  cases e:Y6 d with
  | none =>
   refine Iff.intro (λh=>nomatch h) (λz=>?_)
   obtain⟨l,h,_⟩:=z
   cases l with
   | nil=>cases h
   | cons t o =>
    rw[n0]at h
    injection h with j _
    rw[j,Yk]at e
    cases e
  | some t =>
   have x:=W5 e
   subst x
   simp only[wN,Yk,j0,u03,g9,inR,j9]
   rw[w (some t)]
   constructor
   .rintro⟨⟨⟨⟨⟨j,s⟩,A⟩,B⟩,y⟩,l,rfl,i,g,c⟩
    refine⟨t::l,rfl,?_,?_,u0u.mpr ⟨g t rfl,c⟩⟩
    .intro u a
     rcases q7.mp a with rfl | a
     .omega
     .exact i u a
    .rintro q rfl u a
     have b:ltP q t:=zbe.mp (by simpa [zb7]using y)
     rcases q7.mp a with rfl | a
     .exact b
     .exact zhq b (g t rfl u a)
   .rintro⟨l,h,i,g,c⟩
    cases l with
    | nil=>cases h
    | cons u o =>
     rw[n0]at h
     injection h with j s
     have a:=zgu j
     subst a
     have C:=i t (by simp)
     refine⟨⟨⟨⟨⟨by omega,by omega⟩,by omega⟩,by omega⟩,?_⟩,o,s,λv n=>i v (by simp[n]),λq k v n=>?_,(u0u.mp c).2⟩
     .cases p with
      | none=>rfl
      | some q =>
       have:=zbe.mpr (g q rfl t (by simp))
       simp[zb7,this]
     .cases k
      exact(u0u.mp c).1 v n
def xy (d:D):wB d=true↔∃ m a,d=zI m a/\xR m a:=by
 constructor
 .intro h
  unfold wB at h
  split at h
  .rename_i m t
   simp only[j0,j9]at h
   obtain⟨⟨e,g⟩,b⟩:=h
   unfold YK at b
   split at b
   .rename_i f
    obtain⟨l,rfl,i,_,c⟩:=(Xp m f none).mp b
    exact⟨m,l,rfl,e,g,i,c⟩
   .cases b
  .cases h
 .rintro⟨m,a,rfl,w⟩
  unfold zI wB YK
  simp only[j0,j9]
  exact⟨⟨w.lo,w.hi⟩,(Xp m _ none).mpr ⟨a,rfl,w.rng,by simp,w.srt⟩⟩
def zl1 {d:D}(h:∀ m a,d=zI m a->¬ xR m a):wB d=false:=by
 cases e:wB d with
 | false=>rfl
 | true =>
  obtain⟨m,a,rfl,w⟩:=(xy d).mp e
  exact absurd w (h m a rfl)
end Mz
namespace Mz
open Dl
def zrF (c k:Int):Int :=
 let a:=(c%2147483647+977*k+1)*48271%2147483647
 let b:=a*a%2147483629
 (b+40692*(k+3))*69621%2147483647/8
def adj (c:z0)(a b:Int):Prop:=(a,b)∈c\/(b,a)∈c
inductive zkX (ts:z0) (p:Int):Nat->Int->Prop
 | zero:zkX ts p 0 p
 | step {k:Nat} {a b:Int}:zkX ts p k a->adj ts a b->zkX ts p (k+1) b
def zrq {P:Nat->Prop}:∀ k,P k->∃ j,P j/\∀ i,P i->j<=i:=by
 intro k
 induction k using Nat.strongRecOn with
 | _ k b =>
  intro h
  by_cases c:∃ i,i<k/\P i
  .obtain⟨i,a,d⟩:=c
   exact b i a d
  .exact⟨k,h,λi a=>u0E λz=>c ⟨i,z,a⟩⟩
def Within (a:z0)(p:Int)(k:Nat)(v:Int):Prop:=∃ j,j<=k/\zkX a p j v
def zlT {n:Nat}{i:Int}(h0:0<=i)(a:i<n):L2.ixN n i=some i.toNat:=by
 unfold L2.ixN
 rw[t7 h0,t7 a]
def zoP {α:Type}{a:List α}{i:Int}{x:α}(h0:0<=i)(h:a[i.toNat]?=some x):L2.atI a i=some x:=by
 have:=(j3.mp h).1
 unfold L2.atI
 rw[zlT h0 (by omega)]
 exact h
def zp8 {i:Nat}{b:zU}{ρ:SE}{a:zm}{d:D}{k:Int}(e:vEv m c ρ=some d)(g:b (visG ρ)=some (.int k))(h:ρ[i]?=some (.o a))(f:0<=k)(n:k<a.length) :
 W4 m i b c ρ=.nx (ρ.set i (.o (a.set k.toNat d))):=by
 unfold W4
 rw[e,g,h]
 show(match ((L2.ixN a.length k).map λj=>ρ.set i (Sl.o (a.set j d)))with | some l=>Ctl.nx l | none=>Ctl.no)=_
 rw[zlT f n]
 rfl
def zin:∀ {ns:zC} {k:Nat} {x:Int} (h:k<ns.length),(ns.set k x).sum=ns.sum-ns[k]+x
 | [],_,_,h=>by simp at h
 | n::ns,0,x,_=>by simp;omega
 | n::ns,k+1,x,h=>by
  have:=zin (ns:=ns) (k:=k) (x:=x) (by simpa using h)
  simp only[List.set_cons_succ,List.sum_cons,List.getElem_cons_succ,this]
  omega
def Z6 (a:z0):(zhZ a).Perm a:=List.mergeSort_perm _ _
def zce {d:z0}(h:d.Nodup):(zhZ d).Pairwise ltP:=by
 have f:(zhZ d).Pairwise λa b=>zqr a b=true:=List.pairwise_mergeSort (λa b c f g=>by rw[XY]at *;omega) (λa b=>by rw[u0Z,XY,XY];omega) _
 have g:(zhZ d).Nodup:=(Z6 d).nodup_iff.mpr h
 refine(f.and g).imp λ{a b} hh=>?_
 obtain⟨x,y⟩:=hh
 rw[XY]at x
 unfold ltP
 rcases x with x | x
 .exact .inl x
 .refine .inr ⟨x.1,?_⟩
  have:a.2≠b.2:=λe=>y (u2v x.1 e)
  omega
def zpw {i:Nat}{c:zU}{ρ:SE}{n:Z4}(a:zm)(d:D)(k:Int)(h:vEv m e ρ=some d)(l:c (visG ρ)=some (.int k))(f:ρ[i]?=some (.o a))(j:0<=k)(g:k<a.length)(q:n (ρ.set i (.o (a.set k.toNat d)))) :
 (W4 m i c e ρ).w n b o r:=zcx (zp8 h l f j g) q
def zaC {α:Type}(a:List α)(b c:yG):(Y1 a b c).length<=a.length:=by
 unfold Y1
 rw[u0v,u1b]
 omega
def ZS {a b:zm}(h:a.length+b.length<=1000):yK (.lst a) (.lst b)=some (.lst (a++b)):=by
 show(if lim (a.length+b.length)=true then _ else none)=_
 rw[t7 (vc h)]
def zlO:∀ {ns:zC},(∀ x∈ns,0<=x)->0<=ns.sum
 | [],_=>by simp
 | n::ns,h=>by
  have:=zlO (ns:=ns) λx a=>h x (r4 _ a)
  have:=h n f8
  rw[List.sum_cons]
  omega
def WS {f:zU}{ρ:SE}{d:D}(h:vEv m f ρ=some d)(a:ρ.set i (.v d)=ρ':=by rfl):xD m i f ρ=.nx ρ':=by
 unfold xD
 rw[h,<- a]
def xo {f:zU}{d:D}(h:f (visG ρ)=some d):vx f ρ=.nx ρ:=by
 unfold vx
 rw[h]
def yd {f:zU}{d:D}(h:f (visG ρ)=some d):yr f ρ=.rt d:=by
 unfold yr
 rw[h]
def xV:neD (.int a) (.int b)=some (.bl (!decide (a=b))):=rfl
def zez {a m x:Int}(h:0<m)(b:a%m=x):0<=x/\x<m:=by
 subst b
 exact⟨u22 _ (by omega),u2r _ h⟩
def yL:x9 (.int a) (.int b)=some (.bl (decide (a=b))):=rfl
def wa:x9 (.bl a) (.bl b)=some (.bl (decide (a=b))):=rfl
def yj:x9 (.str a) (.str b)=some (.bl (decide (a=b))):=rfl
def xg:yK (.int a) (.int b)=some (.int (a+b)):=rfl
def zeo {a b:zm}(h:a.length+b.length<=1000):yK (.tup a) (.tup b)=some (.tup (a++b)):=by
 show(if lim (a.length+b.length)=true then some (D.tup (a++b))else none)=_
 rw[t7 (vc h)]
def zbl {α:Type}(a:List α)(k:Nat):Y1 a none (some (k:Int))=a.take k:=by
 unfold Y1
 rw[HT.sIx_none,u3b,Nat.sub_zero,HT.sIx_nat]
 by_cases h:k<=a.length
 .rw[u1t h]
 .rw[u2T (by omega),u1z (t6 _),u1z (by omega)]
def ziw {α:Type}(a:List α)(k:Nat):Y1 a (some (k:Int)) none=a.drop k:=by
 unfold Y1
 rw[HT.sIx_none,HT.sIx_nat]
 by_cases h:k<=a.length
 .rw[u1t h,u1z (by rw[u1b];omega)]
 .rw[u2T (by omega),Nat.sub_self,List.take_zero,List.drop_of_length_le (by omega)]
section
variable {ρ:Ev}{f g h:zU}{a:yx}{t u:vr}{d e x y z:D}{ds es:zm}{b c:Bool}
def zJ:zj ρ=some []:=rfl
def zf (c:f ρ=some d)(b:a ρ=some ds):za f a ρ=some (d::ds):=by unfold za;rw[c,b];rfl
def zq {n:Nat}{p:wm}(c:a ρ=some ds)(e:p ds=some d)(b:ds.length=n:=by rfl):zo n p a ρ=some d:=by
 unfold zo
 rw[c,j7,t7 b,e]
def zhf {n:Nat}{p:wm}{σ b:SE}(c:a (visF σ)=some ds)(e:p ds=some d)(g:ds.length=n:=by rfl)(f:σ.set i (.v d)=b:=by rfl):xD false i (zo n p a) σ=.nx b:=WS (show zo n p a (visF σ)=some d from zq c e g) f
def wg {f:zU}{σ:SE}(h:f (visF σ)=some d)(a:σ.set i (.v d)=σ':=by rfl):xD false i f σ=.nx σ':=WS (show f (visF σ)=some d from h) a
def zF {k:xz}(a:f ρ=some x)(b:g ρ=some y)(c:k x y=some z):zh k f g ρ=some z:=by unfold zh;rw[a,b];exact c
def zaU {k:D->Option D}(a:f ρ=some x)(b:k x=some z):eUn k f ρ=some z:=by unfold eUn;rw[a];exact b
def Yg (b:a ρ=some ds):xq a ρ=some (.lst ds):=by unfold xq;rw[b];rfl
def Xb {k:wm}(b:a ρ=some ds)(c:k ds=some d):eFn k a ρ=some d:=by unfold eFn;rw[b];exact c
def zk2 {k:zjX}(b:a ρ=some ds)(c:k ds=some es):fFn k a ρ=some es:=by unfold fFn;rw[b];exact c
def Z0 (c:a ρ=some ds)(b:ds.length<=1000):yi a ρ=some ds:=by unfold yi;rw[c,j7,t7 (vc b)]
def YD (c:a ρ=some ds)(b:ds.length<=1000):wW a ρ=some (.tup ds):=by unfold wW;rw[c,j7,t7 (vc b)]
def VB (b:f ρ=some d)(a:wk d=some ds):iOf f ρ=some ds:=by unfold iOf;rw[b];exact a
def zrh (b:t ρ=some c)(a:(if c=true then f ρ else g ρ)=some d):eIf t f g ρ=some d:=by unfold eIf;rw[b];exact a
def zpm (d:f ρ=some (.bl b))(a:g ρ=some (.bl c)):YR f g ρ=some (.bl (b&&c)):=by unfold YR;rw[d,a];cases b <;> rfl
def yS (a:f ρ=some (.bl b)):tOf f ρ=some b:=by unfold tOf;rw[a];rfl
def xT (a:t ρ=some b):yn t ρ=some (!b):=by unfold yn;rw[a];rfl
end
end Mz
namespace PySem
open Sem (wp)
def Runs.toks {p:Pos}{t:Sem Fin}{d:List Frame}{s c:zn}(h:Runs M Γ p t d s e c):s.toks<=c.toks:=by
 induction h with
 | done=>exact t6 _
 | raise=>exact t6 _
 | yield=>exact t6 _
 | fresh _ f=>exact r0 (u1g _) f
 | call _ _ b a=>exact r0 b a
 | resumeFresh _ _ _ _ b a=>exact r0 b a
 | resumeSuspended _ _ _ _ b a=>exact r0 b a
 | segRet _ _ b a=>exact r0 b a
 | segGen _ _ b a=>exact r0 b a
 | segSuspGen _ _ _ _ b a=>exact r0 b a
 | _=>assumption
def Wakes.toks {p:Pos}{g:Nat}{s b:zn}(h:Wakes M Γ p g r s res b):s.toks<=b.toks:=by
 unfold Wakes at h
 split at h
 .exact h.elim
 .split at h
  .obtain⟨e,c,a,_,_,rfl⟩:=h
   exact a.toks
  .rw[h.2];exact t6 _
  .rw[h.2];exact t6 _
 .obtain⟨e,c,a,_,_,rfl⟩:=h
  exact a.toks
 .rw[h.2];exact t6 _
 .rw[h.2];exact t6 _
def znV {α:Type}{n:Nat}{Q:α->Pos->Shared->Prop}{E:Value->Pos->Shared->Prop}:∀ (t:Sem α) (p:Pos) (s:zn),n<=s.toks->wp M Γ t Q E p s->wp M Γ t (λa l i=>n<=i.toks/\Q a l i) (λe l i=>n<=i.toks/\E e l i) p s:=by
 intro t
 induction t with
 | pure a=>exact λp s b h=>⟨b,h⟩
 | raise e=>exact λp s b h=>⟨b,h⟩
 | rule _ k d=>exact λp s b h=>d () p s b h
 | «at» l k d=>exact λp s b h=>d () l s b h
 | load a _ k d=>exact λp s b ⟨o,u,h⟩=>⟨o,u,d o p s b h⟩
 | update a _ f k d=>exact λp s b ⟨u,h⟩=>⟨u,d () p _ b h⟩
 | loadIfAlive a k d=>exact λp s b h=>d _ p s b h
 | point _ k d=>exact λp s b h=>d () p s b h
 | alloc o k d=>exact λp s b h=>d _ p _ b h
 | fresh k d=>exact λp s b h=>d _ p _ (Nat.le_succ_of_le b) h
 | ask k d=>exact λp s b h=>d _ p s b h
 | choose w m k d=>exact λp s b ⟨h0,h⟩=>⟨h0,d _ p _ b h⟩
 | os q _ k d=>exact λp s b h=>d _ p _ b h
 | call c x _ _ k d=>exact λp s b ⟨r,i,j,h⟩=>⟨r,i,j,d r p i (r0 b (Runs.toks j)) h⟩
 | handled own k d=>exact λp s b h=>d _ p s b h
 | genState g k d=>exact λp s b ⟨v,h0,h⟩=>⟨v,h0,d _ p s b h⟩
 | newGen c k d=>exact λp s b h=>d _ p _ b h
 | resume g r _ k d=>exact λp s b ⟨res,i,j,h⟩=>⟨res,i,j,d _ p i (r0 b (Wakes.toks j)) h⟩
 | _=>first | exact λp s b h=>h.elim | exact λp s b h=>by simp only[wp]at h ⊢;simp_all
def zje {α:Type}{t:Sem α}{Q:α->Shared->Prop}{E:yU}{s:zn}(h:wpAny M A t (λv a=>s.toks<=a.toks->Q v a) (λe a=>s.toks<=a.toks->E e a) s):wpAny M A t Q E s:=fun Γ p b =>
 Sem.wp_mono M Γ t (λ_ _ _ z=>z.2 z.1) (λ_ _ _ z=>z.2 z.1) p s (znV t p s (t6 _) (h Γ p b))
def V5 {α:Type}{t:Sem α}{Q:α->Shared->Prop}{E:yU}{s:zn}(c:0<s.toks)(h:wpAny M A t (λv a=>0<a.toks->Q v a) (λe a=>0<a.toks->E e a) s):wpAny M A t Q E s :=
 zje (g6 h (λ_ _ z b=>z (q5 c b)) λ_ _ z b=>z (q5 c b))
end PySem
namespace PySem
section
variable {M:Model}{A:zR}{E:yU}{r s:zn}{m cm:wn}{env:Env}
def zpd {Q:Unit->Shared->Prop}(x:InCallC r env.locals m env.cells cm s)(p:env.scope.kind=.function)(l:env.kindOf n=some .local)(q:∀ t,InCallC r env.locals (λy=>if y=n then some v else m y) env.cells cm t->0<t.toks->Q () t):wpAny M A (storeName env n v) Q E s:=by
 have j:(env.scope.kind == .class||(env.scope.kind == .module&&env.locals != env.globals))=false:=by rw[p];rfl
 refine wpAny_storeName_local l x.toInCall.ns (λg f d=>?_) j
 refine q _ ?_ (Nat.succ_pos _)
 have h:∀ b o,r.heap.get? b=some o->b≠env.locals:=λb o e=>k6 (q5 (q4 e) x.toInCall.fresh)
 have i:∀ k c,env.cells.lookup k=some c->c≠env.locals:=λk c a=>u0O (x.above k c (mem_of_lookup a))
 obtain⟨w,u,rfl⟩:=x.toInCall.same
 exact { toInCall:={ same:=⟨g,_,rfl⟩,ns:=f,keep:=λb o e=>d.extBut b o (h b o e) (x.toInCall.keep b o e),fresh:=x.toInCall.fresh },cell:=λk c a=>(x.cell k c a).sameBut d (i k c a),apart:=x.apart,above:=x.above }
end
section
variable {M:Model}{A:zR}{E:yU}{s:zn}
def zid {sc:Scope}{g d:Addr}{f:Str}{k:Value}{Q:Env->Shared->Prop}(r:sc.kind=.function)(p:sc.names.lookup x=some .local)(F:∀ y∈j,sc.names.lookup y.1=some .local\/(sc.names.lookup y.1=some .cell/\((cellsFrom (s.heap.objs.size+1) sc.names []).lookup y.1).isSome=true))(q:∀ e,e=newEnv sc s.heap.objs.size g (cellsFrom (s.heap.objs.size+1) sc.names []) f h k none d->∀ t,InCallC s e.locals (bindL e.kindOf ((x,v)::j) λ_=>none) e.cells (bindC e.kindOf ((x,v)::j) λ_=>none) t->0<t.toks->Q e t) :
 wpAny M A (newFunctionEnv sc g [] ((x,v)::j) f h k none d) Q E s:=by
 simp only[newFunctionEnv,Option.isSome_none,u1n,u2B]
 refine u5 (wpAny_alloc (u5 (wpAny_layCells _ (λa b c=>by cases z:b == NameKind.cell <;> simp[z]) _ _ _ _ ?_)))
 have l:=cellsFrom_ok sc.names (s.heap.push { cls:=.type "frame",data:=.dict #[] }) (s.heap.objs.size+1) [] ⟨λ_ _ z=>(nomatch z),.nil⟩ (Nat.le_of_eq (p6 ..).symm)
 rw[p6]at l
 rw[show({ s with heap:=s.heap.push { cls:=.type "frame",data:=.dict #[] } }:zn).heap.objs.size=s.heap.objs.size+1 from p6 ..]
 rw[u1o]
 have w:InCallC s s.heap.objs.size (λ_=>none) (cellsFrom (s.heap.objs.size+1) sc.names []) (λ_=>none) { s with heap:=pushCells (s.heap.push { cls:=.type "frame",data:=.dict #[] }) sc.names } :=
  { toInCall:={ same:=⟨_,_,rfl⟩,ns:=(Heap.Ns.new s.heap (.type "frame")).keeps (pushCells_keeps _ _),keep:=λb o e=>pushCells_keeps _ _ b o (u6 _ e),fresh:=t6 _ },cell:=λn c z=>(l.empty n c (mem_of_lookup z)).1,apart:=l.apart,above:=λn c z=>(l.empty n c z).2 }
 refine u5 (u5 (u5 (zpd (env:=newEnv sc s.heap.objs.size g (cellsFrom (s.heap.objs.size+1) sc.names []) f h k none d) w r p λt C u=>t5 ?_)))
 refine V5 u ?_
 refine wpAny_bindParams (s₀:=s) (env:=newEnv sc s.heap.objs.size g (cellsFrom (s.heap.objs.size+1) sc.names []) f h k none d) _ (λ_ _ _=>rfl) r j _ _ _ _ C F λB D m=>t5 (q _ rfl B ?_ m)
 unfold bindL bindC
 have i:=(show(newEnv sc s.heap.objs.size g (cellsFrom (s.heap.objs.size+1) sc.names []) f h k none d).kindOf x=some .local from p)
 rw[t7 i,t7 i]
 exact D
end
end PySem
namespace L2
open PySem PySem.Spec PyProof.Rows
structure zkU (P:zP) (w:World) (K:zv) (mg:wn) (base:Heap) (CX:CXT) (k:Nat) (f:Addr) (fd:wh) (ps:zH) (sp:Sp):Prop where
 len:∀ vs H Q E,sp vs H Q E->vs.length=ps.length
 run:∀ (A:zR) (outer:List Env) (s:zn) (H:Hp) (args:Args) (us:zB) (vs:zx) (Q:VK) (E:XK),xk k A->zkC P w K mg base A outer s H->BindsTo s fd args (ps.zip us)->yw vs us->sp vs H Q E ->
  codeAny (model P w) A (.call (.ref f) args) (λr s'=>CR CX outer P w H s Q E r s'/\0<s'.toks) s
def znW {w:World}{K:zv}{g:Heap}{k:Nat}{f:Addr}{a:Scope}{kV d:Value}{N:zH}{Y:Sp}(lk:K.lookup f=some ⟨oc,od,.func (PySem.W.fnOf l c h i a dV kV M pm an d ct),U⟩)(X:PySem.W.codeIn K d c=true)(S:yz N (L::C) a)(h0:a.names.lookup L=some .local)(D:∀ j H Q E,Y j H Q E->j.length=(L::C).length) (p:∀ (A:zR) (outer:List Env) (s:zn) (H:Hp) (j:zx) (Q:VK) (E:XK),xk k (A.deeper (envOfC c a s.heap.objs.size f d))->Y j H Q E ->
 ∃ t,PSs (wZ CX P w K R g N c a f d A outer s H E) i t/\t { nx:=λ_ H'=>Q .non H',rt:=Q } (start N j) H) :
 zkU P w K R g CX (k+1) f (PySem.W.fnOf l c h i a dV kV M pm an d ct) (L::C) Y:=by
 refine⟨D,λA outer s H args us j Q E hr F hb r G=>?_⟩
 have hl:=D _ _ _ _ G
 have KX:K.In s.heap:=F.mod.kin.keeps λb o e=>(F.bs b o e).1
 have lim:s.heap.NoLimit:=F.mod.nolimit.keeps λb o e=>(F.bs b o e).1
 have m:∀ y∈(L::C).zip us,a.names.lookup y.1=some .local\/(a.names.lookup y.1=some .cell/\((cellsFrom (s.heap.objs.size+1) a.names []).lookup y.1).isSome=true):=λ⟨n,v⟩ Z=>by
  rcases S.par n (u1r Z).1 with q | q
  .exact .inl q
  .exact .inr ⟨q,u0X _ _ _ (.inl q)⟩
 have hu:us.length=C.length+1:=by rw[<-r.length];exact hl
 cases us with
 | nil=>cases hu
 | cons u0 ur =>
  refine u1R hr.depth (KX _ _ lk) rfl S.co S.gen rfl (u2w KX X) (hb _ _ _ _ ?_)
  refine zid S.kind h0 (λy Z=>m y (.tail _ Z)) λenv he s1 x ht=>?_
  subst he
  refine⟨lim.keeps x.toInCall.keep,codeAny_func ?_⟩
  obtain⟨t,a0,hq⟩:=p A outer s H j Q E (hr.deeper _) G
  have I:Inv (wZ CX P w K R g N c a f d A outer s H E) [] (start N j) H s1:=Ww S hr.hd F hl r x
  refine V5 ht (g6 (a0 [] s1 (start N j) H _ I hq) (λfl s' B T=>?_) λe s' B T=>?_)
  .have fin:∀ {O:St} {H':Hp} {v:V} {u:Value},Inv (wZ CX P w K R g N c a f d A outer s H E) [] O H' s'->xi v u->Q v H'->CE outer P w H s Q u s' :=
    λ{O H' v u} J W q=>⟨v,H',J.os,J.bare,J.base,J.hok,W,q⟩
   cases fl with
   | ret u =>
    obtain⟨v,O,H',J,W,q⟩:=B
    exact⟨fin J W q,T⟩
   | next =>
    obtain⟨O,H',J,q⟩:=B
    exact⟨fin (v:=V.non) (u:=Value.none) J rfl q,T⟩
   | brk =>
    obtain⟨_,_,_,q⟩:=B
    exact False.elim q
   | cont =>
    obtain⟨_,_,_,q⟩:=B
    exact False.elim q
  .exact V5 T (g6 B (λ_ _ z k=>⟨z,k⟩) λ_ _ z k=>⟨z,k⟩)
section
variable {X:Cx}{CX:CXT}{k:Nat}{f:Addr}{fd:wh}{ps:zH}{sp:Sp}{E:XK}{x y z:Str}{p pos p1 p2 q1 q2:Pos}{j1 j2:Nat}{e:Expr}{es:y9}{t:TA}
def zkd {g:zx}(F:zkU X.prog X.w X.K X.mg X.base CX k f fd ps sp)(l:xk k X.A)(n:xG X.K fd ps [])(j:wK CX X E)(I:Inv X a σ H s)(r:yw g c)(h:sp g H Q E):wpAny (model X.prog X.w) X.A (call (.ref f) c) (λu d=>EP X a σ Q u d/\0<d.toks) X.xe s:=by
 have o:c.length=ps.length:=by rw[<-r.length];exact F.len _ _ _ _ h
 have hb2:=n s c I.kIn (by rw[r8];exact o)
 rw[r8]at hb2
 refine u1I (u1l (F.run X.A X.stack s H ⟨c,[]⟩ c g Q E l I.env0 hb2 r h) λr d b=>?_)
 obtain⟨b,i⟩:=b
 cases r with
 | error e=>exact j a σ H s e d I b
 | ok m =>
  cases m with
  | ret u=>exact⟨I.after b,i⟩
  | next=>exact False.elim b
  | brk=>exact False.elim b
  | cont=>exact False.elim b
def zqB (sp:Sp)(E:XK)(t:TA)(y z:Str):TE:=fun σ H Q=>t σ H λa H1=>sp a H1 (λv H2=>∃ x,v=.str x/\x.length<=1048576/\Q (.str (Txt.replace x y z)) H2) E
theorem zmu (F:zkU X.prog X.w X.K X.mg X.base CX k f fd ps sp)(u:xk k X.A)(o:Gl X x)(m:X.mg x=some (.ref f))(A:W.keepIn X.K (.ref f)=true)(L:xG X.K fd ps [])(n:wK CX X E)(K:PA X (e::es) t)
 (i:(y == z)=false) (w:z.length<=14) (l:(x == ("__debug__":Str))=false:=by decide) (J:starEach (e::es) X.env=(false,eval e X.env)::starEach es X.env:=by rfl) (j:(backTo p1 (starEach es X.env)).any (·.1)=false:=by rfl)
 (b:attributeBase (.Call (.Name x p) (e::es) [] p1) "replace" X.env (eval (.Call (.Name x p) (e::es) [] p1) X.env)=eval (.Call (.Name x p) (e::es) [] p1) X.env:=by rfl)
 (g:((backTo pos (starEach [.Constant (.str y) j1 q1,.Constant (.str z) j2 q2] X.env)).all (λx=>!x.1)&&(backToKw pos (keywordEach [] X.env)).all (λx=>x.1.isSome)
  && decide (([.Constant (.str y) j1 q1,.Constant (.str z) j2 q2]:y9).length+([]:List Keyword).length+(if ([]:List Keyword).isEmpty then 0 else 1) < 30))=true:=by rfl)
 (c:(p2.endLine == pos.line)=true:=by rfl) :
 PE X (.Call (.Attribute (.Call (.Name x p) (e::es) [] p1) "replace" p2) [.Constant (.str y) j1 q1,.Constant (.str z) j2 q2] [] pos) (zqB sp E t y z):=by
 intro d s σ H Q I h
 refine u1C b g c rfl ?_
 refine u0G (vC I o m ?_ l)
 refine u1w (h₀:=X.base) I.ok.mod.kin A (thn (K p1 d s σ H _ I h) λP R ⟨O,H1,I1,r,q⟩=>⟨I1.kIn,?_⟩) J j
 refine thn (zkd F u L n I1 r q) λv S M=>?_
 obtain⟨⟨U,H2,I2,C,a,rfl,N,G⟩,D⟩:=M
 obtain⟨V,rfl⟩:=C
 refine⟨"str","str.replace",u0n,PySem.F.slot_str_replace,PySem.F.type_str_replace,u2L _ _ _,(λ_ z=>by cases z),?_⟩
 refine u0W rfl (u1Y ?_)
 refine u2n (wpAny_Constant_str (k:=j1) (pos:=q1) (u2n (wpAny_Constant_str (k:=j2) (pos:=q2) (Calls.spliced_nil ?_))))
 refine SC.replaceW (u0O D) (Nat.succ_ne_zero _) (k6 (u1c _)) i N w λB T=>?_
 exact⟨.str _,H2,I2.tok _,⟨_,rfl⟩,G⟩
end
end L2
namespace Dl
open PySem L2
section
variable [KK]{X:Cx}{x y z:Str}{k m:Nat}{f:Addr}{fd:wh}{ps:zH}{p:wm}{e:Expr}{es:y9}{fa:yx}
def zmE (m:Nat)(p:wm)(f:yx)(y z:Str):zU:=fun ρ=>(zo m p f ρ).bind λd=>match d with
 | .str a=>if a.length<=100000 then some (.str (Txt.replace a y z))else none
 | _=>none
def znj {w:Pos} (F:zkU X.prog X.w X.K X.mg X.base CX0 k f fd ps (spD m p)) (U:xk k X.A) (O:Gl X x) (S:X.mg x=some (.ref f)) (P:W.keepIn X.K (.ref f)=true) (R:xG X.K fd ps []) (A:AD X (e::es) fa) (M:∀ {t:TA},PA X (e::es) t->PE X (.Call (.Attribute (.Call (.Name x B) (e::es) [] w) "replace" j) [.Constant (.str y) i o,.Constant (.str z) C u] [] b) (zqB (spD m p) (λ_ _ _=>False) t y z)) :
 ED X (.Call (.Attribute (.Call (.Name x B) (e::es) [] w) "replace" j) [.Constant (.str y) i o,.Constant (.str z) C u] [] b) (zmE m p fa y z):=by
 obtain⟨t,I,r⟩:=A
 refine⟨_,M I,fun σ ρ F0 H d Q s E e q=>?_⟩
 obtain⟨L,J,c⟩:=u4.mp e
 obtain⟨l,D,h⟩:=u4.mp J
 split at h <;> try cases h
 rename_i K
 cases L with
 | str a =>
  dsimp only at c
  split at c <;> cases c
  rename_i A
  refine r σ ρ F0 H l _ s E D λF1 H1 T n G=>?_
  refine⟨l,_,F1,K,n.fh,G,h,λF' H' v g N=>⟨a,N.str_inv,by omega,q F' H' _ (n.trans g) .str⟩⟩
 | _=>cases c
def zmt {w:World}{x:Str}{f:Addr}{fd:wh}{N:zH}{k:Nat}{g:zz}(Fu:Fun K x b j f fd)(S:yz N (x0::pr) (zk j))(h0:(zk j).names.lookup x0=some .local)(J:∀ (c:Value) (A:zR) (outer:List Env) (s:zn) (H:Hp) (E:XK),xk k (A.deeper (PyProof.Rows.envOfC b (zk j) s.heap.objs.size f c))->SDs (wZ CX0 P w K u i N b (zk j) f c A outer s H E).nox (ya j) g) :
 zkU P w K u i CX0 (k+1) f fd (x0::pr) (spD (x0::pr).length (fnD N.length g)):=by
 obtain⟨O,M,kV,B,T,U,c,ct,G,rfl,D,m⟩:=Fu.ex
 refine znW D m S h0 (λz H Q E h=>?_) λA outer s H z Q E C h=>?_
 .obtain⟨n,d,F,o,_,a,_⟩:=h
  rw[a.length];exact o
 .obtain⟨n,d,F,o,I,a,e,q⟩:=h
  obtain⟨t,p,r⟩:=(J c A outer s H E C).nox
  refine⟨t,p,r F H F H _ _ _ (X5 I a) ?_⟩
  unfold fnD at e
  cases l:g (n.map .v++List.replicate (N.length-n.length) .no) with
  | rt R=>rw[l]at e;cases e;exact λF' H' v g L=>q F' H' v g L
  | nx ρ=>rw[l]at e;cases e;exact λF' H' σ y=>q F' H' _ y.gr .non
  | bk ρ=>rw[l]at e;cases e
  | ct ρ=>rw[l]at e;cases e
  | no=>rw[l]at e;cases e
end
end Dl
namespace L2
open PySem PySem.Spec PyProof.Rows
def zkU.mono {P:zP}{w:World}{K:zv}{d:wn}{a:Heap}{CX:CXT}{j k:Nat}{f:Addr}{b:wh}{ps:zH}{c:Sp}(F:zkU P w K d a CX j f b ps c)(h:j<=k) :
 zkU P w K d a CX k f b ps c:=⟨F.len,λA outer s H args i e Q E g=>F.run A outer s H args i e Q E (g.mono h)⟩
def zgF {k:Str}:∀ {D:List (Str × KTD.Dat)},(∀ d,KTD.datumAt k D=some d->KTD.Opened h₀ P d)->(KTD.datumAt k D=none->a)->KTD.Each h₀ k P a D
 | [],_,g=>g rfl
 | (x,d)::D,h,g=>by
  show if decide (k=x)=true then KTD.Opened h₀ P d else KTD.Each h₀ k P a D
  by_cases e:k=x
  .rw[t7 (q0 e)]
   exact h d (by show(if decide (k=x)=true then some d else _)=_;rw[t7 (q0 e)])
  .have b:¬ (decide (k=x)=true):=by rw[t8 e];exact u7
   have c:KTD.datumAt k ((x,d)::D)=KTD.datumAt k D:=by
    show(if decide (k=x)=true then some d else KTD.datumAt k D)=_
    rw[j6 b]
   rw[j6 b]
   rw[c]at h g
   exact zgF h g
section
variable {X:Cx}{a:Addr}{D:List (Str × KTD.Dat)}{nm:Str}{e1 e2:Expr}{p p2 pos:Pos}{t:TA}
def zoF (D:List (Str × KTD.Dat))(t:TA):TE:=fun σ H Q=>t σ H λa H1=>∃ z y,a=[.str z,y]/\(∀ d,KTD.datumAt z D=some d->∃ i,d=.flat (.int i)/\Q (.int i) H1)/\(KTD.datumAt z D=none->Q y H1)
theorem zat (T:∀ h:Heap,X.K.In h->KTD.TextTab h a D) (o:Gl X nm) (l:X.mg nm=some (.ref a)) (B:PA X [e1,e2] t) (j:(nm == ("__debug__":Str))=false:=by decide)
 (c:attributeBase (.Name nm p) "get" X.env (eval (.Name nm p) X.env)=eval (.Name nm p) X.env:=by rfl)
 (g:((backTo pos (starEach [e1,e2] X.env)).all (λx=>!x.1)&&(backToKw pos (keywordEach [] X.env)).all (λx=>x.1.isSome)
  && decide (([e1,e2]:y9).length+([]:List Keyword).length+(if ([]:List Keyword).isEmpty then 0 else 1) < 30))=true:=by rfl)
 (e:(p2.endLine == pos.line)=true:=by rfl) (w:starEach [e1,e2] X.env=(false,eval e1 X.env)::starEach [e2] X.env:=by rfl) (b:(backTo pos (starEach [e2] X.env)).any (·.1)=false:=by rfl) :
 PE X (.Call (.Attribute (.Name nm p) "get" p2) [e1,e2] [] pos) (zoF D t):=by
 intro f s σ H Q I h
 refine u1C c g e rfl (vC I o l ?_ j)
 have T0:KTD.Here X.base s.heap a D:=⟨T _ I.mod.kin,I.bk⟩
 refine⟨"dict","dict.get",PySem.F.plainAttrs_dict,PySem.F.slot_dict_get,PySem.F.type_dict_get,T0.typeIs,T0.noDict,?_⟩
 have k:=B pos f s σ H _ I h
 rw[w]at k ⊢
 refine u0W (by show(false||(backTo pos (starEach [e2] X.env)).any (·.1))=false;rw[b] <;> rfl) (u1Y ?_)
 refine thn k λG J hh9=>?_
 obtain⟨F,H2,I2,n,z,y,C,A,m⟩:=hh9
 subst C
 obtain⟨u,v,rfl,⟨K,rfl⟩,r⟩:=n.two
 refine KTD.get2_text (h₀:=X.base) ⟨T _ I.mod.kin,I2.bk⟩ (zgF (λd j=>?_) λE=>⟨y,H2,I2.tok _,r,m E⟩)
 obtain⟨i,rfl,q⟩:=A d j
 exact KTD.opened_int λt=>⟨.int i,H2,I2.tok _,⟨_,rfl⟩,q⟩
end
end L2
namespace Dl
open PySem L2 PySem.Spec PyProof.Rows
variable [KK]{X:Cx}{a:Addr}{nm:Str}{b e1 e2:Expr}{p p2 p3 pos:Pos}{f:zU}
abbrev zi7:=List (Str × Int)
def Zh (t:zi7):List (Str × KTD.Dat):=t.map λq=>(q.1,.flat (.int q.2))
def xW:zi7->Str->yG
 | [],_=>none
 | q::t,x=>if x=q.1 then some q.2 else xW t x
omit [KK] in
def YF (x:Str):∀ t:zi7,KTD.datumAt x (Zh t)=(xW t x).map λn=>KTD.Dat.flat (.int n)
 | []=>rfl
 | q::t=>by
  show(if decide (x=q.1)=true then some (KTD.Dat.flat (.int q.2))else KTD.datumAt x (Zh t))=(if x=q.1 then some q.2 else xW t x).map _
  by_cases h:x=q.1
  .rw[t7 (q0 h),t7 h];rfl
  .rw[j6 (by rw[t8 h];exact u7),j6 h,YF x t]
def zbY (t:zi7):D->Option D
 | .str x=>some (.bl (xW t x).isSome)
 | _=>none
def WW {t:zi7} (T:∀ h:Heap,X.K.In h->KTD.TextTab h a (Zh t)) (k:Gl X nm) (c:X.mg nm=some (.ref a)) (n:ED X b f) (o:behindInMarks .In (.Name nm p)=false:=by with_unfolding_all rfl) (m:(nm == ("__debug__":Str))=false:=by decide) :
 TD X (.Compare b [.In] [.Name nm p] pos) (tOf (eUn (zbY t) f)):=by
 obtain⟨u,l,r⟩:=n
 refine⟨_,zaB (zdB T) l (xc (v:=.ref a) k c rfl m) o,zkt fun σ ρ F H z Q s g e q=>?_⟩
 obtain⟨d,e1,e2⟩:=u4.mp e
 refine r σ ρ F H d _ s g e1 λF1 H1 v j i=>?_
 cases d with
 | str x =>
  cases e2
  cases i.str_inv
  refine⟨x,rfl,rfl,?_⟩
  rw[<-KTD.isSome_datumAt,YF,u1E]
  exact q F1 H1 _ j .bl
 | _=>cases e2
def ZW (t:zi7):wm
 | [.str x,d]=>match xW t x with
  | some i=>some (.int i)
  | none=>some d
 | _=>none
def zog (g:wm)(f:yx):zU:=fun ρ=>(f ρ).bind g
def YO {t:zi7}{f:yx}(T:∀ h:Heap,X.K.In h->KTD.TextTab h a (Zh t))(y:AD X [e1,e2] f)
 (A:∀ {u:TA},PA X [e1,e2] u->PE X (.Call (.Attribute (.Name nm p) "get" p2) [e1,e2] [] pos) (zoF (Zh t) u)):ED X (.Call (.Attribute (.Name nm p) "get" p2) [e1,e2] [] pos) (zog (ZW t) f):=by
 obtain⟨u,B,o⟩:=y
 refine⟨_,A B,fun σ ρ F H z Q s v e q=>?_⟩
 obtain⟨r,n,b⟩:=u4.mp e
 refine o σ ρ F H r _ s v n λF1 H1 C k c=>?_
 unfold ZW at b
 split at b
 .rename_i x d
  obtain⟨J,I,rfl,b1,c⟩:=c.cons_inv
  obtain⟨w,E,rfl,b2,c⟩:=c.cons_inv
  cases c.nil_inv
  cases b1.str_inv
  refine⟨x,w,rfl,λG j=>?_,λl=>?_⟩
  .rw[YF]at j
   obtain⟨i,m,rfl⟩:=t4.mp j
   rw[m]at b
   cases b
   exact⟨i,rfl,q F1 H1 _ k .int⟩
  .rw[YF]at l
   have g:xW t x=none:=Option.map_eq_none_iff.mp l
   rw[g]at b
   cases b
   exact q F1 H1 _ k b2
 .cases b
end Dl
namespace Dl
open PySem L2 PySem.Spec PyProof.Rows
section
variable [KK]{X:Cx}{a o e:Expr}{es:y9}{p apos pos:Pos}{f:zU}{fa:yx}{m:Str}
structure DkC (K:zv) (C:Addr):Prop where
 cl:Cls K C
 nW:Yh K C "web"
 nH:Yh K C "heap"
 nP:Yh K C "past"
def znD:D->Option D
 | .obj w _ _=>some w
 | _=>none
def znL:D->Option D
 | .obj _ h _=>some h
 | _=>none
def zrD:D->Option D
 | .obj _ _ a=>some (.lst a)
 | _=>none
def zcs (c:DkC X.K KK.dk) (h:ED X a f) (o:attributeBase a "web" X.env (eval a X.env)=eval a X.env:=by rfl):ED X (.Attribute a "web" pos) (eUn znD f):=by
 obtain⟨t,p,r⟩:=h
 refine⟨_,zbT p o,fun σ ρ F H z Q s k e q=>?_⟩
 obtain⟨d,i,g⟩:=u4.mp e
 refine r σ ρ F H d _ s k i λF1 H1 v b n=>?_
 cases d with
 | obj w h x =>
  cases g
  obtain⟨p,j,E,l,C,B,rfl,u,D,m,A,y⟩:=n.obj_inv
  exact⟨p,_,j,_,l,rfl,b.fh _ _ u,c.cl,c.nW,rfl,q F1 H1 _ b m⟩
 | _=>cases g
def Wy (c:DkC X.K KK.dk) (h:ED X a f) (o:attributeBase a "heap" X.env (eval a X.env)=eval a X.env:=by rfl):ED X (.Attribute a "heap" pos) (eUn znL f):=by
 obtain⟨t,p,r⟩:=h
 refine⟨_,zbT p o,fun σ ρ F H z Q s m e q=>?_⟩
 obtain⟨d,i,g⟩:=u4.mp e
 refine r σ ρ F H d _ s m i λF1 H1 v b n=>?_
 cases d with
 | obj w h x =>
  cases g
  obtain⟨p,l,E,B,k,A,rfl,u,D,C,j,y⟩:=n.obj_inv
  exact⟨p,_,l,_,k,rfl,b.fh _ _ u,c.cl,c.nH,rfl,q F1 H1 _ b j⟩
 | _=>cases g
def zhw (c:DkC X.K KK.dk) (h:ED X a f) (u:attributeBase a "past" X.env (eval a X.env)=eval a X.env:=by rfl):ED X (.Attribute a "past" pos) (eUn zrD f):=by
 obtain⟨t,p,r⟩:=h
 refine⟨_,zbT p u,fun σ ρ F H z Q s l e q=>?_⟩
 obtain⟨d,j,g⟩:=u4.mp e
 refine r σ ρ F H d _ s l j λF1 H1 v b m=>?_
 cases d with
 | obj w h y =>
  cases g
  obtain⟨p,k,o,D,C,B,rfl,x,n,E,A,i⟩:=m.obj_inv
  exact⟨p,_,k,_,.ref o,rfl,b.fh _ _ x,c.cl,c.nP,rfl,q F1 H1 _ b (At.lst n i)⟩
 | _=>cases g
def zfz (n:Nat)(p:wm)(c:zU)(fa:yx):zU:=fun ρ=>(c ρ).bind λd=>match d with
 | .obj w h b=>(fa ρ).bind λa=>if a.length+1=n then p (.obj w h b::a)else none
 | _=>none
def ziZ (n:Nat)(r:ziQ)(c:zU)(fa:yx):zaV:=fun ρ=>(c ρ).bind λd=>match d with
 | .obj w h b=>(fa ρ).bind λa=>if a.length+1=n then r (.obj w h b::a)else none
 | _=>none
variable {k n:Nat}{g:Addr}{fd:wh}{ps:zH}{q:wm}{r:ziQ}
theorem VN {pl:Sem Bool}(c:Cls X.K KK.dk)(D:zfx X.K KK.dk m g)(F:xB X.prog X.w X.K X.mg X.base CX0 k g fd ps (spD n q))(I:xk k X.A)(U:xG X.K fd ps [])(W:ED X o f)(R:AD X (e::es) fa)
 (Z:∀ x u q,(Wc x u q).lookup m=none:=by intros;rfl)
 (l:starEach (e::es) X.env=(false,eval e X.env)::starEach es X.env:=by rfl) (j:(backTo pos (starEach es X.env)).any (·.1)=false:=by rfl)
 (E:eval (.Call (.Attribute o m apos) (e::es) [] pos) X.env=(do
  let ov<-eval o X.env
  standAt apos.atName
  let (f,first)<-holding [ov] (getMethod ov m pl)
  callWith pos f first (backTo pos (starEach (e::es) X.env)) (backToKw pos (keywordEach [] X.env))):=by rfl) :
 ED X (.Call (.Attribute o m apos) (e::es) [] pos) (zfz n q f fa):=by
 obtain⟨to,M,S⟩:=W
 obtain⟨t,O,K⟩:=R
 refine⟨_,V8 (pl:=pl) M c D F I U .nil zaG O l j E,fun σ ρ F0 H d Q s y e h=>?_⟩
 obtain⟨C,G,B⟩:=u4.mp e
 refine S σ ρ F0 H C _ s y G λF1 H1 v a A=>?_
 cases C with
 | obj w J b =>
  obtain⟨z,T,r⟩:=u4.mp B
  split at r <;> try cases r
  rename_i V
  obtain⟨p,N,q',x,u,xs,rfl,P,hq,aw,ah,al⟩:=A.obj_inv
  refine⟨p,N,_,rfl,a.fh _ _ P,Z _ _ _,?_⟩
  refine K σ ρ F1 H1 z _ a.fh (y.mono a.ff) T λF2 H2 vs i L=>?_
  exact⟨.obj w J b::z,d,F2,V,i.fh,by rw[r8];exact .cons (A.mono i.ff) L,r,λF' H' v g Y=>h F' H' v ((a.trans i).trans g) Y⟩
 | _=>cases B
def zo4 {pl:Sem Bool}(c:Cls X.K KK.dk)(I:zfx X.K KK.dk m g)(F:xB X.prog X.w X.K X.mg X.base (Air X.prog X.w) k g fd ps (spX u n r))(K:wK (Air X.prog X.w) X E)(M:xk k X.A)(Y:xG X.K fd ps [])(ho:ED X o f)(U:AD X (e::es) fa)(hn:∀ y x q,(Wc y x q).lookup m=none:=by intros;rfl)(i:starEach (e::es) X.env=(false,eval e X.env)::starEach es X.env:=by rfl)(h:(backTo pos (starEach es X.env)).any (·.1)=false:=by rfl) (J:eval (.Call (.Attribute o m apos) (e::es) [] pos) X.env=(do
 let ov<-eval o X.env
 standAt apos.atName
 let (f,first)<-holding [ov] (getMethod ov m pl)
 callWith pos f first (backTo pos (starEach (e::es) X.env)) (backToKw pos (keywordEach [] X.env))):=by rfl) :
 XE E u X (.Call (.Attribute o m apos) (e::es) [] pos) (ziZ n r f fa):=by
 obtain⟨to,R,V⟩:=ho
 obtain⟨t,pa,O⟩:=U
 refine⟨_,V8 (pl:=pl) R c I F M Y .nil K pa i h J,fun σ ρ F0 H j Q s z e w=>?_⟩
 obtain⟨D,L,C⟩:=u4.mp e
 refine V σ ρ F0 H D _ s z L λF1 H1 v a B=>?_
 cases D with
 | obj G N b =>
  obtain⟨A,W,l⟩:=u4.mp C
  split at l <;> try cases l
  rename_i Z
  obtain⟨p,S,q',y,x,xs,rfl,T,hq,aw,ah,al⟩:=B.obj_inv
  refine⟨p,S,_,rfl,a.fh _ _ T,hn _ _ _,?_⟩
  refine O σ ρ F1 H1 A _ a.fh (z.mono a.ff) W λF2 H2 vs d P=>?_
  exact⟨.obj G N b::A,j,F2,Z,d.fh,by rw[r8];exact .cons (B.mono d.ff) P,l,w.grow (a.trans d)⟩
 | _=>cases C
end
open Classical in
noncomputable def off (x q:Addr)(H:Hp):Hp:=λb=>if b=x\/b=q then none else H b
section
variable {x q:Addr}{F H F' H':Hp}
def VS (c:b≠x)(a:b≠q):off x q H b=H b:=by
 unfold off
 rw[j6 (λz=>z.elim c a)]
def vm (h:off x q H b=some o):b≠x/\b≠q/\H b=some o:=by
 unfold off at h
 split at h
 .cases h
 .rename_i a
  exact⟨λz=>a (.inl z),λz=>a (.inr z),h⟩
def zq5:off x q H x=none:=by
 unfold off
 rw[t7 (.inl rfl)]
def zra:off x q H q=none:=by
 unfold off
 rw[t7 (.inr rfl)]
def ZO:off x q (upd H x o)=off x q H:=by
 funext b
 unfold off
 split
 .rfl
 .rename_i a
  rw[zi λz=>a (.inl z)]
def zcf:off x q (upd H q o)=off x q H:=by
 funext b
 unfold off
 split
 .rfl
 .rename_i a
  rw[zi λz=>a (.inr z)]
def zX.offs (s:zX F H)(a:F x=none)(c:F q=none):zX F (off x q H):=λb o e=>by
 rw[VS (ze e a) (ze e c)]
 exact s b o e
def zX.on (s:zX F (off x q H)):zX F H:=λb o e=>(vm (s b o e)).2.2
def Gr.offs (g:Gr F H F' H')(a:F' x=none)(f:F' q=none):Gr F (off x q H) F' (off x q H'):=by
 refine⟨g.ff,zX.offs g.fh a f,λb o k c=>?_⟩
 obtain⟨j,e,h⟩:=vm c
 obtain⟨d,i⟩:=g.kp b o k h
 exact⟨d,by rw[VS j e];exact i⟩
end
structure VH [KK] (F H:Hp) (x dx q:Addr) (w h:D) (ps:zm):Prop where
 ex:∃ vw vh xs,H x=some (.ins KK.dk dx (Wc vw vh q))/\H q=some (.lst xs)/\At F w vw/\At F h vh/\AtL F ps xs
 fx:F x=none
 fq:F q=none
section
variable [KK]{Fb Hb F H F' H':Hp}{ρ:SE}{σ:L2.St}{x dx q:Addr}{w h w' h':D}{ps:zm}
def VH.grow (d:VH F H x dx q w h ps)(g:Gr F H F' H'):VH F' H' x dx q w h ps:=by
 obtain⟨i,c,m,e,j,l,f,k⟩:=d.ex
 have a:=g.kl (λ_ z=>by cases z) d.fx e
 have b:=g.kl (λ_ z=>by cases z) d.fq j
 exact⟨⟨i,c,m,a.2,b.2,l.mono g.ff,f.mono g.ff,k.mono g.ff⟩,a.1,b.1⟩
def VH.ne (d:VH F H x dx q w h ps):x≠q:=by
 obtain⟨e,c,f,a,b,_⟩:=d.ex
 exact ziV a b (λz=>by cases z)
def Rl.deed {i:Nat}(r:Rl Fb Hb F H ρ σ)(e:ρ[i]?=some (.k w h ⟨z,ps⟩))(ex:σ[i]?=some (some (.ref x)))(d:VH F H x dx q w h ps)(g:Gr F (off x q H) F' (off x q H'))(N:VH F' H' x dx q w' h' m) :
 Rl Fb Hb F' H' (ρ.set i (.k w' h' ⟨z,m⟩)) σ:=by
 obtain⟨vw,vh,xs,hx,hq,a1,a2,a3⟩:=d.ex
 obtain⟨G,I,S,E,P,b1,b2,b3⟩:=N.ex
 obtain⟨p,a4,q2,a5,a7,a6,f1,f2,W,f4,f5,f6,f7,X,f9⟩:=r.dk i w h _ e
 rw[ex]at f1
 cases f1
 rw[hx]at f2
 cases f2
 obtain⟨p3,o3,Z,e5,e6,e7,_⟩:=r.ows i _ e rfl
 rw[ex]at Z
 cases Z
 have hi:i<ρ.length:=(j3.mp e).1
 have k:∀ {j:Nat} {s:Sl},i=j->(ρ.set i (.k w' h' ⟨z,m⟩))[j]?=some s->s=.k w' h' ⟨z,m⟩:=λ{j s} c h=>by
  subst c
  rw[r6 hi]at h
  cases h
  rfl
 have f:∀ {j:Nat} {s:Sl},(ρ.set i (.k w' h' ⟨z,m⟩))[j]?=some s->s.isO=true->∃ Y,ρ[j]?=some Y/\Y.isO=true:=λ{j s} h n=>by
  by_cases c:i=j
  .subst c;exact⟨_,e,rfl⟩
  .rw[u8 c]at h;exact⟨s,h,n⟩
 have U:∀ {j:Nat} {s:Sl} {a:Addr},i≠j->ρ[j]?=some s->s.isO=true->σ[j]?=some (some (.ref a))->a≠x/\a≠q:=λ{j s a} hne L n J=>by
  refine⟨λz=>?_,λz=>?_⟩
  .subst z;exact hne (r.dis i j a _ s e L rfl n ex J)
  .subst z;exact f7 j s L n J
 refine⟨⟨r.gr.ff.trans g.ff,zX.on g.fh,λb o e1 Q=>?_⟩,λj d h=>?_,λj s h n=>?_,λj l a s t L J o1 o2 h3 h4=>?_,by simp[r.len],λj w2 J a0 h=>?_⟩
 .obtain⟨B,k2⟩:=r.gr.kp b o e1 Q
  rcases B with B | ⟨B,k3⟩
  .have O:b≠x:=ze Q e5
   have R:b≠q:=ze Q W
   obtain⟨A,C⟩:=g.kp b o B (by rw[VS O R];exact k2)
   exact⟨A,(vm C).2.2⟩
  .have y:=g.ff _ _ k3
   exact⟨.inr ⟨B,y⟩,zX.on g.fh _ _ y⟩
 .by_cases c:i=j
  .cases k c h
  .rw[u8 c]at h
   obtain⟨v,A,C⟩:=r.vals j d h
   exact⟨v,A,C.mono g.ff⟩
 .by_cases c:i=j
  .cases k c h
   subst c
   exact⟨x,_,ex,e5,N.fx,E,dx,G,I,q,rfl,b1,b2⟩
  .rw[u8 c]at h
   obtain⟨a,o,A,C,y3,y4,V⟩:=r.ows j s h n
   obtain⟨O,R⟩:=U c h n A
   obtain⟨u1,u2⟩:=g.kl V.ntup y3 (by rw[VS O R];exact y4)
   exact⟨a,o,A,C,u1,(vm u2).2.2,V.mono g.ff⟩
 .obtain⟨M,K,u⟩:=f L o1
  obtain⟨s2,g2,T⟩:=f J o2
  exact r.dis j l a M s2 K g2 u T h3 h4
 .have c:i=j:=by
   obtain⟨M,K,_⟩:=f h rfl
   by_cases c:i=j
   .exact c
   .rw[u8 c]at h
    exact(X j _ h rfl).symm
  cases k c h
  subst c
  refine⟨x,dx,q,G,I,S,ex,E,W,N.fq,P,b3,λj s h n=>?_,λj s h hk=>?_,f9⟩
  .obtain⟨M,K,u⟩:=f h n
   exact f7 j M K u
  .by_cases c:i=j
   .exact c.symm
   .rw[u8 c]at h
    exact X j s h hk
def Rl.desk {i:Nat}(r:Rl Fb Hb F H ρ σ)(e:ρ[i]?=some (.k w h ⟨z,ps⟩)):∃ x dx q,σ[i]?=some (some (.ref x))/\VH F H x dx q w h ps/\∀ a,z=some a->a=(x,dx,q):=by
 obtain⟨p,dx,q,k,g,B,c,d,K,v,A,m,I,C,s⟩:=r.dk i w h _ e
 obtain⟨J,D,b,G,t,f,o,y,u,E,l,n,j⟩:=r.ows i _ e rfl
 rw[c]at b
 cases b
 rw[d]at f
 cases f
 cases l
 exact⟨p,dx,q,c,⟨⟨k,g,B,d,A,n,j,m⟩,t,v⟩,s⟩
def zdz {N:zH}{c:zm}(s:zX F H)(d:VH F H x dx q w h ps)(a:AtL F c l):Rl F (off x q H) F H (.k w h ⟨some (x,dx,q),ps⟩::(c.map .v++List.replicate (N.length-(c.length+1)) .no)) (L2.start N (.ref x::l)):=by
 have B:=a.length
 obtain⟨A,v,K,n,R,Q,M,T⟩:=d.ex
 have E:(L2.start N (.ref x::l))[0]?=some (some (.ref x)):=rfl
 have b:∀ (i:Nat) (t:Sl),(c.map Sl.v++List.replicate (N.length-(c.length+1)) Sl.no)[i]?=some t->t.isO=true->False:=λi t h g=>by
  by_cases f:i<c.length
  .rw[o9 (by simpa using f),k9]at h
   cases e:c[i]? with
   | none=>rw[e]at h;cases h
   | some d=>rw[e]at h;cases h;cases g
  .rw[o7 (by simpa using f),u0f]at h
   split at h <;> cases h
   cases g
 refine⟨⟨zX.refl _,s,λp o G S=>⟨.inl G,(vm S).2.2⟩⟩,λi J h=>?_,λi t h g=>?_,λi j p t u r m O L X Y=>?_,?_,λi W m C h=>?_⟩
 .cases i with
  | zero=>cases h
  | succ i =>
   rw[p7]at h
   by_cases f:i<c.length
   .rw[o9 (by simpa using f),k9]at h
    cases e:c[i]? with
    | none=>rw[e]at h;cases h
    | some J =>
     rw[e]at h
     cases h
     obtain⟨y,P,U⟩:=a.get e
     refine⟨y,?_,U⟩
     unfold L2.start
     rw[n0,List.cons_append,p7,o9 (by simpa [B]using f),k9,P]
     rfl
   .rw[o7 (by simpa using f),u0f]at h
    split at h <;> cases h
 .cases i with
  | zero=>cases h;exact⟨x,_,rfl,zq5,d.fx,n,dx,A,v,q,rfl,Q,M⟩
  | succ i=>rw[p7]at h;exact(b i t h g).elim
 .cases i with
  | zero=>cases j with
   | zero=>rfl
   | succ j=>rw[p7]at m;exact(b j u m L).elim
  | succ i=>rw[p7]at r;exact(b i t r O).elim
 .unfold L2.start
  simp[B]
 .cases i with
  | zero =>
   cases h
   refine⟨x,dx,q,A,v,K,rfl,n,zra,d.fq,R,T,λj s h g=>?_,λj s h I=>?_,λ_ z=>by cases z;rfl⟩
   .cases j with
    | zero=>intro z;cases z;exact d.ne rfl
    | succ j=>rw[p7]at h;exact(b j s h g).elim
   .cases j with
    | zero=>rfl
    | succ j =>
     rw[p7]at h
     refine(b j s h ?_).elim
     cases s with
     | k _ _ _=>rfl
     | _=>cases I
  | succ i=>rw[p7]at h;exact(b i _ h rfl).elim
end
section
variable [KK]{X:Cx}{a b o e:Expr}{es:y9}{p apos pos pos' pos2:Pos}{f:zU}{fa:yx}{m:Str}
def zgX (i:Nat)(f:zU):zz:=fun ρ=>match vEv true f ρ,ρ[i]? with
 | some d,some (.k w h ⟨z,ps⟩)=>if decide (ps.length<sizeLine)=true then .nx (ρ.set i (.k w h ⟨z,ps++[d]⟩))else .no
 | _,_=>.no
def zm7 (c:DkC X.K KK.dk) (Q:PE X a (Y2 i)) (K:ED X e f) (O:∀ {u:TE} {t:TA},PE X (.Attribute a "past" apos) u->PA X [e] t->PE X (.Call (.Attribute (.Attribute a "past" apos) "append" p) [e] [] pos') (tBM X.K "list" zdb u t)) (M:attributeBase a "past" X.env (eval a X.env)=eval a X.env:=by rfl) (r:swapsWith (.Call (.Attribute (.Attribute a "past" apos) "append" p) [e] [] pos') none pos.line X.env=pure false:=by rfl) (G:starEach [e] X.env=(false,eval e X.env)::starEach [] X.env:=by rfl) :
 SD X (.Expr (.Call (.Attribute (.Attribute a "past" apos) "append" p) [e] [] pos') pos) (zgX i f):=by
 obtain⟨t,L,N⟩:=K
 refine⟨_,Zj (O (zbT Q M) (zu L yF G)) r,λFb Hb F H ρ σ E l k=>?_⟩
 unfold zgX at k
 split at k
 .rename_i d w h z S C y
  split at k
  .rename_i P
   obtain⟨x,I,q,ex,A,_⟩:=l.desk y
   obtain⟨V,T,D,B,J,W,U,Y⟩:=A.ex
   refine⟨_,ex,x,_,I,_,.ref q,rfl,B,c.cl,c.nP,rfl,.inl ⟨rfl,D,SqL.of J⟩,?_⟩
   refine N.at l C λF' H' v g R=>?_
   have b:=A.grow g
   obtain⟨n,s,j,m,o,b1,b2,b3⟩:=b.ex
   refine⟨q,j,v,rfl,rfl,o,by rw[b3.length];exact k8 P,?_⟩
   refine k F' _ σ ((l.grow g).deed y ex b (H':=upd H' q (.lst (j++[v]))) ?_ ⟨⟨n,s,_,?_,zl,b1,b2,b3.snoc R⟩,b.fx,b.fq⟩)
   .rw[zcf]
    exact .refl (zX.offs g.fh b.fx b.fq)
   .rw[zi b.ne]
    exact m
  .exact k.elim
 .exact k.elim
def sFW (i:Nat)(f:zU):zz:=fun ρ=>match vEv true f ρ,ρ[i]? with
 | some d,some (.k _ h ps)=>.nx (ρ.set i (.k d h ps))
 | _,_=>.no
def sFH (i:Nat)(f:zU):zz:=fun ρ=>match vEv true f ρ,ρ[i]? with
 | some d,some (.k w _ ps)=>.nx (ρ.set i (.k w d ps))
 | _,_=>.no
def zof (c:DkC X.K KK.dk) (I:PE X a (Y2 i)) (B:ED X e f) (u:swapsWith e (some (.Attribute a "web" pos')) pos.line X.env=pure false:=by rfl):SD X (.Assign [.Attribute a "web" pos'] e pos) (sFW i f):=by
 obtain⟨t,C,G⟩:=B
 refine⟨_,zbL I C u,λFb Hb F H ρ σ E j k=>?_⟩
 unfold sFW at k
 split at k
 .rename_i d w h l r o
  obtain⟨z,K⟩:=l
  refine G.at j r λF' H' v g J=>?_
  obtain⟨x,m,q,ex,b,_⟩:=(j.grow g).desk o
  obtain⟨L,n,s,p,A,M,y,D⟩:=b.ex
  refine⟨_,ex,x,_,m,_,rfl,p,c.cl,c.nW,by show 3<1000;decide,?_⟩
  refine k F' _ σ ((j.grow g).deed o ex b (H':=upd H' x (.ins KK.dk m (Wc v n q))) ?_ ⟨⟨v,n,s,zl,?_,J,y,D⟩,b.fx,b.fq⟩)
  .rw[ZO]
   exact .refl (zX.offs g.fh b.fx b.fq)
  .rw[zi (i7 b.ne)]
   exact A
 .exact k.elim
def zpr (c:DkC X.K KK.dk) (I:PE X a (Y2 i)) (B:ED X e f) (u:swapsWith e (some (.Attribute a "heap" pos')) pos.line X.env=pure false:=by rfl):SD X (.Assign [.Attribute a "heap" pos'] e pos) (sFH i f):=by
 obtain⟨t,C,G⟩:=B
 refine⟨_,zbL I C u,λFb Hb F H ρ σ E j k=>?_⟩
 unfold sFH at k
 split at k
 .rename_i d w h l r o
  obtain⟨z,K⟩:=l
  refine G.at j r λF' H' v g J=>?_
  obtain⟨x,m,q,ex,b,_⟩:=(j.grow g).desk o
  obtain⟨n,L,s,p,A,y,M,D⟩:=b.ex
  refine⟨_,ex,x,_,m,_,rfl,p,c.cl,c.nH,by show 3<1000;decide,?_⟩
  refine k F' _ σ ((j.grow g).deed o ex b (H':=upd H' x (.ins KK.dk m (Wc n v q))) ?_ ⟨⟨n,v,s,zl,?_,y,J,D⟩,b.fx,b.fq⟩)
  .rw[ZO]
   exact .refl (zX.offs g.fh b.fx b.fq)
  .rw[zi (i7 b.ne)]
   exact A
 .exact k.elim
def znU (i j:Nat):zz:=fun ρ=>match ρ[i]? with
 | some (.k w h ⟨z,ps⟩)=>(match ps.getLast? with
  | some d=>.nx ((ρ.set i (.k w h ⟨z,ps.dropLast⟩)).set j (.v d))
  | none=>.no)
 | _=>.no
def zmI {j:Nat} (c:DkC X.K KK.dk) (s:X.N.Nodup) (t:X.N[j]?=some x) (o:Loc X.env.scope x) (N:PE X a (Y2 i)) (K:attributeBase a "past" X.env (eval a X.env)=eval a X.env:=by rfl) (M:∀ {l:TE},PE X (.Attribute a "past" apos) l->PE X (.Call (.Attribute (.Attribute a "past" apos) "pop" p) [] [] pos2) (zrE X.K "list" znS l)) (v:swapsWith (.Call (.Attribute (.Attribute a "past" apos) "pop" p) [] [] pos2) (some (.Name x pos')) pos.line X.env=pure false:=by rfl) (O:X.fn x=true\/X.env.scope.names.lookup x=some .local:=by first | exact .inl rfl | exact .inr rfl | assumption):SD X (.Assign [.Name x pos'] (.Call (.Attribute (.Attribute a "past" apos) "pop" p) [] [] pos2) pos) (znU i j):=by
 refine⟨_,vK s t o (M (zbT N K)) v O,λFb Hb F H ρ σ E f k=>?_⟩
 unfold znU at k
 split at k
 .rename_i w h z P n
  split at k
  .rename_i d u
   obtain⟨es,rfl⟩:=u08.mp u
   rw[u0j]at k
   obtain⟨I,A,q,ex,b,_⟩:=f.desk n
   obtain⟨D,B,Q,e,m,G,C,J⟩:=b.ex
   obtain⟨g,y,rfl,r,L⟩:=J.unsnoc
   refine⟨_,ex,I,_,A,_,.ref q,rfl,e,c.cl,c.nP,rfl,.inl ⟨rfl,_,SqL.of m⟩,q,g,y,rfl,rfl,m,?_⟩
   refine k F _ _ ((f.deed n ex b (H':=upd H q (.lst g)) ?_ ⟨⟨D,B,g,?_,zl,G,C,r⟩,b.fx,b.fq⟩).set L)
   .rw[zcf]
    exact .refl (zX.offs f.gr.fh b.fx b.fq)
   .rw[zi b.ne]
    exact e
  .exact k.elim
 .exact k.elim
abbrev KF:=D->D->zm->zm->Option (D × D × zm)
abbrev KZ:=Option (Addr × Addr × Addr)->D->D->zm->zm->Option (D × D × Pst)
def zqN (n:Nat)(R:KZ)(j:D):Sp:=λi H Q _=>∃ x b q f F w h e c d g a,i=.ref x::f/\zX F H/\VH F H x b q w h e/\AtL F c f/\c.length+1=n/\R (some (x,b,q)) w h e c=some (d,g,⟨some (x,b,q),a⟩) /\
 ∀ F' H' v,Gr F (off x q H) F' (off x q H')->VH F' H' x b q d g a->At F' j v->Q v H'
def spK (n:Nat)(R:KF)(j:D):Sp:=λi H Q _=>∃ x f q e F w h d b c g a,i=.ref x::e/\zX F H/\VH F H x f q w h d/\AtL F b e/\b.length+1=n/\R w h d b=some (c,g,a) /\
 ∀ F' H' v,Gr F (off x q H) F' (off x q H')->VH F' H' x f q c g a->At F' j v->Q v H'
def zq0 {P:zP}{w:World}{K:zv}{j:wn}{b:Heap}{f:Addr}{g:wh}{ps:zH}{k n:Nat}{CX:CXT}{R:KZ}{R':KF}{i:D}(F:xB P w K j b CX k f g ps (zqN n R i))(h:∀ z w h ps d c e a,R' w h ps d=some (c,e,a)->R z w h ps d=some (c,e,⟨z,a⟩)):xB P w K j b CX k f g ps (spK n R' i) :=
 F.imp λA H Q E ⟨x,s,q,m,F',w,e,ps,d,c,p,a,o,t,u,l,r,v,y⟩=>⟨x,s,q,m,F',w,e,ps,d,c,p,a,o,t,u,l,r,h _ _ _ _ _ _ _ _ v,y⟩
def zm4 (n:Nat)(g:zz):KZ:=λz w h b a=>match g (.k w h ⟨z,b⟩::(a.map .v++List.replicate (n-(a.length+1)) .no)) with
 | .nx ρ=>(match (ρ:SE)[0]? with
  | some (Sl.k w' h' p')=>some (w',h',p')
  | _=>none)
 | _=>none
def SDk (X:Cx)(a:wU)(g:zz)(c:V):Prop:=∃ t,PSs X a t/\∀ (Fb Hb F H:Hp) (ρ:SE) (σ:L2.St) (E:Vp),Rl Fb Hb F H ρ σ->(match g ρ with
 | .nx d=>∀ F' H' b,Rl Fb Hb F' H' d b->E.rt c H'
 | _=>False)->t E σ H
def zl9:SDk X [.Return (some (.Constant (.str x) j pos')) pos] zD (.str x) :=
 ⟨_,wO (Y7 zO),λFb Hb F H ρ σ E a k=>k F H σ a⟩
def X0 {f:Stmt}{a:wU}{g:zz}(m:SD X f g)(n:SDk X a h c):SDk X (f::a) (zK g h) c:=by
 obtain⟨t,p,r⟩:=m
 obtain⟨u,o,l⟩:=n
 refine⟨_,xu p o,λFb Hb F H ρ σ E j k=>?_⟩
 refine r Fb Hb F H ρ σ { E with nx:=u E } j ?_
 unfold zK at k
 cases e:g ρ with
 | nx q =>
  rw[e]at k
  exact λF' H' i b=>l Fb Hb F' H' q i E b k
 | rt d=>rw[e]at k;exact k.elim
 | bk d=>rw[e]at k;exact k.elim
 | ct d=>rw[e]at k;exact k.elim
 | no=>rw[e]at k;exact k.elim
section
variable {P:zP}{w:World}{K:zv}{mg:wn}{base:Heap}{x qual:Str}{st:Stmt}{f:Addr}{fd:wh}{N ps:zH}{k:Nat}{g:zz}
def zlD {d:D}{a:zx}(h:zqN n R d a H Q E):a.length=n:=by
 obtain⟨x,g,q,k,F,w,p,ps,i,f,m,b,rfl,j,l,c,e,o,r⟩:=h
 rw[k7,c.length]
 exact e
def ziD {Fb Hb:Hp}{k:L2.St}{x g:Addr}{f:D}{a:zm}(c:Rl F (off x q H) F' H' h k)(e:h[0]?=some (.k f j ⟨some (x,g,q),a⟩)):Gr F (off x q H) F' (off x q H')/\VH F' H' x g q f j a:=by
 obtain⟨v,n,u,ex,d,p⟩:=c.desk e
 cases p _ rfl
 refine⟨⟨c.gr.ff,zX.offs c.gr.fh d.fx d.fq,λb o m i=>?_⟩,d⟩
 obtain⟨r,s⟩:=c.gr.kp b o m i
 obtain⟨l,t,_⟩:=vm i
 exact⟨r,by rw[VS l t];exact s⟩
def zh0 (Fu:Fun K x qual st f fd)(S:yz N ps (zk st))
 (B:∀ (a:Value) (A:zR) (outer:List Env) (s:zn) (H:Hp) (E:XK),xk k (A.deeper (PyProof.Rows.envOfC qual (zk st) s.heap.objs.size f a))->SDs (wZ CX0 P w K mg base N qual (zk st) f a A outer s H E).nox (ya st) g) :
 xB P w K mg base CX0 (k+1) f fd ps (zqN ps.length (zm4 N.length g) .non):=by
 refine Fu.ok S (λl H Q E h=>zlD h) λa A outer s H l Q E n h=>?_
 obtain⟨x,o,q,M,F,w,C,ps,c,J,O,D,rfl,v,z,m,U,e,G⟩:=h
 obtain⟨t,p,r⟩:=B a A outer s H E n
 refine⟨t,p,r F (off x q H) F H _ _ _ (zdz v z m) ?_⟩
 unfold zm4 at e
 cases b:g (.k w C ⟨some (x,o,q),ps⟩::(c.map .v++List.replicate (N.length-(c.length+1)) .no)) with
 | nx ρ =>
  rw[b]at e
  dsimp only at e
  split at e
  .rename_i R T L y
   cases e
   intro F' H' I i
   obtain⟨u,j⟩:=ziD (Fb:=F) (Hb:=H) i y
   exact G F' H' _ u j .non
  .cases e
 | rt d=>rw[b]at e;cases e
 | bk ρ=>rw[b]at e;cases e
 | ct ρ=>rw[b]at e;cases e
 | no=>rw[b]at e;cases e
def znJ (Fu:Fun K x qual st f fd)(S:yz N ps (zk st))(C:∀ (a:Value) (A:zR) (outer:List Env) (s:zn) (H:Hp) (E:XK),xk k (A.deeper (PyProof.Rows.envOfC qual (zk st) s.heap.objs.size f a))->SDk (wZ CX0 P w K mg base N qual (zk st) f a A outer s H E).nox (ya st) g (.str y)) :
 xB P w K mg base CX0 (k+1) f fd ps (zqN ps.length (zm4 N.length g) (.str y)):=by
 refine Fu.ok S (λl H Q E h=>zlD h) λa A outer s H l Q E n h=>?_
 obtain⟨x,o,q,O,F,w,G,ps,c,L,R,I,rfl,v,B,m,V,e,D⟩:=h
 obtain⟨t,p,r⟩:=C a A outer s H E n
 refine⟨t,p,r F (off x q H) F H _ _ _ (zdz v B m) ?_⟩
 unfold zm4 at e
 cases b:g (.k w G ⟨some (x,o,q),ps⟩::(c.map .v++List.replicate (N.length-(c.length+1)) .no)) with
 | nx ρ =>
  rw[b]at e
  dsimp only at e
  split at e
  .rename_i T U M z
   cases e
   intro F' H' J i
   obtain⟨u,j⟩:=ziD (Fb:=F) (Hb:=H) i z
   exact D F' H' _ u j .str
  .cases e
 | rt d=>rw[b]at e;cases e
 | bk ρ=>rw[b]at e;cases e
 | ct ρ=>rw[b]at e;cases e
 | no=>rw[b]at e;cases e
end
def KE (X:Cx)(e:Expr)(f:SE->Option (D × SE)):Prop:=∃ t,PE X e t/\∀ (Fb Hb F H:Hp) (ρ:SE) (σ:L2.St) (Q:VK) (d:D) (a:SE),Rl Fb Hb F H ρ σ->f ρ=some (d,a)->(∀ F' H' v,zX F F'->Rl Fb Hb F' H' a σ->At F' d v->Q v H')->t σ H Q
def kDo (i n:Nat)(R:KF)(a:D)(fa:yx):SE->Option (D × SE):=fun ρ=>match ρ[i]? with
 | some (.k w h ⟨z,ps⟩)=>(fa (visG ρ)).bind λds=>if zep ds=true/\ds.length+1=n then (R w h ps ds).map λr=>(a,ρ.set i (.k r.1 r.2.1 ⟨z,r.2.2⟩))else none
 | _=>none
def zlg {t:TA}(V:C=KK.dk)(Y:∀ r o q,(Wc r o q).lookup m=none)(N:RA t fa)(Fb Hb F H:Hp)(ρ:SE)(σ:L2.St)(Q:VK)(d:D)(l:SE)(b:Rl Fb Hb F H ρ σ)(h:kDo i n R u fa ρ=some (d,l))(k:∀ F' H' v,zX F F'->Rl Fb Hb F' H' l σ->At F' d v->Q v H'):znI C m (spK n R u) [] E (Y2 i) t σ H Q:=by
 subst V
 unfold kDo at h
 split at h
 .rename_i w W z B y
  obtain⟨s,U,f⟩:=u4.mp h
  split at f <;> try cases f
  rename_i j
  obtain⟨⟨O,L,e⟩,T,J⟩:=t4.mp f
  cases J
  obtain⟨x,p,q,ex,A,_⟩:=b.desk y
  obtain⟨r,o,Z,G,hq,_⟩:=A.ex
  refine⟨_,ex,x,p,_,rfl,G,Y _ _ _,?_⟩
  refine N σ _ _ H s _ b.gh b.visG U λF1 H1 I S P=>?_
  obtain⟨c,K⟩:=b.back S
  have a:=A.grow c
  refine⟨x,p,q,I,_,w,W,B,s,O,L,e,by rw[r8],c.fh,a,P.flat K j.1,j.2,T,λF' H' v g M X=>?_⟩
  exact k F' H' v (c.ff.trans g.ff) ((b.grow c).deed y ex a g M) X
 .cases h
section
variable {k n i:Nat}{g:Addr}{fd:wh}{ps:zH}{R:KF}{d0:D}
theorem zfC {pl:Sem Bool}(c:Cls X.K KK.dk)(d:zfx X.K KK.dk m g)(F:xB X.prog X.w X.K X.mg X.base CX0 k g fd ps (spK n R d0))(r:xk k X.A)(u:xG X.K fd ps [])(v:PE X o (Y2 i))(s:AD X (e::es) fa)
 (x:∀ l h q,(Wc l h q).lookup m=none:=by intros;rfl)
 (b:starEach (e::es) X.env=(false,eval e X.env)::starEach es X.env:=by rfl) (a:(backTo pos (starEach es X.env)).any (·.1)=false:=by rfl)
 (j:eval (.Call (.Attribute o m apos) (e::es) [] pos) X.env=(do
  let ov<-eval o X.env
  standAt apos.atName
  let (f,first)<-holding [ov] (getMethod ov m pl)
  callWith pos f first (backTo pos (starEach (e::es) X.env)) (backToKw pos (keywordEach [] X.env))):=by rfl) :
 KE X (.Call (.Attribute o m apos) (e::es) [] pos) (kDo i n R d0 fa):=by
 obtain⟨t,p,w⟩:=s
 exact⟨_,V8 (E:=λ_ _ _=>False) (pl:=pl) v c d F r u .nil zaG p b a j,zlg rfl x w⟩
def zo7:RA zhl (λ_=>some []):=fun σ ρ F H a Q s b e q=>by
 cases e
 exact q F H [] (.refl s) .nil
theorem znu {pl:Sem Bool}(c:Cls X.K KK.dk)(a:zfx X.K KK.dk m g)(F:xB X.prog X.w X.K X.mg X.base CX0 k g fd ps (spK n R d0))(j:xk k X.A)(h:xG X.K fd ps [])(l:PE X o (Y2 i))
 (p:∀ e b q,(Wc e b q).lookup m=none:=by intros;rfl)
 (d:eval (.Call (.Attribute o m apos) [] [] pos) X.env=(do
  let ov<-eval o X.env
  standAt apos.atName
  let (f,first)<-holding [ov] (getMethod ov m pl)
  callWith pos f first (backTo pos (starEach [] X.env)) (backToKw pos (keywordEach [] X.env))):=by rfl) :
 KE X (.Call (.Attribute o m apos) [] [] pos) (kDo i n R d0 (λ_=>some [])) :=
 ⟨_,zdZ (E:=λ_ _ _=>False) (pl:=pl) l c a F j h .nil zaG d,zlg rfl p zo7⟩
end
def kEd (f:zU):SE->Option (D × SE):=fun ρ=>(vEv true f ρ).map λd=>(d,ρ)
def zoY (h:ED X e f):KE X e (kEd f):=by
 obtain⟨t,p,r⟩:=h
 refine⟨t,p,λFb Hb F H ρ σ Q d l a e k=>?_⟩
 obtain⟨j,b,c⟩:=t4.mp e
 cases c
 exact r.at a b λF' H' v g i=>k F' H' v g.ff (a.grow g) i
def zoR (g:xz)(f h:SE->Option (D × SE)):SE->Option (D × SE):=fun ρ=>(f ρ).bind λx=>(h x.2).bind λy=>if noL x.1=true/\noL y.1=true then (g x.1 y.1).bind λz=>if noL z=true then some (z,y.2)else none else none
def sKx (f:SE->Option (D × SE)):zz:=fun ρ=>match f ρ with
 | some (_,ρ')=>.nx ρ'
 | none=>.no
def zpz {f:SE->Option (D × SE)}(g:KE X e f)(b:swapsWith e none pos.line X.env=pure false:=by rfl):SD X (.Expr e pos) (sKx f):=by
 obtain⟨t,p,r⟩:=g
 refine⟨_,Zj p b,λFb Hb F H ρ σ E c k=>?_⟩
 unfold sKx at k
 split at k
 .rename_i d i h
  exact r Fb Hb F H ρ σ _ d i c h λF' H' v _ a _=>k F' H' σ a
 .exact k.elim
def sKs (i:Nat)(f:SE->Option (D × SE)):zz:=fun ρ=>match f ρ with
 | some (d,ρ')=>.nx (ρ'.set i (.v d))
 | none=>.no
def zpM {i:Nat}{f:SE->Option (D × SE)}(o:X.N.Nodup)(j:X.N[i]?=some x)(g:Loc X.env.scope x)(n:KE X e f)(m:swapsWith e (some (.Name x pos')) pos.line X.env=pure false:=by rfl)(q:X.fn x=true\/X.env.scope.names.lookup x=some .local:=by first | exact .inl rfl | exact .inr rfl | assumption):SD X (.Assign [.Name x pos'] e pos) (sKs i f):=by
 obtain⟨t,p,r⟩:=n
 refine⟨_,vK o j g p m q,λFb Hb F H ρ σ E c k=>?_⟩
 unfold sKs at k
 split at k
 .rename_i d l h
  exact r Fb Hb F H ρ σ _ d l c h λF' H' v _ a b=>k F' H' _ (a.set b)
 .exact k.elim
end
section
variable [KK]{X:Cx}{e1 e2 e3:Expr}{a1 a2 a3:Expr}{p1 p2 p3 pos pos1 pos2 pos3 pos':Pos}
def w0:D:=.tup [.int 1,.tup []]
def h0:D:=.tup [.int 0]
def spI:Sp:=λb H Q _=>∃ x a F,b=[.ref x]/\zX F H/\F x=none/\H x=some (.ins KK.dk a [])/\∀ F' H' q,H q=none->Gr F (off x q H) F' (off x q H')->VH F' H' x a q w0 h0 []->Q .non H'
def SI (X:Cx) (a:wU):Prop:=∃ d b c,PSs X a (zqT (zqH X.K (Y2 0) d "web") (zqT (zqH X.K (Y2 0) b "heap") (zqH X.K (Y2 0) c "past")))/\RE d (λ_=>some w0)/\RE b (λ_=>some h0)/\RF c (λ_=>some [])
def zrW {f b:zU}{c:yx}(l:ED X e1 f)(m:ED X e2 b)(q:FL X e3 c)(b1:PE X a1 (Y2 0))(b2:PE X a2 (Y2 0))(b3:PE X a3 (Y2 0))(u:∀ ρ,f ρ=some w0)(o:∀ ρ,b ρ=some h0)(g:∀ ρ,c ρ=some [])
 (n:swapsWith e1 (some (.Attribute a1 "web" p1)) pos1.line X.env=pure false:=by rfl) (p:swapsWith e2 (some (.Attribute a2 "heap" p2)) pos2.line X.env=pure false:=by rfl) (i:swapsWith e3 (some (.Attribute a3 "past" p3)) pos3.line X.env=pure false:=by rfl) :
 SI X [.Assign [.Attribute a1 "web" p1] e1 pos1,.Assign [.Attribute a2 "heap" p2] e2 pos2,.Assign [.Attribute a3 "past" p3] e3 pos3]:=by
 obtain⟨t,v,r⟩:=l
 obtain⟨k,h,j⟩:=m
 obtain⟨y,w,x⟩:=q
 refine⟨t,k,y,xu (zbL b1 v n) (xu (zbL b2 h p) (wO (zbL b3 w i))),fun σ ρ F H d Q s a e=>?_,fun σ ρ F H d Q s a e=>?_,fun σ ρ F H d Q s a e=>?_⟩
 .exact r σ ρ F H d Q s a ((u ρ).trans e)
 .exact j σ ρ F H d Q s a ((o ρ).trans e)
 .exact x σ ρ F H d Q s a ((g ρ).trans e)
def kx {F H F' H':Hp}(g:Gr F H F' H')(c:F x=none)(d:H x=some (.ins KK.dk b a)):F' x=none/\H' x=some (.ins KK.dk b a):=g.kl (λ_ z=>by cases z) c d
def zow {P:zP} {w:World} {K:zv} {V:wn} {j:Heap} {nm a:Str} {t:Stmt} {f:Addr} {R:wh} {k:Nat} (Fu:Fun K nm a t f R) (S:yz ["self"] ["self"] (zk t)) (c:DkC K KK.dk)
 (hb:∀ (g:Value) (A:zR) (outer:List Env) (s:zn) (H:Hp) (E:XK),xk k (A.deeper (PyProof.Rows.envOfC a (zk t) s.heap.objs.size f g))->SI (wZ CX0 P w K V j ["self"] a (zk t) f g A outer s H E).nox (ya t)) :
 xB P w K V j CX0 (k+1) f R ["self"] spI:=by
 refine Fu.ok S (λvs H Q E h=>?_) λg A outer s H vs Q E hr h=>?_
 .obtain⟨x,n,F,rfl,_⟩:=h
  rfl
 obtain⟨x,n,F,rfl,sm,fx,hx,kk⟩:=h
 obtain⟨t1,t2,t3,p,r1,r2,r3⟩:=hb g A outer s H E hr
 refine⟨_,p,?_⟩
 have I:∀ (G:Hp) (σ:L2.St),VAt G [] σ:=λG σ i d e=>by simp at e
 refine r1 _ [] F H w0 _ sm (I _ _) rfl λF1 H1 O u b1=>?_
 obtain⟨m,D⟩:=kx u fx hx
 refine⟨_,rfl,x,_,n,[],rfl,D,c.cl,c.nW,by decide,?_⟩
 have s1:zX F1 (upd H1 x (.ins KK.dk n (zaR "web" O []))):=λb o e=>by
  rw[zi (ze e m)]
  exact u.fh b o e
 refine r2 _ [] F1 _ h0 _ s1 (I _ _) rfl λF2 H2 T r b2=>?_
 obtain⟨l,M⟩:=kx r m zl
 refine⟨_,rfl,x,_,n,_,rfl,M,c.cl,c.nH,by show 1<1000;decide,?_⟩
 have s2:zX F2 (upd H2 x (.ins KK.dk n (zaR "heap" T (zaR "web" O [])))):=λb o e=>by
  rw[zi (ze e l)]
  exact r.fh b o e
 refine r3 _ [] F2 _ [] _ s2 (I _ _) rfl λF3 H3 q xs B C X L Y=>?_
 obtain⟨v,J⟩:=kx B l zl
 refine⟨_,rfl,x,_,n,_,rfl,J,c.cl,c.nP,by show 2<1000;decide,?_⟩
 have N:q≠x:=λz=>by
  rw[z,zl]at C
  cases C
 have W:H2 q=none:=by rw[zi N]at C;exact C
 have y:=zbO r W
 have U:H1 q=none:=by rw[zi N]at y;exact y
 have Z:=zbO u U
 have z2:F2 q=none:=r.fh.free W
 have z1:F1 q=none:=u.fh.free U
 have G1:=Gr.offs u m z1
 have G2:=Gr.offs r l z2
 have G3:=Gr.offs B v X
 rw[ZO]at G2 G3
 refine kk F3 _ q Z ?_ ⟨⟨O,T,xs,zl,?_,b1.mono (r.ff.trans B.ff),b2.mono B.ff,Y⟩,v,X⟩
 .rw[ZO]
  exact(G1.trans G2).trans G3
 .rw[zi N]
  exact L
def zmV (i:Nat):zz:=fun ρ=>if (ρ.set i .no).all (λs=>!s.isK)=true then .nx (ρ.set i (.k w0 h0 ⟨none,[]⟩))else .no
def Rl.newK {H:Hp}{ρ:SE}{σ:L2.St}{p:Addr}{w:D}(r:Rl Fb Hb F H ρ σ)(nk:(ρ.set i .no).all (λs=>!s.isK)=true)(J:H x=none)(h2:H p=none)(K:H q=none)(a4:p≠x)(hq:q≠p)(g:Gr F (off x q (upd (upd H p (.own x)) x (.ins KK.dk p []))) F' (off x q H'))(d:VH F' H' x p q w h []):Rl Fb Hb F' H' (ρ.set i (.k w h ⟨none,[]⟩)) (σ.set i (some (.ref x))):=by
 obtain⟨U,T,xs,Q,I,a1,a2,a3⟩:=d.ex
 have E:∀ {b:Addr} {o:HO},H b=some o->off x q (upd (upd H p (.own x)) x (.ins KK.dk p [])) b=some o:=λ{b o} e=>by
  have O:=ze e J
  have n2:=ze e h2
  have n3:=ze e K
  rw[VS O n3,zi O,zi n2]
  exact e
 have N:∀ {j:Nat} {s:Sl},j≠i->ρ[j]?=some s->s.isK=false:=λ{j s} c e=>by
  have:=p4.mp nk s (o8 (i:=j) (by rw[u8 (i7 c)];exact e))
  cases G:s.isK with
  | false=>rfl
  | true=>rw[G]at this;cases this
 have k:∀ {s:Sl},(ρ.set i (.k w h ⟨none,[]⟩))[i]?=some s->i<ρ.length/\s=.k w h ⟨none,[]⟩:=λ{s} h=>by
  rw[u0o]at h
  simp only[u1X]at h
  split at h
  .rename_i m
   cases h
   exact⟨m,rfl⟩
  .cases h
 have f:i<ρ.length->(σ.set i (some (V.ref x)))[i]?=some (some (.ref x)):=λm=>by
  rw[u0o]
  simp[<-r.len,m]
 have n:∀ {j:Nat} {s:Sl} {a:Addr},ρ[j]?=some s->s.isO=true->σ[j]?=some (some (.ref a))->a≠x/\a≠q:=λ{j s a} e1 e2 e3=>by
  obtain⟨a',o,P,_,_,R,_⟩:=r.ows j s e1 e2
  rw[e3]at P
  cases P
  exact⟨ze R J,ze R K⟩
 refine⟨⟨r.gr.ff.trans g.ff,zX.on g.fh,λb o e1 e2=>?_⟩,λj d' h=>?_,λj s h L=>?_,λj l a s t e1 e2 W S e3 u=>?_,by simp[r.len],λj w2 a0 X h=>?_⟩
 .obtain⟨B,Z⟩:=r.gr.kp b o e1 e2
  rcases B with B | ⟨B,k3⟩
  .obtain⟨A,C⟩:=g.kp b o B (E Z)
   exact⟨A,(vm C).2.2⟩
  .have y:=g.ff _ _ k3
   exact⟨.inr ⟨B,y⟩,zX.on g.fh _ _ y⟩
 .by_cases c:i=j
  .subst c
   cases (k h).2
  .rw[u8 c]at h ⊢
   obtain⟨v,A,C⟩:=r.vals j d' h
   exact⟨v,A,C.mono g.ff⟩
 .by_cases c:i=j
  .subst c
   obtain⟨m,rfl⟩:=k h
   exact⟨x,_,f m,r.notbase J,d.fx,Q,p,U,T,q,rfl,a1,a2⟩
  .rw[u8 c]at h ⊢
   obtain⟨a,o,A,C,y3,Y,M⟩:=r.ows j s h L
   obtain⟨u1,u2⟩:=g.kl M.ntup y3 (E Y)
   exact⟨a,o,A,C,u1,(vm u2).2.2,M.mono g.ff⟩
 .by_cases c:i=j
  .subst c
   by_cases m:i=l
   .exact m
   .obtain⟨z,_⟩:=k e1
    rw[f z]at e3
    cases e3
    rw[u8 m]at e2 u
    exact absurd rfl (n e2 S u).1
  .by_cases m:i=l
   .subst m
    obtain⟨z,_⟩:=k e2
    rw[f z]at u
    cases u
    rw[u8 c]at e1 e3
    exact absurd rfl (n e1 W e3).1
   .rw[u8 c]at e1 e3
    rw[u8 m]at e2 u
    exact r.dis j l a s t e1 e2 W S e3 u
 .by_cases c:i=j
  .subst c
   obtain⟨m,e⟩:=k h
   cases e
   refine⟨x,p,q,U,T,xs,f m,Q,r.notbase K,d.fq,I,a3,λj s h L=>?_,λj s h G=>?_,λ_ z=>by cases z⟩
   .by_cases c:i=j
    .subst c
     rw[f m]
     intro z
     cases z
     exact d.ne rfl
    .rw[u8 c]at h ⊢
     intro z
     exact(n h L z).2 rfl
   .by_cases c:i=j
    .exact c.symm
    .rw[u8 c]at h
     rw[N (i7 c) h]at G
     cases G
  .rw[u8 c]at h
   have:=N (i7 c) h
   cases this
def znf {i k:Nat} {f:Addr} {pos2:Pos} (M:Mk X.K KK.dk f) (F:xB X.prog X.w X.K X.mg X.base CX0 k f s ["self"] spI) (J:xk (k+1) X.A) (w:Gl X h) (G:X.mg h=some (.ref KK.dk)) (D:xG X.K s ["self"] []) (K:X.N.Nodup) (y:X.N[i]?=some x) (I:Loc X.env.scope x) (A:swapsWith (.Call (.Name h v) [] [] pos2) (some (.Name x pos')) pos.line X.env=pure false:=by rfl) (L:X.fn x=true\/X.env.scope.names.lookup x=some .local:=by first | exact .inl rfl | exact .inr rfl | assumption) (r:(h == ("__debug__":Str))=false:=by decide):SD X (.Assign [.Name x pos'] (.Call (.Name h v) [] [] pos2) pos) (zmV i):=by
 refine⟨_,vK K y I (zjJ (E:=λ_ _ _=>False) M F J w G D .nil zaG r) A L,λFb Hb F H ρ σ E m l=>?_⟩
 unfold zmV at l
 split at l
 .rename_i B
  intro a j n u p
  have e1:zX F (upd (upd H j (.own a)) a (.ins KK.dk j [])):=λb o e=>by
   have z:=m.gr.fh b o e
   rw[zi (ze z n),zi (ze z u)]
   exact z
  refine⟨a,j,F,rfl,e1,m.gr.fh.free n,zl,λF' H' q c g d=>⟨rfl,?_⟩⟩
  have C:q≠a:=λz=>by rw[z,zl]at c;cases c
  rw[zi C]at c
  have t:q≠j:=λz=>by rw[z,zl]at c;cases c
  rw[zi t]at c
  exact l F' H' _ (m.newK B n u c p t g d)
 .exact l.elim
end
section
variable [KK]{X:Cx}{a b o e:Expr}{es:y9}{p apos pos pos' pos2:Pos}{f:zU}{fa:yx}{m:Str}
abbrev KV:=D->D->zm->zm->Option (D × D × D × zm)
abbrev KVz:=Option (Addr × Addr × Addr)->D->D->zm->zm->Option (D × D × D × Pst)
def zpP (n:Nat)(R:KVz):Sp:=λj H Q _=>∃ x b q g F w h f c d e i a,j=.ref x::g/\zX F H/\VH F H x b q w h f/\AtL F c g/\c.length+1=n/\R (some (x,b,q)) w h f c=some (d,e,i,⟨some (x,b,q),a⟩) /\
 ∀ F' H' v,Gr F (off x q H) F' (off x q H')->VH F' H' x b q e i a->At F' d v->Q v H'
def zrc (n:Nat)(R:KV):Sp:=λj H Q _=>∃ x g q f F w h e b d c i a,j=.ref x::f/\zX F H/\VH F H x g q w h e/\AtL F b f/\b.length+1=n/\R w h e b=some (d,c,i,a) /\
 ∀ F' H' v,Gr F (off x q H) F' (off x q H')->VH F' H' x g q c i a->At F' d v->Q v H'
def zrM {P:zP}{w:World}{K:zv}{j:wn}{b:Heap}{f:Addr}{i:wh}{ps:zH}{k n:Nat}{CX:CXT}{R:KVz}{R':KV}(F:xB P w K j b CX k f i ps (zpP n R))(h:∀ z w h ps e d c g a,R' w h ps e=some (d,c,g,a)->R z w h ps e=some (d,c,g,⟨z,a⟩)):xB P w K j b CX k f i ps (zrc n R') :=
 F.imp λA H Q E ⟨x,s,q,m,F',w,g,ps,e,d,c,p,a,o,t,u,l,r,v,y⟩=>⟨x,s,q,m,F',w,g,ps,e,d,c,p,a,o,t,u,l,r,h _ _ _ _ _ _ _ _ _ v,y⟩
def SDv (X:Cx)(a:wU)(g:zz)(e:SE->Option D):Prop:=∃ t,PSs X a t/\∀ (Fb Hb F H:Hp) (ρ:SE) (σ:L2.St) (E:Vp),Rl Fb Hb F H ρ σ->(match g ρ with
 | .nx b=>∃ d,e b=some d/\∀ F' H' c v,Rl Fb Hb F' H' b c->At F' d v->E.rt v H'
 | _=>False)->t E σ H
def zmk (h:ED X e f):SDv X [.Return (some e) pos] zD (vEv true f):=by
 obtain⟨t,p,r⟩:=h
 refine⟨_,wO (Y7 p),λFb Hb F H ρ σ E a k=>?_⟩
 obtain⟨d,b,k⟩:=k
 exact r.at a b λF' H' v g c=>k F' H' σ v (a.grow g) c
def zjb {a:wU}{g:zz}{f:SE->Option D}(m:SD X c g)(n:SDv X a h f):SDv X (c::a) (zK g h) f:=by
 obtain⟨t,p,r⟩:=m
 obtain⟨u,o,l⟩:=n
 refine⟨_,xu p o,λFb Hb F H ρ σ E j k=>?_⟩
 refine r Fb Hb F H ρ σ { E with nx:=u E } j ?_
 unfold zK at k
 cases e:g ρ with
 | nx q =>
  rw[e]at k
  exact λF' H' i b=>l Fb Hb F' H' q i E b k
 | rt d=>rw[e]at k;exact k.elim
 | bk d=>rw[e]at k;exact k.elim
 | ct d=>rw[e]at k;exact k.elim
 | no=>rw[e]at k;exact k.elim
def zm5 (n:Nat)(g:zz)(c:SE->Option D):KVz:=λz w h b a=>match g (.k w h ⟨z,b⟩::(a.map .v++List.replicate (n-(a.length+1)) .no)) with
 | .nx ρ=>(match (ρ:SE)[0]?,c ρ with
  | some (Sl.k w' h' p'),some d=>some (d,w',h',p')
  | _,_=>none)
 | _=>none
def zlY {P:zP}{w:World}{K:zv}{u:wn}{c:Heap}{x a:Str}{j:Stmt}{f:Addr}{n:wh}{N ps:zH}{k:Nat}{g:zz}{fv:SE->Option D}(Fu:Fun K x a j f n)(S:yz N ps (zk j))
 (Z:∀ (b:Value) (A:zR) (outer:List Env) (s:zn) (H:Hp) (E:XK),xk k (A.deeper (PyProof.Rows.envOfC a (zk j) s.heap.objs.size f b))->SDv (wZ CX0 P w K u c N a (zk j) f b A outer s H E).nox (ya j) g fv) :
 xB P w K u c CX0 (k+1) f n ps (zpP ps.length (zm5 N.length g fv)):=by
 refine Fu.ok S (λG H Q E h=>?_) λb A outer s H G Q E L h=>?_
 .obtain⟨x,o,q,M,F,w,y,ps,m,d,z,O,l,rfl,T,h4,J,R,h7,h8⟩:=h
  rw[k7,J.length]
  exact R
 obtain⟨x,o,q,M,F,w,y,ps,m,d,z,O,l,rfl,U,X,I,hl,e,kk⟩:=h
 obtain⟨t,p,r⟩:=Z b A outer s H E L
 refine⟨t,p,r F (off x q H) F H _ _ _ (zdz U X I) ?_⟩
 unfold zm5 at e
 cases i:g (.k w y ⟨some (x,o,q),ps⟩::(m.map .v++List.replicate (N.length-(m.length+1)) .no)) with
 | nx ρ =>
  rw[i]at e
  dsimp only at e
  split at e
  .rename_i w2 T p' d' W Y
   cases e
   refine⟨d,Y,λF' H' σ' v B av=>?_⟩
   obtain⟨V,C⟩:=ziD (Fb:=F) (Hb:=H) B W
   exact kk F' H' v V C av
  .cases e
 | rt d=>rw[i]at e;cases e
 | bk ρ=>rw[i]at e;cases e
 | ct ρ=>rw[i]at e;cases e
 | no=>rw[i]at e;cases e
def zqb (i n:Nat)(R:KV)(fa:yx):SE->Option (D × SE):=fun ρ=>match ρ[i]? with
 | some (.k w h ⟨z,ps⟩)=>(fa (visG ρ)).bind λa=>if zep a=true/\a.length+1=n then (R w h ps a).map λr=>(r.1,ρ.set i (.k r.2.1 r.2.2.1 ⟨z,r.2.2.2⟩))else none
 | _=>none
def zjV {k:Nat} {g:Addr} (F:xB X.prog X.w X.K X.mg X.base CX0 k g s c (zrc n R)) (P:xk k X.A) (B:Gl X x) (N:X.mg x=some (.ref g)) (C:PySem.W.keepIn X.K (.ref g)=true) (M:xG X.K s c []) (ho:PE X o (Y2 i)) (Y:AD X es fa) (m:(x == ("__debug__":Str))=false:=by decide) (y:starEach (o::es) X.env=(false,eval o X.env)::starEach es X.env:=by rfl) (j:(backTo pos (starEach es X.env)).any (·.1)=false:=by rfl) :
 KE X (.Call (.Name x p) (o::es) [] pos) (zqb i n R fa):=by
 obtain⟨t,K,G⟩:=Y
 refine⟨_,zah (E:=λ_ _ _=>False) F P B N C M .nil zaG (zu ho K y) m y j,λFb Hb F H ρ σ Q d ρ' b h k=>?_⟩
 unfold zqb at h
 split at h
 .rename_i w h' z c A
  obtain⟨u,e3,l⟩:=u4.mp h
  split at l <;> try cases l
  rename_i r
  obtain⟨⟨d2,V,U,f⟩,W,S⟩:=t4.mp l
  cases S
  obtain⟨x,I,q,ex,Z,_⟩:=b.desk A
  refine⟨_,ex,?_⟩
  refine G σ _ _ H u _ b.gh b.visG e3 λF1 H1 O L J=>?_
  obtain⟨e,T⟩:=b.back L
  have a:=Z.grow e
  refine⟨x,I,q,O,_,w,h',c,u,_,V,U,f,by rw[r8],e.fh,a,J.flat T r.1,r.2,W,λF' H' v g D av=>?_⟩
  exact k F' H' v (e.ff.trans g.ff) ((b.grow e).deed A ex a g D) av
 .cases h
def zpf (f:SE->Option (D × SE))(g h:zz):zz:=fun ρ=>match f ρ with
 | some (.bl true,ρ')=>g ρ'
 | some (.bl false,ρ')=>h ρ'
 | _=>.no
def RK (t:TE)(f:SE->Option (D × SE)):Prop:=∀ (Fb Hb F H:Hp) (ρ:SE) (σ:L2.St) (Q:VK) (d:D) (a:SE),Rl Fb Hb F H ρ σ->f ρ=some (d,a)->(∀ F' H' v,zX F F'->Rl Fb Hb F' H' a σ->At F' d v->Q v H')->t σ H Q
def zoy {g:xz}{p:TE}{f:SE->Option (D × SE)}(s:OpD r g)(w:RK j f)(E:RK p h):RK (tOp r j p) (zoR g f h):=by
 intro Fb Hb F H ρ σ Q d J q e k
 obtain⟨⟨i,m⟩,t,e⟩:=u4.mp e
 obtain⟨⟨o,K⟩,n,e⟩:=u4.mp e
 dsimp only at n e
 split at e <;> try cases e
 rename_i L
 obtain⟨z,B,e⟩:=u4.mp e
 split at e <;> try cases e
 rename_i I
 refine w Fb Hb F H ρ σ _ i m q t λF1 H1 G u b A=>?_
 refine E Fb Hb F1 H1 m σ _ o _ b n λF2 H2 y l a x=>?_
 exact s F2 H2 G y i o d Q a.gr.fh (A.mono l) x B λF3 H3 v c C=>k F3 H3 v ((u.trans l).trans c.ff) (a.grow c) C
def KT (X:Cx)(e:Expr)(f:SE->Option (D × SE)):Prop:=∃ t,PT X e (zeP t)/\RK t f
def zob {g:xz}{f:SE->Option (D × SE)}(n:OpR X (compareOp c) r)(o:OpD r g)(e:behindInMarks c b=false)(i:KE X a f)(k:KE X b h):KT X (.Compare a [c] [b] pos) (zoR g f h):=by
 obtain⟨p,m,d⟩:=i
 obtain⟨q,j,l⟩:=k
 exact⟨_,zaB n m j e,zoy o d l⟩
def zqt {f:SE->Option (D × SE)}{g:zz}(m:KT X e f)(u:SDs X j g)(w:SDs X l h):SD X (.If e j l pos) (zpf f g h):=by
 obtain⟨t,p,r⟩:=m
 obtain⟨y,q,o⟩:=u
 obtain⟨z,n,x⟩:=w
 refine⟨_,zgf p q n,λFb Hb F H ρ σ E i k=>?_⟩
 unfold zpf at k
 split at k
 .rename_i b c
  refine r Fb Hb F H ρ σ _ _ b i c λF' H' v s a d=>⟨true,d.bl_inv,?_⟩
  show(if true=true then _ else _)
  rw[t7 rfl]
  exact o Fb Hb _ H' b σ E a k
 .rename_i b c
  refine r Fb Hb F H ρ σ _ _ b i c λF' H' v s a d=>⟨false,d.bl_inv,?_⟩
  show(if false=true then _ else _)
  rw[j6 u7]
  exact x Fb Hb _ H' b σ E a k
 .exact k.elim
def zeI (i:Nat)(f:yx):zz:=fun ρ=>match f (visG ρ) with
 | some a=>if zep a=true then .nx (ρ.set i (.o a))else .no
 | none=>.no
def zgc {i:Nat}{f:yx}(v:X.N.Nodup)(l:X.N[i]?=some x)(b:Loc X.env.scope x)(s:FL X e f)(n:swapsWith e (some (.Name x pos')) pos.line X.env=pure false:=by rfl)(w:X.fn x=true\/X.env.scope.names.lookup x=some .local:=by first | exact .inl rfl | exact .inr rfl | assumption):SD X (.Assign [.Name x pos'] e pos) (zeI i f):=by
 obtain⟨t,p,r⟩:=s
 refine⟨_,vK v l b p n w,λFb Hb F H ρ σ E a k=>?_⟩
 unfold zeI at k
 cases h:f (visG ρ) with
 | none=>rw[h]at k;exact k.elim
 | some o =>
  rw[h]at k
  dsimp only at k
  split at k
  .rename_i y
   refine r σ _ _ H o _ a.gh a.visG h λF' H' q z g h0 u j b=>?_
   obtain⟨d,m⟩:=a.back g
   have c:fOf ρ σ H F' q=none:=by
    unfold fOf
    split
    .rfl
    .exact u
   exact k _ H' _ ((a.grow d).setO (a.notbase h0) c j (b.flat m y) (a.notown d h0))
  .exact k.elim
def zj3 (i:Nat):zz:=fun ρ=>match ρ[i]? with
 | some (.o ds)=>(match ds.getLast? with
  | some _=>.nx (ρ.set i (.o ds.dropLast))
  | none=>.no)
 | _=>.no
def zl6 (r:PE X a (Y2 i)) (o:∀ {c:TE},PE X a c->PE X (.Call (.Attribute a "pop" p) [] [] pos2) (zrE X.K "list" znS c)) (h:swapsWith (.Call (.Attribute a "pop" p) [] [] pos2) none pos.line X.env=pure false:=by rfl):SD X (.Expr (.Call (.Attribute a "pop" p) [] [] pos2) pos) (zj3 i):=by
 refine⟨_,Zj (o r) h,λFb Hb F H ρ σ E b k=>?_⟩
 unfold zj3 at k
 split at k
 .rename_i s e
  split at k
  .rename_i d n
   obtain⟨es,rfl⟩:=u08.mp n
   rw[u0j]at k
   obtain⟨q,w,g,v,t,f,m⟩:=b.owns i _ e
   obtain⟨j,y,rfl,l,u⟩:=m.unsnoc
   exact⟨_,g,.inl ⟨rfl,_,SqL.of f⟩,q,j,y,rfl,rfl,f,k _ _ _ (b.mutate e g l)⟩
  .exact k.elim
 .exact k.elim
section
variable {k n:Nat}{g:Addr}{fd:wh}{ps:zH}{sp:Sp}{E:XK}{cl:Nat->Addr}{r:ziQ}
def zki (b:zU)(a:zaV):zaV:=fun ρ=>(b ρ).bind λd=>match d with
 | .obj _ _ _=>a ρ
 | _=>none
def zmc {pl:Sem Bool}(c:Cls X.K KK.dk)(x:zfx X.K KK.dk m g)(F:xB X.prog X.w X.K X.mg X.base CX0 k g fd ps sp)(A:xk k X.A)(M:xG X.K fd ps [])(N:ED X o f)(K:XA E cl X (e::es) h)(P:∀ l i q,(Wc l i q).lookup m=none:=by intros;rfl)(d:starEach (e::es) X.env=(false,eval e X.env)::starEach es X.env:=by rfl)(b:(backTo pos (starEach es X.env)).any (·.1)=false:=by rfl) (y:eval (.Call (.Attribute o m apos) (e::es) [] pos) X.env=(do
 let ov<-eval o X.env
 standAt apos.atName
 let (f,first)<-holding [ov] (getMethod ov m pl)
 callWith pos f first (backTo pos (starEach (e::es) X.env)) (backToKw pos (keywordEach [] X.env))):=by rfl) :
 XE E cl X (.Call (.Attribute o m apos) (e::es) [] pos) (zki f h):=by
 obtain⟨S,D,L⟩:=N
 obtain⟨t,O,C⟩:=K
 refine⟨_,V8 (E:=λ_ _ _=>False) (pl:=pl) D c x F A M .nil zaG O d b y,fun σ ρ F0 H j Q s n e w=>?_⟩
 obtain⟨u,z,r⟩:=u4.mp e
 refine L σ ρ F0 H u _ s n z λF1 H1 v a I=>?_
 cases u with
 | obj R U B =>
  obtain⟨p,G,Z,l,i,V,rfl,J,Y,W,ah,T⟩:=I.obj_inv
  refine⟨p,G,_,rfl,a.fh _ _ J,P _ _ _,?_⟩
  exact C σ ρ F1 H1 j _ a.fh (n.mono a.ff) r (w.grow a)
 | _=>cases r
theorem zne {pl:Sem Bool}(c:Cls X.K KK.dk)(y:zfx X.K KK.dk m g)(F:xB X.prog X.w X.K X.mg X.base (Air X.prog X.w) k g fd ps (spX cl n r))(A:wK (Air X.prog X.w) X E)(C:xk k X.A)(N:xG X.K fd ps [])(P:ED X o f)
 (R:∀ i h q,(Wc i h q).lookup m=none:=by intros;rfl)
 (z:eval (.Call (.Attribute o m apos) [] [] pos) X.env=(do
  let ov<-eval o X.env
  standAt apos.atName
  let (f,first)<-holding [ov] (getMethod ov m pl)
  callWith pos f first (backTo pos (starEach [] X.env)) (backToKw pos (keywordEach [] X.env))):=by rfl) :
 XE E cl X (.Call (.Attribute o m apos) [] [] pos) (ziZ n r f (λ_=>some [])):=by
 obtain⟨S,G,L⟩:=P
 refine⟨_,zdZ (pl:=pl) G c y F C N .nil A z,fun σ ρ F0 H j Q s J e w=>?_⟩
 obtain⟨u,B,t⟩:=u4.mp e
 refine L σ ρ F0 H u _ s J B λF1 H1 v b l=>?_
 cases u with
 | obj x D a =>
  obtain⟨V,M,d⟩:=u4.mp t
  cases M
  split at d <;> try cases d
  rename_i O
  obtain⟨p,I,Z,i,h,U,rfl,K,Y,W,ah,T⟩:=l.obj_inv
  refine⟨p,I,_,rfl,b.fh _ _ K,R _ _ _,?_⟩
  exact⟨[.obj x D a],j,F1,O,b.fh,.cons l .nil,d,w.grow b⟩
 | _=>cases t
end
end
def zdH [KK]{x1}(h:XA E cl X es fx):XE E cl X (.Tuple es x1 pos) fx:=by
 obtain⟨t,b,c⟩:=h
 exact⟨_,zdQ b,fun σ ρ F H j Q s a e w=>c σ ρ F H j _ s a e w⟩
def zmf (i:Nat)(c:D->D->zm->zm->Bool)(a:yx)(f g:SE->Option (D × SE)):SE->Option (D × SE):=fun ρ=>if (match ρ[i]? with
 | some (.k w h p)=>(match a (visG ρ) with
  | some b=>c w h p.l b
  | none=>false)
 | _=>false)=true then f ρ else g ρ
def zpK [KK]{f g:SE->Option (D × SE)}(h1:KE X e f)(h2:KE X e g):KE X e (zmf i c fa f g):=by
 obtain⟨q,n,o⟩:=h1
 obtain⟨t,u,r⟩:=h2
 refine⟨fun σ H Q=>q σ H Q\/t σ H Q,λa s σ H Q I h=>h.elim (n a s σ H Q I) (u a s σ H Q I),λFb Hb F H ρ σ Q d l j h k=>?_⟩
 unfold zmf at h
 by_cases b:(match ρ[i]? with
  | some (.k w h p)=>(match fa (visG ρ) with
   | some m=>c w h p.l m
   | none=>false)
  | _=>false)=true
 .rw[t7 b]at h
  exact .inl (o Fb Hb F H ρ σ Q d l j h k)
 .rw[j6 b]at h
  exact .inr (r Fb Hb F H ρ σ Q d l j h k)
end Dl
namespace Dl
open PySem L2
structure Row where
 x:Str
 ps:zH
 ex:zH
 st:Stmt
abbrev Row.N (r:Row):zH:=r.ps++r.ex
def Row.scB (r:Row):Bool:=decide ((zk r.st).kind=.function/\(zk r.st).isCoroutine=false/\(zk r.st).isGenerator=false/\r.N.Nodup/\(∀ x∈r.ps,(zk r.st).names.lookup x=some .local\/(zk r.st).names.lookup x=some .cell)/\∀ y∈(zk r.st).names,y.2≠.free)
def Row.sc {r:Row}(h:r.scB=true):yz r.N r.ps (zk r.st):=by
 obtain⟨a,b,c,d,e,f⟩:=k8 h
 exact⟨a,b,c,d,List.take_left' rfl,e,f⟩
def zdT {α:Type}{p:α->Prop}{l:List α}{d:α}(h:∀ x∈l,p x)(a:p d)(i:Nat):p (l.getD i d):=by
 rw[i8]
 cases e:l[i]? with
 | none=>exact a
 | some y=>exact h y (o8 e)
def Dx (K:zv)(d:wn)(b:Vr)(r:Row):Prop:=∃ f a,Def K d r.x r.st r.ps f a/\∀ c,b.lookup r.x=some c->a.code=.ref c
structure KR (b:Bool):Prop where
 h:b=true
structure UR {α:Type} (a b:α):Prop where
 h:a=b
def nd_b {l:zH}(h:decide l.Nodup=true):l.Nodup:=k8 h
section
variable [KK]{X:Cx}{x:Str}{elt iter c:Expr}{tp:Pos}{scope:Scope}{cl:Vr}{pos:Pos}{fi:yx}{ft:vr}{fe:zU}{rn dn:List (Str × NameKind)}{cn N:zH}
def zri (n:KR (decide (x::X.N).Nodup))(b:X.calm=true)(d:ID X (.Name x tp) iter fi)(e:(relabel scope X.env).names=rn)(f:X.env.scope.names=dn)(j:X.N=N)(l:UR (closureFor scope X.env) (pure cl))(c:scope.kind=.function)(g:cl.map Prod.fst=cn)(m:KR (YL scope.names rn dn N X.N cn))(o:∀ p∈cl,X.env.cells.lookup p.1=some p.2)
 (a:∀ s₀ H₀ ex pn,Loc (XV X [x] X.N scope cl s₀ H₀ ex pn).env.scope x/\(XV X [x] X.N scope cl s₀ H₀ ex pn).env.scope.names.lookup x=some .local) (k:∀ s₀ H₀ ex pn,ED (XV X [x] X.N scope cl s₀ H₀ ex pn) elt fe)
 (h:∀ x,foldedSetIterable iter X.env x=pure x):FL X (.ListComp elt [⟨.Name x tp,iter,[],0⟩] scope pos) (fLC fi b1 xp fe) :=
 zd3 (L:=[x]) (M:=X.N) b (Xj e f j l.h c g m.h o) d gs1 rb1 (λ_ _ _ _=>xF (i:=0) (nd_b n.h) rfl (a _ _ _ _).1 (.inr (a _ _ _ _).2)) k h
def zrd (q:KR (decide (x::X.N).Nodup))(d:X.calm=true)(f:ID X (.Name x tp) iter fi)(g:(relabel scope X.env).names=rn)(h:X.env.scope.names=dn)(l:X.N=N)(n:UR (closureFor scope X.env) (pure cl))(e:scope.kind=.function)(j:cl.map Prod.fst=cn)(o:KR (YL scope.names rn dn N X.N cn))(r:∀ p∈cl,X.env.cells.lookup p.1=some p.2)
 (a:∀ s₀ H₀ ex pn,Loc (XV X [x] X.N scope cl s₀ H₀ ex pn).env.scope x/\(XV X [x] X.N scope cl s₀ H₀ ex pn).env.scope.names.lookup x=some .local) (b:∀ s₀ H₀ ex pn,TD (XV X [x] X.N scope cl s₀ H₀ ex pn) c ft) (m:∀ s₀ H₀ ex pn,ED (XV X [x] X.N scope cl s₀ H₀ ex pn) elt fe)
 (k:∀ x,foldedSetIterable iter X.env x=pure x):FL X (.ListComp elt [⟨.Name x tp,iter,[c],0⟩] scope pos) (fLC fi b1 ft fe) :=
 zoc (L:=[x]) (M:=X.N) d (Xj g h l n.h e j o.h r) f gs1 rb1 (λ_ _ _ _=>xF (i:=0) (nd_b q.h) rfl (a _ _ _ _).1 (.inr (a _ _ _ _).2)) b m k
end
def td_b [KK]{f:vr}(h:WD X (.BoolOp op es pos) f):TD X (.BoolOp op es pos) f:=zqh h
def zjT [KK] {X:Cx} {w:World} {k:Nat} {f:Addr} {p:wm} (F:xB P w K mg base CX0 j f fd ps (spD m p)) (hr:xk k X.A) (hj:j<=k) (d:Def K mg x st ps f fd) (hX:X.prog=P/\X.w=w/\X.K=K/\X.mg=mg/\X.base=base) (hg:Gl X x) (ha:AD X (e::es) fa) (hdb:(x == ("__debug__":Str))=false) (he:starEach (e::es) X.env=(false,eval e X.env)::starEach es X.env) (hpl:(backTo pos (starEach es X.env)).any (·.1)=false) :
 ED X (.Call (.Name x pp) (e::es) [] pos) (zo m p fa):=by
 obtain⟨rfl,rfl,rfl,rfl,rfl⟩:=hX
 exact zy F hr hg d ha hj hdb he hpl
def Dx_cons (h:Dx K b a r)(t:∀ r∈c,Dx K b a r):∀ d∈r::c,Dx K b a d:=List.forall_mem_cons.mpr ⟨h,t⟩
def Z_cons (h:W.nsIn K mainGlobals x=some none)(t:∀ y∈l,W.nsIn K mainGlobals y=some none):∀ y∈x::l,W.nsIn K mainGlobals y=some none:=List.forall_mem_cons.mpr ⟨h,t⟩
def mkX {K:zv}{h:Heap}{g:Vr}{d:Stmt}{n ex:zH}{f:Addr}{t kV:Value}(X:K.In h)(G:h.Ns mainGlobals s)(a:W.nsIn K mainGlobals x=some (some (.ref f)))(l:K.lookup f=some ⟨t,u,.func (W.fnOf x x (x8 d) (ya d) (zk d) .none kV dc i j m ct),v⟩)(c:W.codeIn K m x=true)(k:W.keepIn K (.ref f)=true)(b:∀ (kV p i:Value) (j:y6) (o ct:Value) (q:zB),q.length=n.length->bindArgs (W.fnOf x x (x8 d) (ya d) (zk d) .none kV p i j o ct) ⟨q,[]⟩=pure (n.zip q))(e:g.lookup x=none\/∃ c,g.lookup x=some c/\m=.ref c):Dx K s g ⟨x,n,ex,d⟩ :=
 ⟨f,W.fnOf x x (x8 d) (ya d) (zk d) .none kV dc i j m ct,⟨Xr l c k,(Xr l c k).binds b,o6 X G a⟩,λc h=>by
  rcases e with e | ⟨w,e,r⟩
  .rw[show g.lookup x=none from e]at h;cases h
  .rw[show g.lookup x=some w from e]at h;cases h;exact r⟩
def zgq {f:Addr}{g:wh}(F:Fun K x q c f g)(h:∀ (kV b d:Value) (e:y6) (a ct:Value),bindArgs (W.fnOf x q (x8 c) (ya c) (zk c) .none kV b d e a ct) ⟨[v],[]⟩=pure [(y,v)]):BindsTo s g ⟨[v],[]⟩ [(y,v)]:=by
 obtain⟨k,j,kV,b,d,e,a,ct,i,rfl,_,_⟩:=F.ex
 exact .of_eq (h _ _ _ _ _ _)
section
variable [KK]{E:XK}{cl:Nat->Addr}{X:Cx}{e:Expr}{es:y9}{st:Stmt}{sts:wU}{pos:Pos}{fx:zaV}
def zkO {g:zz}(c:XS E cl X st b)(d:SD X.nox st g)(e:XSs E cl X sts a):XSs E cl X (st::sts) (w1 b g a):=yq c (SD.nox d) e
def xs_e (h:XE E cl X e fx)(a:swapsWith e none pos.line X.env=pure false):XS E cl X (.Expr e pos) (xEx fx):=Wu h a
def xs_r (h:XE E cl X e fx):XS E cl X (.Return (some e) pos) (xEx fx):=Xm h
def zjm {w:World} {k:Nat} {f:Addr} {st:Stmt} (F:xB P w K c a (Air P w) j f l h (spX cl m r)) (o:wK (Air X.prog X.w) X E) (q:xk k X.A) (n:j<=k) (d:Def K c x st h f l) (u:X.prog=P/\X.w=w/\X.K=K/\X.mg=c/\X.base=a) (p:Gl X x) (t:AD X (e::es) i) (g:(x == ("__debug__":Str))=false) (s:starEach (e::es) X.env=(false,eval e X.env)::starEach es X.env) (b:(backTo pos (starEach es X.env)).any (·.1)=false):XE E cl X (.Call (.Name x v) (e::es) [] pos) (wj m r i):=by
 obtain⟨rfl,rfl,rfl,rfl,rfl⟩:=u
 exact wL (F.mono n) o q p d.at_ d.kp d.bd t g s b
end
end Dl
namespace Mz
open PySem L2 Dl
def ZC:zkD:=[("row",[1,8]),("ring",[3,8]),("cube",[0,3]),("full",[1,8]),("star",[1,7])]
def We:zi7:=[("web",1),("row",1),("ring",1),("cube",1),("full",1),("star",1),("tie",2),("cut",2),("put",2),("step",2),("back",0)]
def zN:zi7:=[("heap",0),("ties",0),("steps",0),("far",2),("most",1),("reached",0),("need",1),("shown",0)]
def top (i:Nat):Stmt:=PySem.Challenge.pw_twoforone_k94_whole_desk_led_back.main.body.getD i (.Pass ⟨0,0,0,0⟩)
def rows:List Row:=[⟨"is_whole",["thing"],[],top 18⟩,
 ⟨"is_whole_within",["thing","least","most"],[],top 19⟩,
 ⟨"is_place_count",["thing"],[],top 22⟩,
 ⟨"is_place",["many","thing"],[],top 23⟩,
 ⟨"are_counts",["many","thing"],[],top 24⟩,
 ⟨"is_pair",["many","thing"],[],top 26⟩,
 ⟨"are_ties",["many","thing"],["at","tie"],top 27⟩,
 ⟨"is_web",["thing"],[],top 28⟩,
 ⟨"must_be_web",["thing"],[],top 29⟩,
 ⟨"must_be_place",["web","thing"],[],top 30⟩,
 ⟨"tie_between",["one","other"],[],top 31⟩,
 ⟨"web_of",["many","things"],["told","at","thing","tie"],top 32⟩,
 ⟨"neighbours",["web","place"],[],top 33⟩,
 ⟨"are_stones",["web","thing"],[],top 39⟩,
 ⟨"must_be_heap",["web","thing"],[],top 40⟩,
 ⟨"is_step",["web","thing"],[],top 41⟩,
 ⟨"all_steps",["web"],["found","place"],top 42⟩,
 ⟨"steps_from",["web","heap"],[],top 43⟩,
 ⟨"stepped",["heap","step"],["stones"],top 44⟩,
 ⟨"walk",["web","heap","thing"],["heaps","now","at","step"],top 45⟩,
 ⟨"walked",["web","heap","steps"],["told","wrong"],top 46⟩,
 ⟨"kind_good",["thing"],["word"],top 55⟩,
 ⟨"places_of",["word","size"],[],top 56⟩,
 ⟨"are_tied",["word","size","one","other"],[],top 57⟩,
 ⟨"web_for",["kind"],["word","size","many","ties","one"],top 58⟩,
 ⟨"written",["word","numbers"],[],top 72⟩,
 ⟨"shown",["web","heap"],["ties"],top 73⟩,
 ⟨"number_written",["word"],[],top 74⟩,
 ⟨"parsed",["row"],["words","numbers","wanted"],top 78⟩,
 ⟨"bare",["web"],[],top 79⟩,
 ⟨"tied",["web","one","other"],[],top 80⟩,
 ⟨"cut",["web","one","other"],["gone"],top 81⟩,
 ⟨"put",["web","heap","place","stones"],["more"],top 82⟩,
 ⟨"step_done",["web","heap","one","other"],[],top 83⟩,
 ⟨"after",["web","heap","word","numbers"],[],top 84⟩,
 ⟨"listed",["words"],[],top 85⟩,
 ⟨"paired",["pairs","sign"],[],top 86⟩,
 ⟨"answer",["web","heap","word","numbers"],[],top 87⟩,
 ⟨"_law_kinds",["e"],["found"],top 90⟩,
 ⟨"_law_stir",["cell","k"],["number"],top 91⟩,
 ⟨"_law_same",["found","due"],["one","other"],top 92⟩,
 ⟨"_law_said",["desk","row"],["e","found"],top 93⟩,
 ⟨"_law_row",["cell"],["number","a","b","some"],top 94⟩,
 ⟨"law",["script"],["desk","texts","cell","row","found","turn"],top 95⟩]
def Rw (i:Nat):Row:=rows.getD i ⟨"law",["script"],["desk","texts","cell","row","found","turn"],top 95⟩
def sc (i:Nat):yz (Rw i).N (Rw i).ps (zk (Rw i).st):=Row.sc (zdT (p:=λr:Row=>r.scB=true) (by decide +kernel) (by decide +kernel) i)
abbrev YG:Stmt:=VX (top 11) 0
def zis:yz ["self","at"] ["self","at"] (zk YG):=⟨rfl,rfl,rfl,by decide +kernel,rfl,by decide +kernel,by decide +kernel⟩
abbrev wY:Stmt:=VX (top 12) 0
def zdx:yz ["self","at"] ["self","at"] (zk wY):=⟨rfl,rfl,rfl,by decide +kernel,rfl,by decide +kernel,by decide +kernel⟩
abbrev yA:Stmt:=VX (top 88) 0
def XR:yz ["self"] ["self"] (zk yA):=⟨rfl,rfl,rfl,by decide +kernel,rfl,by decide +kernel,by decide +kernel⟩
abbrev wx:Stmt:=VX (top 88) 1
def yI:yz ["self","row","told","word"] ["self","row"] (zk wx):=⟨rfl,rfl,rfl,by decide +kernel,rfl,by decide +kernel,by decide +kernel⟩
abbrev xr:Stmt:=VX (top 88) 2
def za1:yz ["self","state"] ["self","state"] (zk xr):=⟨rfl,rfl,rfl,by decide +kernel,rfl,by decide +kernel,by decide +kernel⟩
abbrev yO:Stmt:=VX (top 88) 3
def vd:yz ["self","state"] ["self"] (zk yO):=⟨rfl,rfl,rfl,by decide +kernel,rfl,by decide +kernel,by decide +kernel⟩
structure Adr where
 f:Nat->Addr
 e:Nat->FuncData
 s_DEEDS:Addr
 s_QUESTIONS:Addr
 dk:Addr
 f_Desk___init__:Addr
 e_Desk___init__:FuncData
 f_Desk_say:Addr
 e_Desk_say:FuncData
 f_Desk_go_on:Addr
 e_Desk_go_on:FuncData
 f_Desk_go_back:Addr
 e_Desk_go_back:FuncData
 t_MOST_PLACES:Tok
 t_MOST_STONES:Tok
 t_MOST_FIGURES:Tok
 s_SIZES:Addr
 x_NoWeb:Addr
 x_NoKind:Addr
 x_NoHeap:Addr
 x_NoPlace:Addr
 x_NoNumber:Addr
 x_NoTally:Addr
 x_NotTree:Addr
 x_NotJoined:Addr
 x_NoWeights:Addr
 x_NoRow:Addr
 x_NoSteps:Addr
 x_NoText:Addr
 x_TooGreat:Addr
 x_StoneError:Addr
 i_NoWeb:Addr
 j_NoWeb:FuncData
 i_NoSteps:Addr
 j_NoSteps:FuncData
def ziS (a:Adr):xS:=[a.x_NoWeb,a.x_NoKind,a.x_NoHeap,a.x_NoPlace,a.x_NoNumber,a.x_NoTally,a.x_NotTree,a.x_NotJoined,a.x_NoWeights,a.x_NoRow,a.x_NoSteps,a.x_NoText,a.x_TooGreat]
def clT (a:Adr)(j:Nat):Addr:=(ziS a).getD (j%16) 0
def ziO (a:Adr)(j:Nat):clT a j=clT a (j%16):=by unfold clT;rw[Nat.mod_mod]
def zs:zH:=["ValueError","all","bool","enumerate","int","isinstance","len","list","max","min","range","sorted","str","sum","tuple","zip"]
structure Txt (P:zP) (w:World) (K:zv) (mg:wn) (base:Heap) (ad:Adr):Prop where
 d:∀ i,Def K mg (Rw i).x (Rw i).st (Rw i).ps (ad.f i) (ad.e i)
 z:∀ x∈zs,mg x=none
 g_DEEDS:mg "DEEDS"=some (Value.ref ad.s_DEEDS)
 b_DEEDS:∀ h:Heap,K.In h->PyProof.Rows.KTD.TextTab h ad.s_DEEDS (Zh We)
 g_QUESTIONS:mg "QUESTIONS"=some (Value.ref ad.s_QUESTIONS)
 b_QUESTIONS:∀ h:Heap,K.In h->PyProof.Rows.KTD.TextTab h ad.s_QUESTIONS (Zh zN)
 g_Desk:mg "Desk"=some (Value.ref ad.dk)
 dkc:DkC K ad.dk
 mkd:Mk K ad.dk ad.f_Desk___init__
 mf_Desk___init__:Fun K "__init__" "Desk.__init__" yA ad.f_Desk___init__ ad.e_Desk___init__
 mb_Desk___init__:xG K ad.e_Desk___init__ ["self"] []
 mf_Desk_say:Fun K "say" "Desk.say" wx ad.f_Desk_say ad.e_Desk_say
 mb_Desk_say:xG K ad.e_Desk_say ["self","row"] []
 mm_Desk_say:zfx K ad.dk "say" ad.f_Desk_say
 mf_Desk_go_on:Fun K "go_on" "Desk.go_on" xr ad.f_Desk_go_on ad.e_Desk_go_on
 mb_Desk_go_on:xG K ad.e_Desk_go_on ["self","state"] []
 mm_Desk_go_on:zfx K ad.dk "go_on" ad.f_Desk_go_on
 mf_Desk_go_back:Fun K "go_back" "Desk.go_back" yO ad.f_Desk_go_back ad.e_Desk_go_back
 mb_Desk_go_back:xG K ad.e_Desk_go_back ["self"] []
 mm_Desk_go_back:zfx K ad.dk "go_back" ad.f_Desk_go_back
 g_MOST_PLACES:mg "MOST_PLACES"=some (Value.int 8 ad.t_MOST_PLACES)
 g_MOST_STONES:mg "MOST_STONES"=some (Value.int 300 ad.t_MOST_STONES)
 g_MOST_FIGURES:mg "MOST_FIGURES"=some (Value.int 3 ad.t_MOST_FIGURES)
 g_SIZES:mg "SIZES"=some (Value.ref ad.s_SIZES)
 b_SIZES:∀ h:Heap,K.In h->PyProof.Rows.KTD.TextTab h ad.s_SIZES (zct ZC)
 g_NoWeb:mg "NoWeb"=some (Value.ref ad.x_NoWeb)
 g_NoKind:mg "NoKind"=some (Value.ref ad.x_NoKind)
 g_NoHeap:mg "NoHeap"=some (Value.ref ad.x_NoHeap)
 g_NoPlace:mg "NoPlace"=some (Value.ref ad.x_NoPlace)
 g_NoNumber:mg "NoNumber"=some (Value.ref ad.x_NoNumber)
 g_NoTally:mg "NoTally"=some (Value.ref ad.x_NoTally)
 g_NotTree:mg "NotTree"=some (Value.ref ad.x_NotTree)
 g_NotJoined:mg "NotJoined"=some (Value.ref ad.x_NotJoined)
 g_NoWeights:mg "NoWeights"=some (Value.ref ad.x_NoWeights)
 g_NoRow:mg "NoRow"=some (Value.ref ad.x_NoRow)
 g_NoSteps:mg "NoSteps"=some (Value.ref ad.x_NoSteps)
 g_NoText:mg "NoText"=some (Value.ref ad.x_NoText)
 g_TooGreat:mg "TooGreat"=some (Value.ref ad.x_TooGreat)
 g_StoneError:mg "StoneError"=some (Value.ref ad.x_StoneError)
 c_NoKind:W.excIn K ad.x_NoKind bmV "ValueError.__new__"=true
 c_NoHeap:W.excIn K ad.x_NoHeap bmV "ValueError.__new__"=true
 c_NoPlace:W.excIn K ad.x_NoPlace bmV "ValueError.__new__"=true
 c_NoRow:W.excIn K ad.x_NoRow bmV "ValueError.__new__"=true
 y_NoWeb:vo K (ziS ad) ad.x_StoneError ad.x_NoWeb 0=true
 y_NoKind:vo K (ziS ad) ad.x_StoneError ad.x_NoKind 1=true
 y_NoHeap:vo K (ziS ad) ad.x_StoneError ad.x_NoHeap 2=true
 y_NoPlace:vo K (ziS ad) ad.x_StoneError ad.x_NoPlace 3=true
 y_NoRow:vo K (ziS ad) ad.x_StoneError ad.x_NoRow 9=true
 y_NoSteps:vo K (ziS ad) ad.x_StoneError ad.x_NoSteps 10=true
 fi_NoWeb:Fun K "__init__" "NoWeb.__init__" YG ad.i_NoWeb ad.j_NoWeb
 bi_NoWeb:xG K ad.j_NoWeb ["self","at"] []
 ei_NoWeb:zmA K ad.x_NoWeb ad.i_NoWeb=true
 ea_NoWeb:WE K ad.x_NoWeb=true
 na_NoWeb:zn2 K ad.x_NoWeb ["at"]=true
 fi_NoSteps:Fun K "__init__" "NoSteps.__init__" wY ad.i_NoSteps ad.j_NoSteps
 bi_NoSteps:xG K ad.j_NoSteps ["self","at"] []
 ei_NoSteps:zmA K ad.x_NoSteps ad.i_NoSteps=true
 ea_NoSteps:WE K ad.x_NoSteps=true
 na_NoSteps:zn2 K ad.x_NoSteps ["at"]=true
def zrA:(["number","word","numbers"]:zH).Nodup:=by decide +kernel
def zrT:(["tie","web","heap","ties"]:zH).Nodup:=by decide +kernel
def zrn:(["sign","word"]:zH).Nodup:=by decide +kernel
def zp1:(["part","row","words","numbers","wanted"]:zH).Nodup:=by decide +kernel
def zpy:(["stones","web","heap","word","numbers"]:zH).Nodup:=by decide +kernel
def Txt.at {w:World}{b:Adr}(T:Txt P w K c a b)(h:(Rw i).x=x):Def K c x (Rw i).st (Rw i).ps (b.f i) (b.e i):=h ▸ T.d i
abbrev Txt.Pr {P:zP}{w:World}{K:zv}{c:wn}{a:Heap}{b:Adr}(_:Txt P w K c a b)(i k n:Nat)(p:wm):Prop:=xB P w K c a CX0 k (b.f i) (b.e i) (Rw i).ps (@spD ⟨K,b.dk⟩ n p)
def Txt.go {w:World}{d:wn}{c:Adr}(T:Txt P w K d a c){k:Nat}{g:zz}(h:∀ (b:Value) (A:zR) (outer:List Env) (s:zn) (H:Hp) (E:XK),xk k (A.deeper (PyProof.Rows.envOfC (Rw i).x (zk (Rw i).st) s.heap.objs.size (c.f i) b))->@SDs ⟨K,c.dk⟩ (wZ CX0 P w K d a (Rw i).N (Rw i).x (zk (Rw i).st) (c.f i) b A outer s H E).nox (ya (Rw i).st) g):T.Pr i (k+1) (Rw i).ps.length (fnD (Rw i).N.length g) :=
 letI:KK:=⟨K,c.dk⟩
 Vo (N:=(Rw i).N) (ps:=(Rw i).ps) (T.d i).fn (sc i) (g:=g) h
abbrev Txt.Px {P:zP}{w:World}{K:zv}{c:wn}{a:Heap}{b:Adr}(_:Txt P w K c a b)(i k n:Nat)(p:ziQ):Prop:=xB P w K c a (Air P w) k (b.f i) (b.e i) (Rw i).ps (@spX ⟨K,b.dk⟩ (clT b) n p)
def Txt.gx {w:World}{d:wn}{b:Adr}(T:Txt P w K d a b){k:Nat}{gx:xa}(h:∀ (c:Value) (A:zR) (outer:List Env) (s:zn) (H:Hp) (E:XK),xk k (A.deeper (PyProof.Rows.envOfC (Rw i).x (zk (Rw i).st) s.heap.objs.size (b.f i) c))->@XSs ⟨K,b.dk⟩ E (clT b) (wZ (Air P w) P w K d a (Rw i).N (Rw i).x (zk (Rw i).st) (b.f i) c A outer s H E) (ya (Rw i).st) gx):T.Px i (k+1) (Rw i).ps.length (fnX (Rw i).N.length gx) :=
 letI:KK:=⟨K,b.dk⟩
 vN (cl:=clT b) (N:=(Rw i).N) (ps:=(Rw i).ps) (T.d i).fn (sc i) (gx:=gx) h
local macro_rules|`(tactic|walk_at "c")=>`(tactic|first
 |rfl
 |assumption
 |decide
 |exact (sc _).nd
 |exact ⟨rfl,rfl,rfl,rfl,rfl⟩
 |exact Or.inl rfl
 |exact Or.inr rfl
 |exact Or.inr (Or.inl rfl)
 |exact Or.inr (Or.inr rfl)
 |exact Txt.at ‹_› rfl
 |exact Txt.z ‹_› _ (by decide)
 |exact z5 _
 |exact u2e
 |exact yu
 |exact xk.mono ‹_› (by omega)
 |exact fun _=>rfl
 |exact fun _ _=>rfl
 |exact ⟨Or.inl rfl,rfl⟩
 |omega
 |exact vE
 |exact all_cons rfl vE
 |exact all_cons rfl (all_cons rfl vE)
 |exact all_cons rfl (all_cons rfl (all_cons rfl vE))
 |exact vH (v:=.ty "bool") rfl (Txt.z ‹_› _ (by decide)) zgo rfl
 |exact vH (v:=.ty "int") rfl (Txt.z ‹_› _ (by decide)) zdJ rfl
 |exact vH (v:=.ty "list") rfl (Txt.z ‹_› _ (by decide)) zap rfl
 |exact vH (v:=.ty "str") rfl (Txt.z ‹_› _ (by decide)) Wx rfl
 |exact vH (v:=.ty "tuple") rfl (Txt.z ‹_› _ (by decide)) zem rfl
 |exact W2 p8 PySem.F.slot_list_extend PySem.F.type_list_extend zg3 ‹_› ‹_›
 |exact xk.units0 ‹_›
 |with_unfolding_all rfl
 |kernel_rfl)
local macro_rules|`(tactic|walk_at "s")=>`(tactic|repeat' first
 |((with_reducible show @Eq _ _ _);first|rfl|exact Txt.z ‹_› _ (by decide)|assumption|exact zlH|exact zgo|exact Yt|exact zdJ|exact Yo|exact zap|exact zp3|exact zp9|exact Wx|exact zor|exact zem|decide|exact z5 _|with_unfolding_all rfl|kernel_rfl)
 |((with_reducible show ED _ _ _);first|(with_reducible first|apply edv|exact zt zr|apply yh|apply Vz|exact zQ zO|apply Yw|apply w6|exact zfa zbm|apply zk6|apply zlc|apply zov|apply zqE|exact VT VP|apply YI|apply zlJ|apply zmy|apply zpQ|apply zl4|(apply zjT;· assumption)|apply YW)|apply yM yH vX|apply Y0 (yy ?_) zZ|apply vP zaP zgA|apply vP Yq zdi|apply Y0 zbK WR|apply Y0 zpU xU|apply Y0 zau xU|apply Y0 zlS zgV|apply Y0 (zet ?_) zdF|apply yM (zcr ?_) zgL|apply yM (zhY ?_) zmW|apply yM (zhk ?_) zjz|apply yM (zij ?_) zkZ|refine zj0 zau zau xU xU ?_ ?_ ?_ (fun a b c=>zjr zau zau a b c)|exact zt (xc (v:=.int 8) rfl (Txt.g_MOST_PLACES ‹_›) ⟨_,rfl⟩)|exact zt (xc (v:=.int 300) rfl (Txt.g_MOST_STONES ‹_›) ⟨_,rfl⟩))
 |((with_reducible show AD _ _ _);first|(with_reducible first|apply zb|exact zg))
 |((with_reducible show SDs _ _ _);first|(with_reducible first|apply zgY|apply ziz|apply zA|apply zG|exact zY|apply zgY|apply ziz|apply wF))
 |((with_reducible show SD _ _ _);first|(with_reducible first|apply y8|apply xM|apply WB|apply wJ|apply zlA|apply zqf|apply zp7|apply zhi|apply zhr|apply zlz|apply zeG|apply vq))
 |((with_reducible show TD _ _ _);first|(with_reducible first|apply wl|apply td_b)|apply zS (yy ?_) zZ|apply zS zbK WR|apply zS znd xU|apply zS zfO ze2|apply zS (zgh ?_) zik|apply zS (zp5 ?_) znb|apply zS (zet ?_) zdF|apply zS zpU xU|apply zS zlS zgV|apply zS (zfW ?_) zcO|apply zS (zpv ?_) zmm|with_reducible apply wD)
 |((with_reducible show PG _ _ _);first|(with_reducible first|apply xF))
 |((with_reducible show WD _ _ _);first|(with_reducible first|apply zkY|apply zdS|apply zlf|apply zhe))
 |((with_reducible show FL _ _ _);first|(with_reducible first|apply vl|apply zm6|apply zfu|apply zri|apply zrd))
 |((with_reducible show BD _ _ _);first|(with_reducible first|apply Zb|apply ziK))
 |((with_reducible show ID _ _ _ _);first|(with_reducible first|apply WZ|apply zfR|apply zgd|apply zcD|apply zpL))
 |((with_reducible show XSs _ _ _ _ _);first|(with_reducible first|apply yf|apply zkO|apply yb|apply xK))
 |((with_reducible show BDs _ _ _);first|(with_reducible first|apply ZR|apply zdh))
 |((with_reducible show OD _ _ _);first|(with_reducible first|apply Ze|apply Vb))
 |((with_reducible show XS _ _ _ _ _);first|(with_reducible first|apply Yr|apply xs_e|apply xs_r|apply vu))
 |((with_reducible show PE _ _ _);first|(with_reducible first|apply pv))
 |((with_reducible show XE _ _ _ _ _);first|(with_reducible first|(apply zjm;· assumption)))
 |((with_reducible apply KR.mk);kernel_rfl)
 |((with_reducible apply UR.mk);with_unfolding_all rfl)
 |with_reducible intro s₀ H₀ ex pn
 |walk_at "c")
local macro_rules|`(tactic|walk_at "p")=>`(tactic|(letI:KK:=⟨‹W.Frag›,Adr.dk ‹Adr›⟩;refine Txt.go ‹_› fun _ _ _ _ _ _ hr=>?_;apply zA <;> walk_at "s"))
local macro_rules|`(tactic|walk_at "q")=>`(tactic|(letI:KK:=⟨‹W.Frag›,Adr.dk ‹Adr›⟩;refine Txt.go ‹_› fun _ _ _ _ _ _ hr=>?_;apply zG <;> walk_at "s"))
local macro_rules|`(tactic|walk_at "x")=>`(tactic|(letI:KK:=⟨‹W.Frag›,Adr.dk ‹Adr›⟩;refine Txt.gx ‹_› fun _ _ _ _ _ _ hr=>?_;(first|apply zkO|apply yb|apply xK) <;> walk_at "s"))
def ZE:D->Bool
 | .int _=>true
 | _=>false
def yX (d:D)(a b:Int):Bool:=match d with
 | .int i=>decide (a<=i)&&decide (i<=b)
 | _=>false
section
variable {P:zP}{w:World}{K:zv}{mg:wn}{base:Heap}{ad:Adr}
def yB:wm
 | [d]=>if noS d=true then some (.bl (ZE d))else none
 | _=>none
abbrev zeY :=yr (YR (eUn (y0 .int) (zc 0)) (zbf (eUn (y0 .bool) (zc 0))))
def zeQ:=fnD 1 zeY
def zn8 {α:Type}{b:List α}(h:b.length=1):∃ a,b=[a]:=by match b,h with | [a],_=>exact⟨a,rfl⟩
def ze7 {α:Type}{c:List α}(h:c.length=2):∃ a b,c=[a,b]:=by match c,h with | [a,b],_=>exact⟨a,b,rfl⟩
def len3 {α:Type}{d:List α}(h:d.length=3):∃ a b c,d=[a,b,c]:=by match d,h with | [a,b,c],_=>exact⟨a,b,c,rfl⟩
def ifS (h:(if c=true then some x else none)=some y):c=true/\x=y:=by
 split at h
 .cases h
  exact⟨by assumption,rfl⟩
 .cases h
def zcN:∀ b d,b.length=1->yB b=some d->zeQ b=some d:=by
 intro b d c h
 obtain⟨a,rfl⟩:=zn8 c
 obtain⟨e,rfl⟩:=ifS h
 cases a <;> first | rfl | cases e
def Va (T:Txt P w K mg base ad):T.Pr 0 1 1 yB:=by
 letI:KK:=⟨K,ad.dk⟩
 refine wE ?_ zcN
 walk_at "q"
abbrev wr :=yr (YR (zo 1 yB (za (zc 0) zj)) (x5 leD leD (zc 1) (zc 0) (zc 2)))
def vU:=fnD 3 wr
def zT:wm
 | [d,.int lo,.int hi]=>if noS d=true then some (.bl (yX d lo hi))else none
 | _=>none
def zaL {d:Int}(f:noS a=true)(hw:ZE a=false):vU [a,.int d,.int b]=some (.bl false):=by
 have e:yB [a]=some (.bl false):=by
  show(if noS a=true then some (D.bl (ZE a))else none)=_
  rw[t7 f,hw]
 refine Yp (ρ:=[.v a,.v (.int d),.v (.int b)]) rfl ?_
 unfold wr
 refine vJ (yd ?_) rfl
 show(((yB [a]).bind asB).bind λc=>if c=true then _ else some (D.bl false))=_
 rw[e]
 rfl
def ZG:∀ g d,g.length=3->zT g=some d->vU g=some d:=by
 intro g d k h
 obtain⟨a,b,c,rfl⟩:=len3 k
 cases b <;> try cases h
 cases c <;> try cases h
 rename_i f j
 obtain⟨e,rfl⟩:=ifS h
 cases a with
 | scr _=>cases e
 | obj _ _ _=>cases e
 | int i =>
  refine Yp (ρ:=[.v (.int i),.v (.int f),.v (.int j)]) rfl ?_
  unfold wr
  refine vJ (yd ?_) rfl
  show(if decide (f<=i)=true then some (D.bl (decide (i<=j)))else some (.bl false))=some (.bl (decide (f<=i)&&decide (i<=j)))
  cases decide (f<=i) <;> rfl
 | tup l=>exact zaL e rfl
 | lst l=>exact zaL e rfl
 | dct z t n m=>exact zaL e rfl
 | non=>rfl
 | bl _=>rfl
 | str _=>rfl
def wf (T:Txt P w K mg base ad):T.Pr 1 2 3 zT:=by
 letI:KK:=⟨K,ad.dk⟩
 have:=Va T
 refine wE ?_ ZG
 walk_at "q"
abbrev Yf :=yr (zo 3 zT (za (zc 0) (za (eC (.int 1)) (za (eC (.int 8)) zj))))
def wT:=fnD 1 Yf
def zW:wm
 | [d]=>if noS d=true then some (.bl (yX d 1 8))else none
 | _=>none
def Xa:∀ b d,b.length=1->zW b=some d->wT b=some d:=by
 intro b d f h
 obtain⟨a,rfl⟩:=zn8 f
 have e:wT [a]=zT [a,.int 1,.int 8]:=by
  cases c:zT [a,.int 1,.int 8] <;> simp[wT,Yf,fnD,zK,yr,Zp,sIf,xD,vx,sNo,zD,zea,Wr,Vm,zbd,W4,vEv,visF,visG,Sl.f,Sl.g,zc,eC,zh,YR,eOr,zbf,eIf,eUn,ZT,wW,xq,yi,za,zj,zo,eFn,fFn,tOf,YA,X8,yn,asB,asI,xg,WT,Zn,vB,Zm,zaN,v6,ltD,leD,gtD,geD,za8,yL,wa,yj,xV,zbc,xf,ixD,Yz,y0,isT,eSl,wo,xm,x5,wk,iOf,XG,vI,VO,Zl,zbj,xX,YU,fLC,xp,xI,vD,wc,Vu,wQ,V0,b1,b2,c]
 rw[e]
 exact h
def wt (T:Txt P w K mg base ad):T.Pr 2 3 1 zW:=by
 letI:KK:=⟨K,ad.dk⟩
 have:=wf T
 refine wE ?_ Xa
 walk_at "q"
abbrev VQ :=yr (zo 3 zT (za (zc 1) (za (eC (.int 0)) (za (zh WT (zc 0) (eC (.int 1))) zj))))
def ZU:=fnD 2 VQ
def yC:wm
 | [.int m,d]=>if noS d=true then some (.bl (yX d 0 (m-1)))else none
 | _=>none
def zcU:∀ c d,c.length=2->yC c=some d->ZU c=some d:=by
 intro c d f h
 obtain⟨a,b,rfl⟩:=ze7 f
 cases a <;> try cases h
 rename_i m
 have e:ZU [.int m,b]=zT [b,.int 0,.int (m-1)]:=by
  cases g:zT [b,.int 0,.int (m-1)] <;> simp[ZU,VQ,fnD,zK,yr,Zp,sIf,xD,vx,sNo,zD,zea,Wr,Vm,zbd,W4,vEv,visF,visG,Sl.f,Sl.g,zc,eC,zh,YR,eOr,zbf,eIf,eUn,ZT,wW,xq,yi,za,zj,zo,eFn,fFn,tOf,YA,X8,yn,asB,asI,xg,WT,Zn,vB,Zm,zaN,v6,ltD,leD,gtD,geD,za8,yL,wa,yj,xV,zbc,xf,ixD,Yz,y0,isT,eSl,wo,xm,x5,wk,iOf,XG,vI,VO,Zl,zbj,xX,YU,fLC,xp,xI,vD,wc,Vu,wQ,V0,b1,b2,g]
 rw[e]
 exact h
def Zd (T:Txt P w K mg base ad):T.Pr 3 3 2 yC:=by
 letI:KK:=⟨K,ad.dk⟩
 have:=wf T
 refine wE ?_ zcU
 walk_at "q"
def zcZ {m:Int}:yX (.int i) 0 (m-1)=inR m i:=rfl
def zm1 {d:D}(h:∀ i,d≠.int i):yX d a b=false:=by
 cases d <;> first | rfl | exact absurd rfl (h _)
def zb5 {d:D}(h:yX d a b=true):∃ i,d=.int i:=by
 cases d with
 | int i=>exact⟨i,rfl⟩
 | _=>cases h
abbrev zbG :=zK (sIf (X8 (yn (tOf (eUn (y0 .tuple) (zc 1)))) (tOf (zh neD (eFn Yz (za (zc 1) zj)) (eC (.int 2))))) (yr (eC (.bl false))) zD)
  (yr (YR (zo 2 yC (za (zc 0) (za (zh ixD (zc 1) (eC (.int 0))) zj))) (YR (zo 2 yC (za (zc 0) (za (zh ixD (zc 1) (eC (.int 1))) zj))) (zh neD (zh ixD (zc 1) (eC (.int 0))) (zh ixD (zc 1) (eC (.int 1)))))))
def zh6:=fnD 2 zbG
def ye:wm
 | [.int m,d]=>if noS d=true then some (.bl (wN m d))else none
 | _=>none
def zkE {m:Int}(h:yX x 0 (m-1)=false):wN m (.tup [x,y])=false:=by
 cases x with
 | int i =>
  cases y with
  | int j =>
   show(inR m i&&inR m j&&!decide (i=j))=false
   rw[show inR m i=false from h]
   rfl
  | _=>rfl
 | _=>rfl
def zkk {m:Int}(h:yX y 0 (m-1)=false):wN m (.tup [x,y])=false:=by
 cases x with
 | int i =>
  cases y with
  | int j =>
   show(inR m i&&inR m j&&!decide (i=j))=false
   rw[show inR m j=false from h,u0U]
   rfl
  | _=>rfl
 | _=>rfl
def zfk:∀ f d,f.length=2->ye f=some d->zh6 f=some d:=by
 intro f d g h
 obtain⟨a,b,rfl⟩:=ze7 g
 cases a <;> try cases h
 rename_i m
 obtain⟨l,rfl⟩:=ifS h
 clear h
 cases b with
 | tup k =>
  refine Yp (ρ:=[.v (.int m),.v (.tup k)]) rfl ?_
  unfold zbG
  by_cases g:k.length=2
  .obtain⟨x,y,rfl⟩:=ze7 g
   have s:noS x=true:=Ya (ds:=[x,y]) (i:=0) l rfl
   have r:noS y=true:=Ya (ds:=[x,y]) (i:=1) l rfl
   have u:yC [.int m,x]=some (.bl (yX x 0 (m-1))):=by
    show(if noS x=true then some (D.bl (yX x 0 (m-1)))else none)=_
    rw[t7 s]
   have v:yC [.int m,y]=some (.bl (yX y 0 (m-1))):=by
    show(if noS y=true then some (D.bl (yX y 0 (m-1)))else none)=_
    rw[t7 r]
   refine zw (ρ':=[.v (.int m),.v (.tup [x,y])]) rfl (vJ (yd ?_) rfl)
   show(((yC [.int m,x]).bind asB).bind λc=>if c=true then (((yC [.int m,y]).bind asB).bind λc=>if c=true then neD x y else some (D.bl false))else some (D.bl false))=_
   rw[u,v]
   cases o:yX x 0 (m-1) with
   | false=>rw[zkE o];rfl
   | true =>
    cases p:yX y 0 (m-1) with
    | false=>rw[zkk p];rfl
    | true =>
     obtain⟨i,rfl⟩:=zb5 o
     obtain⟨j,rfl⟩:=zb5 p
     show some (D.bl (!decide (i=j)))=some (.bl (inR m i&&inR m j&&!decide (i=j)))
     rw[show inR m i=true from o,show inR m j=true from p]
     rfl
  .have e:wN m (.tup k)=false:=by
    unfold wN Y6
    split
    .rename_i t q
     split at q
     .rename_i n
      injection n with n
      rw[n]at g
      exact absurd rfl g
     .cases q
    .rfl
   rw[e]
   refine wH (ziP (c:=true) ?_ (λ_=>vJ rfl rfl) λz=>by cases z)
   show some (!decide ((k.length:Int)=2))=_
   rw[t8 (show ¬ (k.length:Int)=2 from λh=>g (Int.ofNat.inj h))]
   rfl
 | scr _=>cases l
 | obj _ _ _=>cases l
 | _=>rfl
def YH (T:Txt P w K mg base ad):T.Pr 5 4 2 ye:=by
 letI:KK:=⟨K,ad.dk⟩
 have:=Zd T
 refine wE ?_ zfk
 walk_at "p"
def zbQ (ds:zm):Nat->Option Tie
 | 0=>none
 | k+1=>(ds[k]?).bind Y6
abbrev Xx :=zK (sIf (X8 (yn (tOf (zo 2 ye (za (zc 0) (za (zc 3) zj))))) (tOf (zh gtD (zh ixD (zc 3) (eC (.int 0))) (zh ixD (zc 3) (eC (.int 1)))))) (yr (eC (.bl false))) zD)
  (sIf (YA (tOf (zh gtD (zc 2) (eC (.int 0)))) (tOf (zh leT (zc 3) (zh ixD (zc 1) (zh WT (zc 2) (eC (.int 1))))))) (yr (eC (.bl false))) zD)
abbrev Xe :=zK (sIf (yn (tOf (eUn (y0 .tuple) (zc 1)))) (yr (eC (.bl false))) zD)
  (zK (XG (xX (za (zc 1) zj)) (Vu 2 (wQ (wc 2) (wQ (wc 3) V0))) Xx)
  (yr (eC (.bl true))))
def zfs:=fnD 4 Xe
def vS:wm
 | [.int m,d]=>if noS d=true then some (.bl (YK m d))else none
 | _=>none
def Vq {d:D}(h:wN m d=true):∃ t,d=zd t:=by
 unfold wN at h
 split at h
 .rename_i t a
  exact⟨t,W5 a⟩
 .cases h
def zcW:∀ A d,A.length=2->vS A=some d->zfs A=some d:=by
 intro A d K h
 obtain⟨a,b,rfl⟩:=ze7 K
 cases a <;> try cases h
 rename_i m
 obtain⟨H,rfl⟩:=ifS h
 clear h K
 cases b with
 | scr _=>cases H
 | obj _ _ _=>cases H
 | tup f =>
  refine Yp (g:=Xe) rfl ?_
  unfold Xe
  refine zw rfl ?_
  refine wH (zks (ds:=XM 0 f) (λi ρ=>∃ G F,ρ=[.v (.int m),.v (.tup f),G,F]/\yW m none f=yW m (zbQ f i) (f.drop i)/\∀ k,i=k+1->∃ p,f[k]?=some (zd p)) rfl
   ⟨.no,.no,rfl,rfl,λk e=>by cases e⟩ ?_ ?_)
  .rintro i d ρ I ⟨G,F,rfl,B,J⟩
   rw[vg]at I
   obtain⟨s,q,rfl⟩:=t4.mp I
   rw[g8]
   refine⟨_,rfl,?_⟩
   have n:f.drop i=s::f.drop (i+1):=by
    obtain⟨L,M⟩:=j3.mp q
    rw[u0a L,M]
   have x:noS s=true:=Ya H q
   unfold Xx
   cases r:wN m s with
   | false =>
    have C:ye [.int m,s]=some (.bl false):=by
     show(if noS s=true then some (D.bl (wN m s))else none)=_
     rw[t7 x,r]
    refine wH (ziP (c:=true) (show(((ye [.int m,s]).bind asB).map (!·)).bind (λc=>if c=true then some true else _)=_ by rw[C];rfl) (λ_=>vJ rfl ?_) (λz=>by cases z))
    have e:yW m none f=false:=by
     rw[B,n]
     unfold yW
     split
     .rw[r];rfl
     .rfl
    show D.bl false=.bl (yW m none f)
    rw[e]
   | true =>
    obtain⟨t,rfl⟩:=Vq r
    have C:ye [.int m,zd t]=some (.bl true):=by
     show(if noS (zd t)=true then some (D.bl (wN m (zd t)))else none)=_
     rw[t7 x,r]
    have l:yW m none f=(!decide (t.2<t.1)&&zb7 (zbQ f i) t&&yW m (some t) (f.drop (i+1))):=by
     rw[B,n]
     conv=>lhs;unfold yW
     rw[Yk,r]
     rfl
    have o:zbQ f (i+1)=some t:=by
     show(f[i]?).bind Y6=some t
     rw[q]
     rfl
    refine wH (ziP (c:=decide (t.2<t.1)) (show(((ye [.int m,zd t]).bind asB).map (!·)).bind (λc=>if c=true then some true else some (decide (t.2<t.1)))=_ by rw[C];rfl) (λc=>vJ rfl ?_) (λc=>zcx rfl ?_))
    .show D.bl false=.bl (yW m none f)
     rw[l,c]
     rfl
    .cases i with
     | zero =>
      refine ziP (c:=false) rfl (λz=>by cases z) (λ_=>zcx rfl ?_)
      refine⟨_,_,rfl,?_,λk e=>?_⟩
      .rw[o,l,c]
       rfl
      .cases e
       exact⟨t,q⟩
     | succ j =>
      obtain⟨p,v⟩:=J j rfl
      have u:zbQ f (j+1)=some p:=by
       show(f[j]?).bind Y6=some p
       rw[v]
       rfl
      rw[u]at l
      have N:atI f ((((j+1:Nat):Int))-1)=some (zd p):=by
       rw[show(((j+1:Nat):Int))-1=(j:Nat)from Int.add_sub_cancel (j:Int) 1]
       exact zhI v
      have w:zb7 (some p) t=!leP t p:=rfl
      refine ziP (c:=leP t p) ?_ (λE=>vJ rfl ?_) (λE=>zcx rfl ?_)
      .have z:decide ((0:Int)<((j+1:Nat):Int))=true:=q0 (Int.natCast_pos.mpr (Nat.succ_pos j))
       show((some (decide ((0:Int)<((j+1:Nat):Int)))).bind λc=>if c=true then (((atI f (((j+1:Nat):Int)-1)).bind λy=>leT (zd t) y).bind asB)else some false)=_
       rw[z,N]
       rfl
      .show D.bl false=.bl (yW m none f)
       rw[l,w,E,c]
       rfl
      .refine⟨_,_,rfl,?_,λO e=>?_⟩
       .rw[o,l,w,E,c]
        rfl
       .cases e
        exact⟨t,q⟩
  .rintro ρ ⟨G,F,rfl,B,J⟩
   refine vJ rfl ?_
   show D.bl true=.bl (yW m none f)
   rw[B,xP,u0R]
   cases zbQ f f.length <;> rfl
 | _=>rfl
def zcI (T:Txt P w K mg base ad):T.Pr 6 5 2 vS:=by
 letI:KK:=⟨K,ad.dk⟩
 have:=YH T
 refine wE ?_ zcW
 walk_at "p"
abbrev XZ :=zK (sIf (X8 (yn (tOf (eUn (y0 .tuple) (zc 0)))) (tOf (zh neD (eFn Yz (za (zc 0) zj)) (eC (.int 2))))) (yr (eC (.bl false))) zD)
  (yr (YR (zo 1 zW (za (zh ixD (zc 0) (eC (.int 0))) zj)) (zo 2 vS (za (zh ixD (zc 0) (eC (.int 0))) (za (zh ixD (zc 0) (eC (.int 1))) zj)))))
def XW:=fnD 1 XZ
def v4:wm
 | [d]=>if noS d=true then some (.bl (wB d))else none
 | _=>none
def zgC:wB (.tup [x,y])=(yX x 1 8&&match x with | .int m=>YK m y | _=>false):=by
 cases x <;> rfl
def ziF:∀ b d,b.length=1->v4 b=some d->XW b=some d:=by
 intro b d c h
 obtain⟨a,rfl⟩:=zn8 c
 obtain⟨g,rfl⟩:=ifS h
 clear h c
 cases a with
 | scr _=>cases g
 | obj _ _ _=>cases g
 | tup k =>
  by_cases c:k.length=2
  .obtain⟨x,y,rfl⟩:=ze7 c
   have r:noS x=true:=Ya (ds:=[x,y]) (i:=0) g rfl
   have p:noS y=true:=Ya (ds:=[x,y]) (i:=1) g rfl
   have f:zW [x]=some (.bl (yX x 1 8)):=by simp[zW,r]
   rw[zgC]
   by_cases l:∃ i,x=.int i
   .obtain⟨i,rfl⟩:=l
    have s:vS [.int i,y]=some (.bl (YK i y)):=by simp[vS,p]
    cases q:yX (.int i) 1 8 <;> rw[q]at f <;> simp[XW,XZ,fnD,zK,yr,Zp,sIf,xD,vx,sNo,zD,zea,Wr,Vm,zbd,W4,vEv,visF,visG,Sl.f,Sl.g,zc,eC,zh,YR,eOr,zbf,eIf,eUn,ZT,wW,xq,yi,za,zj,zo,eFn,fFn,tOf,YA,X8,yn,asB,asI,xg,WT,Zn,vB,Zm,zaN,v6,ltD,leD,gtD,geD,za8,yL,wa,yj,xV,zbc,xf,ixD,Yz,y0,isT,eSl,wo,xm,x5,wk,iOf,XG,vI,VO,Zl,zbj,xX,YU,fLC,xp,xI,vD,wc,Vu,wQ,V0,b1,b2,f,s,atI,ixN]
   .have t:yX x 1 8=false:=zm1 λj o=>l ⟨j,o⟩
    rw[t]at f ⊢
    simp[XW,XZ,fnD,zK,yr,Zp,sIf,xD,vx,sNo,zD,zea,Wr,Vm,zbd,W4,vEv,visF,visG,Sl.f,Sl.g,zc,eC,zh,YR,eOr,zbf,eIf,eUn,ZT,wW,xq,yi,za,zj,zo,eFn,fFn,tOf,YA,X8,yn,asB,asI,xg,WT,Zn,vB,Zm,zaN,v6,ltD,leD,gtD,geD,za8,yL,wa,yj,xV,zbc,xf,ixD,Yz,y0,isT,eSl,wo,xm,x5,wk,iOf,XG,vI,VO,Zl,zbj,xX,YU,fLC,xp,xI,vD,wc,Vu,wQ,V0,b1,b2,f,atI,ixN]
  .have e:wB (.tup k)=false:=zl1 λm n h _=>by
    unfold zI at h
    injection h with h
    rw[h]at c
    exact c rfl
   rw[e]
   have:¬ (k.length:Int)=2:=by omega
   simp[XW,XZ,fnD,zK,yr,Zp,sIf,xD,vx,sNo,zD,zea,Wr,Vm,zbd,W4,vEv,visF,visG,Sl.f,Sl.g,zc,eC,zh,YR,eOr,zbf,eIf,eUn,ZT,wW,xq,yi,za,zj,zo,eFn,fFn,tOf,YA,X8,yn,asB,asI,xg,WT,Zn,vB,Zm,zaN,v6,ltD,leD,gtD,geD,za8,yL,wa,yj,xV,zbc,xf,ixD,Yz,y0,isT,eSl,wo,xm,x5,wk,iOf,XG,vI,VO,Zl,zbj,xX,YU,fLC,xp,xI,vD,wc,Vu,wQ,V0,b1,b2,this]
 | _=>rfl
def zcg (T:Txt P w K mg base ad):T.Pr 7 6 1 v4:=by
 letI:KK:=⟨K,ad.dk⟩
 have:=wt T
 have:=zcI T
 refine wE ?_ ziF
 walk_at "p"
def ziJ (m:Int)(a:z0):noS (zI m a)=true:=by
 have:∀ a:z0,ziN (a.map zd)=true:=by
  intro a
  induction a with
  | nil=>rfl
  | cons t a b=>show(noS (zd t)&&ziN (a.map zd))=true;rw[b];rfl
 show(noS (.int m)&&(noS (.tup (a.map zd))&&true))=true
 rw[show noS (.tup (a.map zd))=ziN (a.map zd)from rfl,this a]
 rfl
abbrev Zx :=sIf (yn (tOf (zo 1 v4 (za (zc 0) zj)))) sNo zD
def Zs:=fnD 1 Zx
def zV:wm
 | [d]=>if wB d=true then some .non else none
 | _=>none
def Vs:∀ b d,b.length=1->zV b=some d->Zs b=some d:=by
 intro b d f h
 obtain⟨a,rfl⟩:=zn8 f
 obtain⟨hw,rfl⟩:=ifS h
 obtain⟨m,c,rfl,_⟩:=(xy a).mp hw
 have e:v4 [zI m c]=some (.bl true):=by simp[v4,ziJ m c,hw]
 simp[Zs,Zx,fnD,zK,yr,Zp,sIf,xD,vx,sNo,zD,zea,Wr,Vm,zbd,W4,vEv,visF,visG,Sl.f,Sl.g,zc,eC,zh,YR,eOr,zbf,eIf,eUn,ZT,wW,xq,yi,za,zj,zo,eFn,fFn,tOf,YA,X8,yn,asB,asI,xg,WT,Zn,vB,Zm,zaN,v6,ltD,leD,gtD,geD,za8,yL,wa,yj,xV,zbc,xf,ixD,Yz,y0,isT,eSl,wo,xm,x5,wk,iOf,XG,vI,VO,Zl,zbj,xX,YU,fLC,xp,xI,vD,wc,Vu,wQ,V0,b1,b2,e]
def wz (T:Txt P w K mg base ad):T.Pr 8 7 1 zV:=by
 letI:KK:=⟨K,ad.dk⟩
 have:=zcg T
 refine wE ?_ Vs
 walk_at "q"
def wb:D->Bool
 | .int i=>decide (0<=i)
 | _=>false
def zkn:D->Int
 | .int i=>i
 | _=>0
def xl (m:Int):D->Bool
 | .tup a=>decide ((a.length:Int)=m)&&a.all wb
 | _=>false
def zju {α:Type}(f:α->Bool)(l:List α):zn3 [.lst (l.map λx=>.bl (f x))]=some (.bl (l.all f)):=by
 have:zns (l.map λx=>D.bl (f x))=some (l.map f):=by
  have:=zkF (l.map f)
  rwa[u0F]at this
 show((zns (l.map λx=>D.bl (f x))).bind λa=>some (D.bl (a.all id)))=_
 rw[this]
 show some (D.bl ((l.map f).all id))=_
 rw[u1N]
 rfl
def WO {a:zm}(h:a.all wb=true):∃ ns:zC,a=ns.map .int/\∀ n∈ns,0<=n:=by
 induction a with
 | nil=>exact⟨[],rfl,by simp⟩
 | cons d a c =>
  rw[u14,j0]at h
  obtain⟨ns,rfl,e⟩:=c h.2
  cases d with
  | int i=>exact⟨i::ns,rfl,λn b=>by
   rcases q7.mp b with rfl | b
   .exact k8 h.1
   .exact e n b⟩
  | _=>exact absurd h.1 u7
def zfU {ns:zC}(h:∀ n∈ns,0<=n):(ns.map D.int).all wb=true:=by
 rw[u1N,p4]
 exact λn a=>q0 (h n a)
def zf8 (ns:zC):zrx [.tup (ns.map .int)]=some (.int ns.sum):=by
 show((znZ (ns.map .int)).bind λns=>some (D.int ns.sum))=_
 rw[zja]
 rfl
abbrev vv :=zK (sIf (X8 (yn (tOf (eUn (y0 .tuple) (zc 1)))) (tOf (zh neD (eFn Yz (za (zc 1) zj)) (zc 0)))) (yr (eC (.bl false))) zD)
  (yr (eFn zn3 (za (xq (fLC (iOf (zc 1)) b1 xp (YR (zo 1 yB (za (zc 0) zj)) (zh geD (zc 0) (eC (.int 0)))))) zj)))
def Xw:=fnD 2 vv
def wC:wm
 | [.int m,d]=>if (noS d&&decide (m<=1000))=true then some (.bl (xl m d))else none
 | _=>none
def zpu {d:D}(a:noS d=true):((yB [d]).bind asB).bind (λc=>if c=true then geD d (.int 0)else some (.bl false))=some (.bl (wb d)):=by
 cases d with
 | scr _=>cases a
 | obj _ _ _=>cases a
 | tup _=>simp[yB,a,ZE,asB,wb]
 | lst _=>simp[yB,a,ZE,asB,wb]
 | _=>rfl
def za4:∀ n d,n.length=2->wC n=some d->Xw n=some d:=by
 intro n d k h
 obtain⟨a,b,rfl⟩:=ze7 k
 cases a <;> try cases h
 rename_i m
 obtain⟨l,rfl⟩:=ifS h
 clear h k
 rw[j0,j9]at l
 obtain⟨l,q⟩:=l
 cases b with
 | scr _=>cases l
 | obj _ _ _=>cases l
 | tup g =>
  by_cases k:(g.length:Int)=m
  .have e:fLC (iOf (zc 1)) b1 xp (YR (zo 1 yB (za (zc 0) zj)) (zh geD (zc 0) (eC (.int 0)))) [some (.int m),some (.tup g)]=some (g.map λd=>.bl (wb d)):=by
    unfold fLC
    show(if lim g.length=true then _ else none)=_
    rw[t7 (vc (by omega))]
    have:=Xc (b:=b1) (t:=xp) (f:=YR (zo 1 yB (za (zc 0) zj)) (zh geD (zc 0) (eC (.int 0)))) (ρ:=[some (.int m),some (.tup g)]) id (λd=>.bl (wb d)) g
     (λd p=>⟨[some d],rfl,rfl,zpu (by obtain⟨j,o,rfl⟩:=u1f p;exact Ya (i:=j) l (by simp[o]))⟩)
    rwa[List.map_id]at this
   show fnD 2 vv _=_
   refine Yp rfl ?_
   unfold vv
   refine wH (ziP (c:=false) (by simp[fnD,zK,yr,Zp,sIf,xD,vx,sNo,zD,zea,Wr,Vm,zbd,W4,vEv,visF,visG,Sl.f,Sl.g,zc,eC,zh,YR,eOr,zbf,eIf,eUn,ZT,wW,xq,yi,za,zj,zo,eFn,fFn,tOf,YA,X8,yn,asB,asI,xg,WT,Zn,vB,Zm,zaN,v6,ltD,leD,gtD,geD,za8,yL,wa,yj,xV,zbc,xf,ixD,Yz,y0,isT,eSl,wo,xm,x5,wk,iOf,XG,vI,VO,Zl,zbj,xX,YU,fLC,xp,xI,vD,wc,Vu,wQ,V0,b1,b2,k]) (λz=>by cases z) λ_=>zcx rfl (vJ (d:=.bl (g.all wb)) ?_ ?_))
   .show(match (((fLC (iOf (zc 1)) b1 xp (YR (zo 1 yB (za (zc 0) zj)) (zh geD (zc 0) (eC (.int 0)))) [some (.int m),some (.tup g)]).map D.lst).bind λd=>(some []:Option zm).map (d::·)).bind zn3 with | some d=>Ctl.rt d | none=>Ctl.no)=_
    rw[e]
    show(match zn3 [.lst (g.map λd=>.bl (wb d))]with | some d=>Ctl.rt d | none=>Ctl.no)=_
    rw[zju]
   .show D.bl (g.all wb)=.bl (decide ((g.length:Int)=m)&&g.all wb)
    rw[q0 k,Bool.true_and]
  .have e:xl m (.tup g)=false:=by
    show(decide ((g.length:Int)=m)&&g.all wb)=false
    rw[t8 k,u29]
   rw[e]
   simp[Xw,vv,fnD,zK,yr,Zp,sIf,xD,vx,sNo,zD,zea,Wr,Vm,zbd,W4,vEv,visF,visG,Sl.f,Sl.g,zc,eC,zh,YR,eOr,zbf,eIf,eUn,ZT,wW,xq,yi,za,zj,zo,eFn,fFn,tOf,YA,X8,yn,asB,asI,xg,WT,Zn,vB,Zm,zaN,v6,ltD,leD,gtD,geD,za8,yL,wa,yj,xV,zbc,xf,ixD,Yz,y0,isT,eSl,wo,xm,x5,wk,iOf,XG,vI,VO,Zl,zbj,xX,YU,fLC,xp,xI,vD,wc,Vu,wQ,V0,b1,b2,k]
 | _=>rfl
def zaf (T:Txt P w K mg base ad):T.Pr 4 2 2 wC:=by
 letI:KK:=⟨K,ad.dk⟩
 have:=Va T
 refine wE ?_ za4
 walk_at "p"
def xE (m:Int):D->Bool
 | .tup a=>xl m (.tup a)&&decide ((a.map zkn).sum<=300)
 | _=>false
def xQ (ns:zC):(ns.map D.int).map zkn=ns:=by rw[u0F];exact(u2c λ_ _=>rfl).trans (List.map_id _)
abbrev Yy :=yr (YR (zo 2 wC (za (zh ixD (zc 0) (eC (.int 0))) (za (zc 1) zj))) (zh leD (eFn zrx (za (zc 1) zj)) (eC (.int 300))))
def Yv:=fnD 2 Yy
def yt:wm
 | [.tup [.int m,_],d]=>if (noS d&&decide (m<=1000))=true then some (.bl (xE m d))else none
 | _=>none
def zao:∀ g d,g.length=2->yt g=some d->Yv g=some d:=by
 intro g d n h
 obtain⟨a,b,rfl⟩:=ze7 n
 unfold yt at h
 split at h
 .rename_i m t p e
  injection e with e1 e2
  injection e2 with e2 _
  subst e1 e2
  obtain⟨l,rfl⟩:=ifS h
  have f:wC [.int m,b]=some (.bl (xl m b)):=by simp only[wC];rw[t7 l]
  cases c:xl m b with
  | false =>
   rw[c]at f
   have i:xE m b=false:=by
    cases b <;> try rfl
    show(xl m _&&_)=false
    rw[c]
    rfl
   rw[i]
   simp[Yv,Yy,fnD,zK,yr,Zp,sIf,xD,vx,sNo,zD,zea,Wr,Vm,zbd,W4,vEv,visF,visG,Sl.f,Sl.g,zc,eC,zh,YR,eOr,zbf,eIf,eUn,ZT,wW,xq,yi,za,zj,zo,eFn,fFn,tOf,YA,X8,yn,asB,asI,xg,WT,Zn,vB,Zm,zaN,v6,ltD,leD,gtD,geD,za8,yL,wa,yj,xV,zbc,xf,ixD,Yz,y0,isT,eSl,wo,xm,x5,wk,iOf,XG,vI,VO,Zl,zbj,xX,YU,fLC,xp,xI,vD,wc,Vu,wQ,V0,b1,b2,f,atI,ixN]
  | true =>
   rw[c]at f
   cases b with
   | tup o =>
    have k:o.all wb=true:=by
     unfold xl at c
     rw[j0]at c
     exact c.2
    obtain⟨ns,rfl,j⟩:=WO k
    have i:xE m (.tup (ns.map .int))=decide (ns.sum<=300):=by
     show(xl m _&&decide (((ns.map D.int).map zkn).sum<=300))=_
     rw[c,xQ,Bool.true_and]
    rw[i]
    simp[Yv,Yy,fnD,zK,yr,Zp,sIf,xD,vx,sNo,zD,zea,Wr,Vm,zbd,W4,vEv,visF,visG,Sl.f,Sl.g,zc,eC,zh,YR,eOr,zbf,eIf,eUn,ZT,wW,xq,yi,za,zj,zo,eFn,fFn,tOf,YA,X8,yn,asB,asI,xg,WT,Zn,vB,Zm,zaN,v6,ltD,leD,gtD,geD,za8,yL,wa,yj,xV,zbc,xf,ixD,Yz,y0,isT,eSl,wo,xm,x5,wk,iOf,XG,vI,VO,Zl,zbj,xX,YU,fLC,xp,xI,vD,wc,Vu,wQ,V0,b1,b2,f,zf8,atI,ixN]
   | _=>cases c
 .cases h
def wX (T:Txt P w K mg base ad):T.Pr 13 3 2 yt:=by
 letI:KK:=⟨K,ad.dk⟩
 have:=zaf T
 refine wE ?_ zao
 walk_at "q"
def zd7 {m:Int}(h:xR m a):Zl [.int m]=some (VY 0 m.toNat):=by
 have:=h.lo
 have:=h.hi
 show(if zme m=true then some (VY 0 m.toNat)else none)=_
 rw[t7 (wA.mpr ⟨by omega,by omega⟩)]
abbrev YX :=sIf (yn (tOf (zo 2 yt (za (zc 0) (za (zc 1) zj))))) sNo zD
def Y4:=fnD 2 YX
def z3:wm
 | [.tup [.int m,_],d]=>if (noS d&&decide (m<=1000)&&xE m d)=true then some .non else none
 | _=>none
def WL:∀ c d,c.length=2->z3 c=some d->Y4 c=some d:=by
 intro c d g h
 obtain⟨a,b,rfl⟩:=ze7 g
 unfold z3 at h
 split at h
 .rename_i m t j e
  injection e with e1 e2
  injection e2 with e2 _
  subst e1 e2
  obtain⟨f,rfl⟩:=ifS h
  rw[j0]at f
  have i:yt [.tup [.int m,t],b]=some (.bl true):=by simp only[yt];rw[t7 f.1,f.2]
  simp[Y4,YX,fnD,zK,yr,Zp,sIf,xD,vx,sNo,zD,zea,Wr,Vm,zbd,W4,vEv,visF,visG,Sl.f,Sl.g,zc,eC,zh,YR,eOr,zbf,eIf,eUn,ZT,wW,xq,yi,za,zj,zo,eFn,fFn,tOf,YA,X8,yn,asB,asI,xg,WT,Zn,vB,Zm,zaN,v6,ltD,leD,gtD,geD,za8,yL,wa,yj,xV,zbc,xf,ixD,Yz,y0,isT,eSl,wo,xm,x5,wk,iOf,XG,vI,VO,Zl,zbj,xX,YU,fLC,xp,xI,vD,wc,Vu,wQ,V0,b1,b2,i]
 .cases h
def x4 (T:Txt P w K mg base ad):T.Pr 14 4 2 z3:=by
 letI:KK:=⟨K,ad.dk⟩
 have:=wX T
 refine wE ?_ WL
 walk_at "q"
def Zy (h:xR m a):decide (m<=1000)=true:=q0 (by have:=h.hi;omega)
def Yi:D->Int
 | .tup [.int m,_]=>m
 | _=>0
def XJ:D->z0
 | .tup [_,.tup l]=>(zfN l).getD []
 | _=>[]
def xJ (m:Int)(a:z0):Yi (zI m a)=m:=rfl
def zif (a:z0):a.map zd=a.map prD:=rfl
def we (m:Int)(a:z0):XJ (zI m a)=a:=by
 show(zfN (a.map zd)).getD []=a
 rw[zif,zgR]
 rfl
def ym (a b:Int):Tie:=(if b<a then b else a,if b>a then b else a)
abbrev Ys :=sIf (yn (tOf (zo 2 yC (za (zh ixD (zc 0) (eC (.int 0))) (za (zc 1) zj))))) sNo zD
def YC:=fnD 2 Ys
def zp:wm
 | [.tup [.int m,_],.int p]=>if (decide (0<=p)&&decide (p<=m-1))=true then some .non else none
 | _=>none
def XO:∀ f d,f.length=2->zp f=some d->YC f=some d:=by
 intro f d g h
 obtain⟨a,b,rfl⟩:=ze7 g
 unfold zp at h
 split at h
 .rename_i m t c e
  injection e with e1 e2
  injection e2 with e2 _
  subst e1 e2
  obtain⟨j,rfl⟩:=ifS h
  have i:yC [.int m,.int c]=some (.bl true):=by
   show(if noS (.int c)=true then some (D.bl (yX (.int c) 0 (m-1)))else none)=_
   rw[t7 (show noS (.int c)=true from rfl),zcZ]
   unfold inR
   rw[j]
  simp[YC,Ys,fnD,zK,yr,Zp,sIf,xD,vx,sNo,zD,zea,Wr,Vm,zbd,W4,vEv,visF,visG,Sl.f,Sl.g,zc,eC,zh,YR,eOr,zbf,eIf,eUn,ZT,wW,xq,yi,za,zj,zo,eFn,fFn,tOf,YA,X8,yn,asB,asI,xg,WT,Zn,vB,Zm,zaN,v6,ltD,leD,gtD,geD,za8,yL,wa,yj,xV,zbc,xf,ixD,Yz,y0,isT,eSl,wo,xm,x5,wk,iOf,XG,vI,VO,Zl,zbj,xX,YU,fLC,xp,xI,vD,wc,Vu,wQ,V0,b1,b2,i,atI,ixN]
 .cases h
def z9 (T:Txt P w K mg base ad):T.Pr 9 4 2 zp:=by
 letI:KK:=⟨K,ad.dk⟩
 have:=Zd T
 refine wE ?_ XO
 walk_at "q"
def yQ {m:Int}{p:Int}(a:0<=p/\p<m):zp [zI m b,.int p]=some .non:=by
 show(if (decide (0<=p)&&decide (p<=m-1))=true then some D.non else none)=_
 rw[q0 a.1,q0 (by omega)]
 rfl
abbrev zaE :=yr (wW (za (eFn zox (za (zc 0) (za (zc 1) zj))) (za (eFn zpJ (za (zc 0) (za (zc 1) zj))) zj)))
def zai:=fnD 2 zaE
def zM:wm
 | [.int a,.int b]=>some (zd (ym a b))
 | _=>none
def Vn:∀ c d,c.length=2->zM c=some d->zai c=some d:=by
 intro c d e h
 obtain⟨a,b,rfl⟩:=ze7 e
 cases a <;> try cases h
 cases b <;> try cases h
 rfl
def xb (T:Txt P w K mg base ad):T.Pr 10 1 2 zM:=by
 letI:KK:=⟨K,ad.dk⟩
 refine wE ?_ Vn
 walk_at "q"
def zgH (a:z0):(a.map zd).all (okE 20)=true:=by
 rw[u1N,p4]
 exact λt _=>rfl
def zaO (s t:Tie):eqN 20 (zd s) (zd t)=decide (s=t):=by
 have:eqN 20 (zd s) (zd t)=((s.1 == t.1)&&((s.2 == t.2)&&true)&&true):=rfl
 rw[this,u2N,u2N]
 by_cases h:s=t
 .subst h
  simp
 .rw[t8 h,Bool.and_eq_false_iff]
  by_cases a:s.1=t.1
  .exact .inr (g0.mpr λb=>h (u2v a b))
  .exact .inl (g0.mpr a)
def zaw (t:Tie)(a:z0):inD (zd t) (.tup (a.map zd))=some (.bl (decide (t∈a))):=by
 show(zkR (zd t) (a.map zd)).map D.bl=_
 unfold zkR
 rw[t7 ⟨rfl,zgH a⟩]
 show some (D.bl ((a.map zd).any λe=>eqN 20 e (zd t)))=_
 rw[List.any_map]
 congr 2
 rw[u1m,List.any_eq_true,j9]
 constructor
 .rintro⟨s,b,h⟩
  have h:eqN 20 (zd s) (zd t)=true:=h
  rw[zaO,j9]at h
  subst h
  exact b
 .exact λh=>⟨t,h,by show eqN 20 (zd t) (zd t)=true;rw[zaO];exact q0 rfl⟩
def nbN (m:Int)(a:z0)(p:Int):List Nat:=(List.range m.toNat).filter λk:Nat=>decide (ym p k∈a)
def ziM (k:Nat):D:=.int ((0:Int)+(k:Int))
abbrev Xi :=yr (xq (fLC (VO Zl (za (zh ixD (zc 0) (eC (.int 0))) zj)) b1 (tOf (zh inD (zo 2 zM (za (zc 2) (za (zc 0) zj))) (zh ixD (zc 1) (eC (.int 1))))) (zc 0)))
def zb1:=fnD 2 Xi
def yV:wm
 | [w,.int p]=>if wB w=true then some (.lst ((nbN (Yi w) (XJ w) p).map ziM))else none
 | _=>none
def zay:∀ g d,g.length=2->yV g=some d->zb1 g=some d:=by
 intro g d i h
 obtain⟨a,b,rfl⟩:=ze7 i
 cases b <;> try cases h
 rename_i p
 obtain⟨hw,rfl⟩:=ifS h
 obtain⟨m,f,rfl,ok⟩:=(xy a).mp hw
 rw[xJ,we]
 refine Yp rfl ?_
 unfold Xi
 refine vJ (d:=.lst ((nbN m f p).map ziM)) ?_ rfl
 have e:fLC (VO Zl (za (zh ixD (zc 0) (eC (.int 0))) zj)) b1 (tOf (zh inD (zo 2 zM (za (zc 2) (za (zc 0) zj))) (zh ixD (zc 1) (eC (.int 1))))) (zc 0) [some (zI m f),some (.int p)]=some ((nbN m f p).map ziM):=by
  unfold fLC
  show((Zl [.int m]).bind λg=>if lim g.length=true then _ else none)=_
  rw[zd7 ok]
  show(if lim (VY 0 m.toNat).length=true then _ else none)=_
  rw[t7 (vc (by rw[zdg];have:=ok.hi;omega))]
  refine YQ (c:=ziM) (p:=λk=>decide (ym p k∈f)) (y:=ziM) (List.range m.toNat) λk j=>⟨[some (ziM k)],rfl,?_,λ_=>rfl⟩
  show((inD (zd (ym p (0+(k:Int)))) (.tup (f.map zd))).bind asB)=_
  rw[Int.zero_add,zaw]
  rfl
 show(match ((fLC (VO Zl (za (zh ixD (zc 0) (eC (.int 0))) zj)) b1 (tOf (zh inD (zo 2 zM (za (zc 2) (za (zc 0) zj))) (zh ixD (zc 1) (eC (.int 1))))) (zc 0) [some (zI m f),some (.int p)]).map D.lst)with | some d=>Ctl.rt d | none=>Ctl.no)=_
 rw[e]
 rfl
def zaM (T:Txt P w K mg base ad):T.Pr 12 2 2 yV:=by
 letI:KK:=⟨K,ad.dk⟩
 have:=xb T
 refine wE ?_ zay
 walk_at "q"
def x6 (m:Int)(a:z0)(i:Nat):z0:=(List.range i).flatMap λk:Nat=>(nbN m a k).map λo:Nat=>((0:Int)+(k:Int),(0:Int)+(o:Int))
def Zt (m:Int)(a:z0):z0:=x6 m a m.toNat
def Xk (m:Int)(a:z0)(i:Nat):x6 m a (i+1)=x6 m a i++(nbN m a i).map λo:Nat=>((0:Int)+(i:Int),(0:Int)+(o:Int)):=by
 unfold x6
 rw[List.range_succ,List.flatMap_append]
 simp
def Z3 {p:Int}(h:xR m a):(nbN m a p).length<=8:=by
 refine r0 (List.length_filter_le _ _) ?_
 rw[List.length_range]
 have:=h.hi
 omega
def vF (h:xR m a)(i:Nat):(x6 m a i).length<=8*i:=by
 induction i with
 | zero=>simp[x6]
 | succ i b =>
  rw[Xk,j4,u9]
  have:=Z3 (p:=(i:Int)) h
  omega
abbrev ZM :=zbd 1 (xq (fLC (iOf (zo 2 yV (za (zc 0) (za (zc 2) zj)))) b1 xp (wW (za (zc 3) (za (zc 0) zj)))))
abbrev WG :=zK (Wr 1 (yi zj))
  (zK (vI Zl (za (zh ixD (zc 0) (eC (.int 0))) zj) (wc 2) ZM)
  (sFz 1 (yr (zc 1))))
def zde:=fnD 3 WG
def xN:wm
 | [w]=>if wB w=true then some (.lst ((Zt (Yi w) (XJ w)).map zd))else none
 | _=>none
def zbv:∀ f d,f.length=1->xN f=some d->zde f=some d:=by
 intro f d k h
 obtain⟨a,rfl⟩:=zn8 k
 obtain⟨hw,rfl⟩:=ifS h
 obtain⟨m,b,rfl,ok⟩:=(xy a).mp hw
 rw[xJ,we]
 refine Yp rfl ?_
 unfold WG
 refine zw rfl ?_
 refine wH (zlU (lo:=0) (c:=m.toNat) (λi ρ=>∃ j,ρ=[.v (zI m b),.o ((x6 m b i).map zd),j]) (zd7 ok) ⟨.no,rfl⟩ ?_ ?_)
 .rintro i ρ n ⟨j,rfl⟩
  refine⟨_,rfl,?_⟩
  unfold ZM
  refine zcx (ρ':=[.v (zI m b),.o ((x6 m b (i+1)).map zd),.v (.int (0+(i:Int)))]) ?_ ⟨_,rfl⟩
  have e:fLC (iOf (zo 2 yV (za (zc 0) (za (zc 2) zj)))) b1 xp (wW (za (zc 3) (za (zc 0) zj))) [some (zI m b),none,some (.int (0+(i:Int)))]=some (((nbN m b i).map λo:Nat=>((0:Int)+(i:Int),(0:Int)+(o:Int))).map zd):=by
   unfold fLC
   have l:yV [zI m b,.int (0+(i:Int))]=some (.lst ((nbN m b i).map ziM)):=by
    simp only[yV]
    rw[t7 hw,xJ,we,Int.zero_add]
   show((yV [zI m b,.int (0+(i:Int))]).bind wk).bind _=_
   rw[l]
   show(if lim ((nbN m b i).map ziM).length=true then _ else none)=_
   rw[t7 (vc (by rw[u9];have:=Z3 (p:=(i:Int)) ok;omega)),u0F]
   refine Xc ziM _ (nbN m b i) λo _=>⟨[some (ziM o)],rfl,rfl,?_⟩
   rfl
  have k:lim (((x6 m b i).map zd).length+(((nbN m b i).map λo:Nat=>((0:Int)+(i:Int),(0:Int)+(o:Int))).map zd).length)=true:=by
   refine vc ?_
   simp only[u9]
   have:=vF ok i
   have:=Z3 (p:=(i:Int)) ok
   have:=ok.hi
   omega
  show(match (((fLC (iOf (zo 2 yV (za (zc 0) (za (zc 2) zj)))) b1 xp (wW (za (zc 3) (za (zc 0) zj))) [some (zI m b),none,some (.int (0+(i:Int)))]).map D.lst).bind λd=>match (some (Sl.o ((x6 m b i).map zd))),d with
   | some (.o f),.lst es=>if lim (f.length+es.length)=true then some ([.v (zI m b),.o (f++es),.v (.int (0+(i:Int)))]:SE)else none
   | _,_=>none)with | some g=>Ctl.nx g | none=>Ctl.no)=_
  rw[e]
  show(match (if lim (((x6 m b i).map zd).length+(((nbN m b i).map λo:Nat=>((0:Int)+(i:Int),(0:Int)+(o:Int))).map zd).length)=true then some ([.v (zI m b),.o ((x6 m b i).map zd++((nbN m b i).map λo:Nat=>((0:Int)+(i:Int),(0:Int)+(o:Int))).map zd),.v (.int (0+(i:Int)))]:SE)else none)with | some g=>Ctl.nx g | none=>Ctl.no)=_
  rw[t7 k,Xk,r9]
 .rintro ρ ⟨j,rfl⟩
  exact zqQ rfl (vJ rfl rfl)
def zbn (T:Txt P w K mg base ad):T.Pr 16 3 1 xN:=by
 letI:KK:=⟨K,ad.dk⟩
 have:=zaM T
 refine wE ?_ zbv
 walk_at "p"
abbrev WP :=zK (xD false 2 (zh Zm (zh Zn (zh yK (zh yK (zh Zm (zc 0) (eC (.int 2147483647))) (zh Zn (eC (.int 977)) (zc 1))) (eC (.int 1))) (eC (.int 48271))) (eC (.int 2147483647))))
  (zK (xD false 2 (zh Zm (zh Zn (zc 2) (zc 2)) (eC (.int 2147483629))))
  (zK (xD false 2 (zh Zm (zh Zn (zh yK (zc 2) (zh Zn (eC (.int 40692)) (zh yK (zc 1) (eC (.int 3))))) (eC (.int 69621))) (eC (.int 2147483647))))
  (yr (zh vB (zc 2) (eC (.int 8))))))
def zdm:=fnD 3 WP
def Yb:wm
 | [.int c,.int k]=>some (.int (zrF c k))
 | _=>none
def zcC {i:Int}(b:-(2^64)<i)(a:i<2^64):Wk i j=true:=q0 (.inl ⟨b,a⟩)
def zh7 {j:Int}(b:-(2^64)<j)(a:j<2^64):Wk i j=true:=q0 (.inr ⟨b,a⟩)
def Wb (h:Wk i j=true):Zn (.int i) (.int j)=some (.int (i*j)):=by
 show(if Wk i j=true then _ else none)=_
 rw[t7 h]
def ZV {j:Int}(h:0<j):Zm (.int i) (.int j)=some (.int (i%j)):=by
 show(if decide (0<j)=true then _ else none)=_
 rw[t7 (q0 h)]
def zeB {j:Int}(h:0<j)(a:j<1606938044258990275541962092341162602522202993782792835301376):vB (.int i) (.int j)=some (.int (i/j)):=by
 show(if decide (0<j/\j<1606938044258990275541962092341162602522202993782792835301376)=true then _ else none)=_
 rw[t7 (q0 ⟨h,a⟩)]
def zb6:∀ e d,e.length=2->Yb e=some d->zdm e=some d:=by
 intro e d q h
 obtain⟨a,b,rfl⟩:=ze7 q
 cases a <;> try cases h
 cases b <;> try cases h
 rename_i c k
 have j:=u22 ((c%2147483647+977*k+1)*48271) (show(2147483647:Int)≠0 by decide)
 have m:=u2r ((c%2147483647+977*k+1)*48271) (show(0:Int)<2147483647 by decide)
 have p:Wk 977 k=true:=zcC (by decide) (by decide)
 have s:Wk (c%2147483647+977*k+1) 48271=true:=zh7 (by decide) (by decide)
 obtain⟨x,f⟩:∃ x,(c%2147483647+977*k+1)*48271%2147483647=x:=⟨_,rfl⟩
 rw[f]at j m
 have n:Wk x x=true:=zcC (Int.lt_of_lt_of_le (by decide) j) (Int.lt_trans m (by decide))
 have o:Wk 40692 (k+3)=true:=zcC (by decide) (by decide)
 have r:∀ x,Wk x 69621=true:=λx=>zh7 (by decide) (by decide)
 obtain⟨y,i⟩:∃ y,x*x%2147483629=y:=⟨_,rfl⟩
 obtain⟨z,l⟩:∃ z,(y+40692*(k+3))*69621%2147483647=z:=⟨_,rfl⟩
 have g:zrF c k=z/8:=by
  show((((c%2147483647+977*k+1)*48271%2147483647)*((c%2147483647+977*k+1)*48271%2147483647)%2147483629+40692*(k+3))*69621%2147483647/8)=_
  rw[f,i,l]
 rw[g]
 refine Yp (ρ:=[.v (.int c),.v (.int k),.no]) rfl ?_
 unfold WP
 refine zw (ρ':=[.v (.int c),.v (.int k),.v (.int x)]) (WS ?_) ?_
 .show(((((Zm (.int c) (.int 2147483647)).bind λa=>(Zn (.int 977) (.int k)).bind λb=>yK a b).bind λa=>yK a (.int 1)).bind λa=>Zn a (.int 48271)).bind λa=>Zm a (.int 2147483647))=_
  rw[ZV (by decide),Wb p]
  show((Zn (.int (c%2147483647+977*k+1)) (.int 48271)).bind λa=>Zm a (.int 2147483647))=_
  rw[Wb s,<- f]
  exact ZV (by decide)
 refine zw (ρ':=[.v (.int c),.v (.int k),.v (.int y)]) (WS ?_) ?_
 .show((Zn (.int x) (.int x)).bind λa=>Zm a (.int 2147483629))=_
  rw[Wb n,<- i]
  exact ZV (by decide)
 refine zw (ρ':=[.v (.int c),.v (.int k),.v (.int z)]) (WS ?_) ?_
 .show((((Zn (.int 40692) (.int (k+3))).bind λb=>yK (.int y) b).bind λa=>Zn a (.int 69621)).bind λa=>Zm a (.int 2147483647))=_
  rw[Wb o]
  show((Zn (.int (y+40692*(k+3))) (.int 69621)).bind λa=>Zm a (.int 2147483647))=_
  rw[Wb (r _),<- l]
  exact ZV (by decide)
 exact vJ (yd (show vB (.int z) (.int 8)=_ from zeB (by decide) (by decide))) rfl
def zbE (T:Txt P w K mg base ad):T.Pr 39 1 2 Yb:=by
 letI:KK:=⟨K,ad.dk⟩
 refine wE ?_ zb6
 walk_at "p"
def ze6 {j:Int}(b:0<=j)(a:j<=1000000):Zl [.int j]=some (VY 0 j.toNat):=by
 show(if zme j=true then some (VY 0 j.toNat)else none)=_
 rw[t7 (wA.mpr ⟨by omega,by omega⟩)]
def znz {d:D}(h:xE m d=true):∃ ns:zC,d=.tup (ns.map .int)/\(ns.length:Int)=m/\(∀ n∈ns,0<=n)/\ns.sum<=300:=by
 cases d with
 | tup f =>
  unfold xE xl at h
  rw[j0,j0,j9,j9]at h
  obtain⟨⟨a,c⟩,b⟩:=h
  obtain⟨ns,rfl,e⟩:=WO c
  rw[xQ]at b
  exact⟨ns,rfl,by rw[u9]at a;exact a,e,b⟩
 | _=>cases h
def vQ {m:Int}{ns:zC}(b:(ns.length:Int)=m)(a:∀ n∈ns,0<=n)(c:ns.sum<=300):xE m (.tup (ns.map .int))=true:=by
 unfold xE xl
 rw[j0,j0,j9,j9,xQ,u9]
 exact⟨⟨b,zfU a⟩,c⟩
def XU (ns:zC):noS (.tup (ns.map .int))=true:=by
 show ziN (ns.map .int)=true
 induction ns with
 | nil=>rfl
 | cons n ns a=>show(noS (.int n)&&ziN (ns.map .int))=true;rw[a];rfl
def vAt (ns:zC)(i:Int):Int:=ns.getD i.toNat 0
def ZB {ns:zC}{i:Int}(h0:0<=i)(b:i<ns.length):atI (ns.map D.int) i=some (.int (vAt ns i)):=by
 unfold vAt
 obtain⟨k,a⟩:∃ k:Nat,i=k:=⟨i.toNat,by omega⟩
 subst a
 refine zhI ?_
 rw[u0K,k9,g5 (by omega),i8,g5 (by omega)]
 rfl
def VI {d:z0}:s∈Zt m d↔(0<=s.1/\s.1<m)/\(0<=s.2/\s.2<m)/\ym s.1 s.2∈d:=by
 unfold Zt x6 nbN
 rw[List.mem_flatMap]
 constructor
 .rintro⟨k,b,h⟩
  obtain⟨o,a,rfl⟩:=l6.mp h
  rw[u01,u0r,j9]at a
  rw[u0r]at b
  simp only[Int.zero_add]
  exact⟨⟨by(clear h a b;omega),by(clear h a;omega)⟩,⟨by(clear h a b;omega),by omega⟩,a.2⟩
 .rintro⟨⟨e,c⟩,⟨b1,b2⟩,h⟩
  refine⟨s.1.toNat,u0r.mpr (by(clear b2 b1 h;omega)),l6.mpr ⟨s.2.toNat,?_,?_⟩⟩
  .rw[u01,u0r,j9]
   refine⟨by omega,?_⟩
   rw[show((s.1.toNat:Nat):Int)=s.1 by(clear b2 b1 h c;omega),show((s.2.toNat:Nat):Int)=s.2 by omega]
   exact h
  .exact u2v (by show(0:Int)+(s.1.toNat:Int)=s.1;(clear b2 b1 h c;omega)) (by show(0:Int)+(s.2.toNat:Int)=s.2;omega)
def ziT (m:Int)(a:z0)(ns:zC):z0:=(Zt m a).filter λs=>decide (2<=vAt ns s.1)
abbrev Xf :=zK (vx (zo 1 zV (za (zc 0) zj)))
  (zK (vx (zo 2 z3 (za (zc 0) (za (zc 1) zj))))
  (yr (xq (fLC (iOf (zo 1 xN (za (zc 0) zj))) b1 (tOf (zh geD (zh ixD (zc 2) (zh ixD (zc 0) (eC (.int 0)))) (eC (.int 2)))) (zc 0)))))
def zb3:=fnD 2 Xf
def vn:wm
 | [w,.tup hs]=>if (wB w&&xE (Yi w) (.tup hs))=true then some (.lst ((ziT (Yi w) (XJ w) (hs.map zkn)).map zd))else none
 | _=>none
def zaY:∀ g d,g.length=2->vn g=some d->zb3 g=some d:=by
 intro g d t h
 obtain⟨a,b,rfl⟩:=ze7 t
 cases b <;> try cases h
 rename_i j
 obtain⟨n,rfl⟩:=ifS h
 rw[j0]at n
 obtain⟨hw,i⟩:=n
 obtain⟨m,f,rfl,ok⟩:=(xy a).mp hw
 rw[xJ]at i
 rw[xJ,we]
 obtain⟨ns,e,l,o,k⟩:=znz i
 injection e with e
 subst e
 rw[xQ]
 have r:zV [zI m f]=some .non:=by simp[zV,hw]
 have u:z3 [zI m f,.tup (ns.map .int)]=some .non:=by
  show(if (noS (.tup (ns.map .int))&&decide (m<=1000)&&xE m (.tup (ns.map .int)))=true then some D.non else none)=_
  rw[t7 (by rw[XU,Zy ok,i];rfl)]
 have v:xN [zI m f]=some (.lst ((Zt m f).map zd)):=by
  show(if wB (zI m f)=true then some (D.lst ((Zt (Yi (zI m f)) (XJ (zI m f))).map zd))else none)=_
  rw[t7 hw,xJ,we]
 refine Yp (ρ:=[.v (zI m f),.v (.tup (ns.map .int))]) rfl ?_
 unfold Xf
 refine zw (ρ':=[.v (zI m f),.v (.tup (ns.map .int))]) (by simp[fnD,zK,yr,Zp,sIf,xD,vx,sNo,zD,zea,Wr,Vm,zbd,W4,vEv,visF,visG,Sl.f,Sl.g,zc,eC,zh,YR,eOr,zbf,eIf,eUn,ZT,wW,xq,yi,za,zj,zo,eFn,fFn,tOf,YA,X8,yn,asB,asI,xg,WT,Zn,vB,Zm,zaN,v6,ltD,leD,gtD,geD,za8,yL,wa,yj,xV,zbc,xf,ixD,Yz,y0,isT,eSl,wo,xm,x5,wk,iOf,XG,vI,VO,Zl,zbj,xX,YU,fLC,xp,xI,vD,wc,Vu,wQ,V0,b1,b2,r]) (zw (ρ':=[.v (zI m f),.v (.tup (ns.map .int))]) (by simp[fnD,zK,yr,Zp,sIf,xD,vx,sNo,zD,zea,Wr,Vm,zbd,W4,vEv,visF,visG,Sl.f,Sl.g,zc,eC,zh,YR,eOr,zbf,eIf,eUn,ZT,wW,xq,yi,za,zj,zo,eFn,fFn,tOf,YA,X8,yn,asB,asI,xg,WT,Zn,vB,Zm,zaN,v6,ltD,leD,gtD,geD,za8,yL,wa,yj,xV,zbc,xf,ixD,Yz,y0,isT,eSl,wo,xm,x5,wk,iOf,XG,vI,VO,Zl,zbj,xX,YU,fLC,xp,xI,vD,wc,Vu,wQ,V0,b1,b2,u]) ?_)
 refine vJ (d:=.lst ((ziT m f ns).map zd)) ?_ rfl
 have e:fLC (iOf (zo 1 xN (za (zc 0) zj))) b1 (tOf (zh geD (zh ixD (zc 2) (zh ixD (zc 0) (eC (.int 0)))) (eC (.int 2)))) (zc 0) [some (zI m f),some (.tup (ns.map .int))]=some ((ziT m f ns).map zd):=by
  unfold fLC
  show((xN [zI m f]).bind wk).bind _=_
  rw[v]
  show(if lim ((Zt m f).map zd).length=true then _ else none)=_
  rw[t7 (vc (by rw[u9];have:=vF ok m.toNat;unfold Zt;have:=ok.hi;omega))]
  refine YQ (c:=zd) (p:=λs=>decide (2<=vAt ns s.1)) (y:=zd) (Zt m f) λs j=>⟨[some (zd s)],rfl,?_,λ_=>rfl⟩
  obtain⟨⟨q,z⟩,_⟩:=VI.mp j
  have w:=ZB (ns:=ns) q (by omega)
  show((((atI (ns.map D.int) s.1).bind λx=>geD x (.int 2))).bind asB)=_
  rw[w]
  rfl
 show(match ((fLC (iOf (zo 1 xN (za (zc 0) zj))) b1 (tOf (zh geD (zh ixD (zc 2) (zh ixD (zc 0) (eC (.int 0)))) (eC (.int 2)))) (zc 0) [some (zI m f),some (.tup (ns.map .int))]).map D.lst)with | some d=>Ctl.rt d | none=>Ctl.no)=_
 rw[e]
 rfl
def V9 (T:Txt P w K mg base ad):T.Pr 17 8 2 vn:=by
 letI:KK:=⟨K,ad.dk⟩
 have:=wz T
 have:=x4 T
 have:=zbn T
 refine wE ?_ zaY
 walk_at "p"
end
abbrev ZD (r:wm) :=sIf (yn (tOf (zo 2 r (za (zc 2) (za (zc 3) zj))))) (yr (eC (.bl false))) zD
abbrev v0 (r:wm) :=zK (sIf (tOf (zh zbc (zc 1) (eC .non))) (yr (zh zbc (zc 0) (eC .non))) zD)
  (zK (sIf (tOf (eUn (y0 .bool) (zc 1))) (yr (YR (eUn (y0 .bool) (zc 0)) (zh x9 (zc 0) (zc 1)))) zD)
  (zK (sIf (tOf (eUn (y0 .int) (zc 1))) (yr (YR (eUn (y0 .int) (zc 0)) (YR (zbf (eUn (y0 .bool) (zc 0))) (zh x9 (zc 0) (zc 1))))) zD)
  (zK (sIf (tOf (eUn (y0 .str) (zc 1))) (yr (YR (eUn (y0 .str) (zc 0)) (zh x9 (zc 0) (zc 1)))) zD)
  (zK (sIf (X8 (tOf (zh neD (eUn (y0 .list) (zc 1)) (eUn (y0 .list) (zc 0)))) (tOf (zh neD (eUn (y0 .tuple) (zc 1)) (eUn (y0 .tuple) (zc 0))))) (yr (eC (.bl false))) zD)
  (zK (sIf (tOf (zh neD (eFn Yz (za (zc 0) zj)) (eFn Yz (za (zc 1) zj)))) (yr (eC (.bl false))) zD)
  (zK (XG (YU (za (zc 0) (za (zc 1) zj))) (Vu 2 (wQ (wc 2) (wQ (wc 3) V0))) (ZD r))
  (yr (eC (.bl true)))))))))
def vZ:wm:=zqL 4 v0 2
def zcn (T:Txt P w K mg base ad):T.Pr 40 3 2 vZ:=by
 letI:KK:=⟨K,ad.dk⟩
 have R:∀ n,xB P w K mg base CX0 (1+n) (ad.f 40) (ad.e 40) (Rw 40).ps (spD 2 (zqL 4 v0 n)):=by
  refine zpq (P:=P) (w:=w) (mg:=mg) (base:=base) (k0:=1) (g:=v0) (T.d 40).fn (sc 40) λk r a b A outer s H E c=>?_
  unfold v0 ZD
  have a:T.Pr 40 (1+k) 2 r:=a
  apply zA <;> walk_at "s"
 exact R 2
section
variable {P:zP}{w:World}{K:zv}{mg:wn}{base:Heap}{ad:Adr}
def Ym (T:Txt P w K mg base ad):xB P w K mg base CX0 1 ad.i_NoWeb ad.j_NoWeb ["self","at"] (spI K 1 ["at"] (gI1 "at")):=by
 refine T.fi_NoWeb.ok zis (λb H Q E h=>zh1 b H Q E h) λc A outer s H b Q E d a=>?_
 exact⟨_,(wO (zoI (pv 0) (pv 1) rfl)),(zfY a)⟩
def zdl (T:Txt P w K mg base ad):xB P w K mg base CX0 1 ad.i_NoSteps ad.j_NoSteps ["self","at"] (spI K 1 ["at"] (gI1 "at")):=by
 refine T.fi_NoSteps.ok zdx (λb H Q E h=>zh1 b H Q E h) λc A outer s H b Q E d a=>?_
 exact⟨_,(wO (zoI (pv 0) (pv 1) rfl)),(zfY a)⟩
def zj4 {a:xa}{g:zz}(e:a ρ=some j):w1 a g b ρ=some j:=by
 unfold w1
 rw[e]
def yP {b a:xa}{g:zz}(e:b ρ=none)(c:g ρ=.nx ρ')(d:a ρ'=some j):w1 b g a ρ=some j:=by
 unfold w1
 rw[e,c]
 exact d
def zi9 {a:xa}{g:zz}{h:Nat->Option D}{d:D}(e:a ρ=some j)(b:h j=some d):zli a g h ρ=.rt d:=by
 unfold zli
 rw[e]
 show(match h j with | some d=>Ctl.rt d | none=>.no)=_
 rw[b]
def zkv {b:vL}{l:xa}{g:zz}(I:Nat->SE->Prop):∀ (i n:Nat) (a:zm) (ρ:SE),I n ρ->i<a.length ->
 (∀ k d ρ,k<i->a[k]?=some d->I (n+k) ρ->∃ c f,b d ρ=some c/\l c=none/\g c=.nx f/\I (n+k+1) f)->(∀ d ρ,a[i]?=some d->I (n+i) ρ->∃ c,b d ρ=some c/\l c=some j)->Wo b l g a ρ=some j:=by
 intro i
 induction i with
 | zero =>
  intro n a ρ h0 o _ h
  cases a with
  | nil=>cases o
  | cons d a =>
   obtain⟨c,p,q⟩:=h d ρ rfl h0
   unfold Wo
   rw[p]
   show(match l c with | some j=>some j | none=>_)=_
   rw[q]
 | succ i s =>
  intro n a ρ h0 o e h
  cases a with
  | nil=>cases o
  | cons d a =>
   obtain⟨c,f,p,q,u,t⟩:=e 0 d ρ (Nat.succ_pos _) rfl h0
   unfold Wo
   rw[p]
   show(match l c with | some j=>some j | none=>_)=_
   rw[q]
   show(match g c with | .nx f=>Wo b l g a f | .ct f=>Wo b l g a f | _=>none)=_
   rw[u]
   refine s (n+1) a f t (Nat.lt_of_succ_lt_succ o) (λk d ρ v r m=>?_) λd ρ r m=>?_
   .rw[show n+1+k=n+(k+1) by omega]at m ⊢
    exact e (k+1) d ρ (Nat.succ_lt_succ v) r m
   .rw[show n+1+i=n+(i+1) by omega]at m
    exact h d ρ r m
def zkp {f:yx}{b:vL}{n:xa}{g:zz}{i:Nat}{ds:zm}(I:Nat->SE->Prop)(e:f (visF ρ)=some ds)(h0:I 0 ρ)(p:i<ds.length)(h:∀ k d ρ,k<i->ds[k]?=some d->I k ρ->∃ a o,b d ρ=some a/\n a=none/\g a=.nx o/\I (k+1) o)(m:∀ d ρ,ds[i]?=some d->I i ρ->∃ a,b d ρ=some a/\n a=some j):zoq f b n g ρ=some j:=by
 unfold zoq
 rw[e]
 refine zkv I i 0 ds ρ h0 p (λk d ρ q l c=>?_) λd ρ l c=>?_
 .rw[g8]at c ⊢
  exact h k d ρ q l c
 .rw[g8]at c
  exact m d ρ l c
def zgP {t:vr}{g:xa}(e:t (visG ρ)=some true)(a:g ρ=some j):xIf t g h ρ=some j:=by
 unfold xIf
 rw[e]
 exact a
def zdI {t:vr}{g h:xa}(e:t (visG ρ)=some false)(a:h ρ=r):xIf t g h ρ=r:=by
 unfold xIf
 rw[e]
 exact a
def zir {b a:xa}{g:zz}(e:b ρ=none)(c:g ρ=.nx ρ')(d:a ρ'=none):w1 b g a ρ=none:=by
 unfold w1
 rw[e,c]
 exact d
def VD {t:vr}{g:zz}(e:t (visG ρ)=some false):sIf t g zD ρ=.nx ρ:=by
 unfold sIf
 rw[e]
 rfl
def zdf {g h:zz}(e:g ρ=.nx ρ')(a:h ρ'=c):zK g h ρ=c:=by
 unfold zK
 rw[e]
 exact a
def kP (t:Tie):List Key:=[.inl t.1,.inl t.2]
def zpx {t:Tie}(h:kP s=kP t):s=t:=by
 unfold kP at h
 obtain⟨b,a⟩:=List.cons.inj h
 obtain⟨a,_⟩:=List.cons.inj a
 exact u2v (Sum.inl.inj b) (Sum.inl.inj a)
def zfS (t:Tie):∀ a:z0,(Wl (a.map kP) (a.map λ_=>D.bl true) (kP t)).isSome=decide (t∈a):=by
 intro a
 induction a with
 | nil=>rfl
 | cons k a b =>
  rw[n0,n0]
  unfold Wl
  by_cases h:kP k=kP t
  .rw[t7 h]
   rw[zpx h]
   exact(q0 f8).symm
  .rw[j6 h,b]
   have:(t∈k::a)↔t∈a:=⟨λz=>(q7.mp z).elim (λe=>absurd (by rw[e]) h) id,r4 _⟩
   exact(decide_eq_decide.mpr this).symm
def zc0 {t:Tie}{a:z0}:zqo false (zd t) (.dct z true (a.map kP) (a.map λ_=>D.bl true))=some (.bl (decide (t∈a))):=by
 show some (D.bl (false != (Wl (a.map kP) (a.map λ_=>D.bl true) (kP t)).isSome))=_
 rw[zfS]
 cases decide (t∈a) <;> rfl
structure zn6 (m:Int) (s:Tie):Prop where
 a:0<=s.1/\s.1<m
 b:0<=s.2/\s.2<m
 ne:s.1≠s.2
def Zv (h:zn6 m s):ye [.int m,zd s]=some (.bl true):=by
 have e:(inR m s.1&&inR m s.2&&!decide (s.1=s.2))=true:=by
  obtain⟨⟨a,b⟩,⟨c,d⟩,e⟩:=h
  unfold inR
  simp only[j0,j9,u03,g9]
  omega
 show some (D.bl (inR m s.1&&inR m s.2&&!decide (s.1=s.2)))=_
 rw[e]
def Yj (m:Int)(L:D)(a:z0)(c d b:Sl):SE:=[.v (.int m),.v L,.m true (a.map kP) (a.map λ_=>.bl true),c,d,b]
def zgz (h:zc 4 ρ=some (zd s)):zo 2 zM (za (zh ixD (zc 4) (eC (.int 0))) (za (zh ixD (zc 4) (eC (.int 1))) zj)) ρ=some (zd (ym s.1 s.2)) :=
 zq (ds:=[.int s.1,.int s.2]) (zf (zF (x:=zd s) (y:=.int 0) h rfl rfl) (zf (zF (x:=zd s) (y:=.int 1) h rfl rfl) zJ)) rfl
def zgS {a:z0}{t:Tie}(h:t∉a)(g:a.length<1000):zeV false 2 (zc 5) (eC (.bl true)) (Yj m L a b c (.v (zd t)))=.nx (Yj m L (a++[t]) b c (.v (zd t))):=by
 have d:(Wl (a.map kP) (a.map λ_=>D.bl true) (kP t)).isSome=false:=by rw[zfS];exact t8 h
 have e:zn4 (Yj m L a b c (.v (zd t))) 2 (zd t) (.bl true)=some (Yj m L (a++[t]) b c (.v (zd t))):=by
  unfold zn4
  show(zl0 true (zd t)).bind _=_
  show(if decide ((a.map kP).length<sizeLine)=true then _ else none)=_
  rw[t7 (q0 (by rw[u9];exact vT (i4 g)))]
  show some (_:SE)=_
  unfold zgy zgQ Yj
  rw[show(Wl (a.map kP) (a.map λ_=>D.bl true) [Sum.inl t.1,Sum.inl t.2]).isSome=false from d]
  simp only[r9]
  rfl
 unfold zeV
 show(match zn4 (Yj m L a b c (.v (zd t))) 2 (zd t) (.bl true)with | some f=>Ctl.nx f | none=>Ctl.no)=_
 rw[e]
abbrev ZX :=zK (sIf (yn (tOf (zo 2 ye (za (zc 0) (za (zc 4) zj))))) sNo zD)
  (zK (xD false 5 (zo 2 zM (za (zh ixD (zc 4) (eC (.int 0))) (za (zh ixD (zc 4) (eC (.int 1))) zj))))
  (zK (sIf (tOf (zh (zqo false) (zc 5) (zc 2))) sNo zD)
  (zeV false 2 (zc 5) (eC (.bl true)))))
abbrev zd4 :=zK (sIf (yn (tOf (zo 1 zW (za (zc 0) zj)))) sNo zD)
  (zK (zjZ true 2)
  (zK (XG (xX (za (zc 1) zj)) (Vu 2 (wQ (wc 3) (wQ (wc 4) V0))) ZX)
  (zq2 2 (yr (wW (za (zc 0) (za (eFn xI (za (xq (fFn zex (za (zc 2) zj))) zj)) zj)))))))
def Zu:=fnD 6 zd4
def zfI {a:z0}{f:Sl}(h:zn6 m s)(d:ym s.1 s.2∉a)(e:a.length<1000):ZX (Yj m L a c (.v (zd s)) f)=.nx (Yj m L (a++[ym s.1 s.2]) c (.v (zd s)) (.v (zd (ym s.1 s.2)))):=by
 unfold ZX
 refine zdf (VD (xT (b:=true) (yS (zq (ds:=[.int m,zd s]) rfl (Zv h))))) ?_
 refine zdf (ρ':=Yj m L a c (.v (zd s)) (.v (zd (ym s.1 s.2)))) (wg (zgz rfl)) ?_
 refine zdf (VD (yS (zF (x:=zd (ym s.1 s.2)) (y:=.dct false true (a.map kP) (a.map λ_=>.bl true)) rfl rfl ?_))) (zgS d e)
 rw[zc0,t8 d]
def pl (t:Tie):zC:=[t.1,t.2]
def zjx:∀ a:z0,zdc (a.map kP)=some (a.map pl):=by
 intro a
 induction a with
 | nil=>rfl
 | cons k a b =>
  rw[n0]
  show(zdc (a.map kP)).map (_::·)=_
  rw[b]
  rfl
def zcB {ks c:z0}(f:ks.length<64)(e:ks.Perm c)(d:(c.map pl).Pairwise λa b=>HT.lexLt b a=false):zex [.dct z true (ks.map kP) vs]=some (c.map zd):=by
 show(if (ks.map kP).length<64 then _ else none)=_
 rw[t7 (by rw[u9];exact f),zjx,Option.map_some,<- Wj (e.symm.map pl) d,u0F]
 rfl
def Vk {m:Int}(a:1<=m/\m<=8):zW [.int m]=some (.bl true):=by
 show some (D.bl (decide (1<=m)&&decide (m<=8)))=_
 rw[q0 a.1,q0 a.2]
 rfl
def WY {S:z0}{i:Nat}(h:S[i]?=some s):(S.take (i+1)).map (λs=>ym s.1 s.2)=(S.take i).map (λs=>ym s.1 s.2)++[ym s.1 s.2]:=by
 rw[List.take_add_one,h,r9]
 rfl
def zf1 {S:z0}{i:Nat}(a:(S.map λs=>ym s.1 s.2).Nodup)(h:S[i]?=some s):ym s.1 s.2∉(S.take i).map λs=>ym s.1 s.2:=by
 have b:((S.take (i+1)).map λs=>ym s.1 s.2).Nodup:=by
  refine a.sublist ?_
  exact(List.take_sublist _ _).map _
 rw[WY h]at b
 intro z
 exact(u2I.mp b).2.2 _ z _ (j5.mpr rfl) rfl
def zfK {m:Int}{S e:z0}(l:1<=m/\m<=8)(q:∀ s∈S,zn6 m s)(j:(S.map λs=>ym s.1 s.2).Nodup)(p:S.length<64)(r:(S.map λs=>ym s.1 s.2).Perm e)(o:(e.map pl).Pairwise λa b=>HT.lexLt b a=false):Zu [.int m,.lst (S.map zd)]=some (zI m e):=by
 refine Yp (ρ:=[.v (.int m),.v (.lst (S.map zd)),.no,.no,.no,.no]) rfl ?_
 unfold zd4
 refine zw (VD (xT (b:=true) (yS (zq (ds:=[.int m]) rfl (Vk l))))) ?_
 refine zw (ρ':=Yj m (.lst (S.map zd)) [] .no .no .no) rfl ?_
 refine wH (zks (ds:=XM 0 (S.map zd)) (λi ρ=>∃ f g c,ρ=Yj m (.lst (S.map zd)) ((S.take i).map λs=>ym s.1 s.2) f g c) rfl ⟨_,_,_,rfl⟩ ?_ ?_)
 .rintro i d ρ k ⟨f,g,c,rfl⟩
  rw[vg,g8,k9]at k
  obtain⟨x,n,rfl⟩:=t4.mp k
  obtain⟨s,h,rfl⟩:=t4.mp n
  refine⟨Yj m (.lst (S.map zd)) ((S.take i).map λs=>ym s.1 s.2) (.v (.int (i:Int))) (.v (zd s)) c,rfl,?_⟩
  refine zcx (zfI (q s (o8 h)) (zf1 j h) (by rw[u9,u0v];omega)) ⟨.v (.int (i:Int)),.v (zd s),.v (zd (ym s.1 s.2)),?_⟩
  rw[WY h]
 .rintro ρ ⟨f,g,c,rfl⟩
  rw[xP,u9,u1W]
  refine vJ (d:=zI m e) ?_ rfl
  have t:=zcB (z:=true) (ks:=S.map λs=>ym s.1 s.2) (vs:=(S.map λs=>ym s.1 s.2).map λ_=>.bl true) (by rw[u9];exact p) r o
  show yr _ [.v (.int m),.v (.lst (S.map zd)),.v (.dct true true ((S.map λs=>ym s.1 s.2).map kP) ((S.map λs=>ym s.1 s.2).map λ_=>.bl true)),f,g,c]=_
  exact yd (YD (zf rfl (zf (Xb (ds:=[.lst (e.map zd)]) (zf (Yg (zk2 (ds:=[_]) rfl t)) zJ) rfl) zJ)) (by show 2<=1000;decide))
def WA (T:Txt P w K mg base ad):T.Pr 11 5 2 Zu:=by
 have:=wt T
 have:=YH T
 have:=xb T
 walk_at "p"
abbrev Yu :=w1 (xIf (yn (tOf (zo 1 zW (za (zc 0) zj)))) (xRI (zjl 0 1) (za (eUn ZT (eC (.int 1))) zj)) xNo) (sIf (yn (tOf (zo 1 zW (za (zc 0) zj)))) sNo zD)
  (w1 xNo (zjZ true 2)
  (zoq (xX (za (zc 1) zj)) (Vu 2 (wQ (wc 3) (wQ (wc 4) V0))) (w1 (xIf (yn (tOf (zo 2 ye (za (zc 0) (za (zc 4) zj))))) (xRI (zjl 0 1) (za (zc 3) zj)) xNo) (sIf (yn (tOf (zo 2 ye (za (zc 0) (za (zc 4) zj))))) sNo zD)
  (w1 xNo (xD false 5 (zo 2 zM (za (zh ixD (zc 4) (eC (.int 0))) (za (zh ixD (zc 4) (eC (.int 1))) zj))))
  (xIf (tOf (zh (zqo false) (zc 5) (zc 2))) (xRI (zjl 0 1) (za (zc 3) zj)) xNo)))
  (zK (sIf (yn (tOf (zo 2 ye (za (zc 0) (za (zc 4) zj))))) sNo zD)
  (zK (xD false 5 (zo 2 zM (za (zh ixD (zc 4) (eC (.int 0))) (za (zh ixD (zc 4) (eC (.int 1))) zj))))
  (zK (sIf (tOf (zh (zqo false) (zc 5) (zc 2))) sNo zD)
  (zeV false 2 (zc 5) (eC (.bl true))))))))
def ZH:=fnX 6 Yu
def zny {α:Type}{a b:List α}{i:Nat}(h:i<a.length):(a++b)[i]?=a[i]?:=o9 h
def zhW {m:Int}{S:z0}{d:D}{rest:zm}(q:1<=m/\m<=8)(v:∀ s∈S,zn6 m s)(k:(S.map λs=>ym s.1 s.2).Nodup)(w:S.length<64)(n:ye [.int m,d]=some (.bl false)\/∃ s,d=zd s/\zn6 m s/\ym s.1 s.2∈S.map λs=>ym s.1 s.2):ZH [.int m,.lst (S.map zd++d::rest)]=some (16+64*(S.length+1)):=by
 show Yu [.v (.int m),.v (.lst (S.map zd++d::rest)),.no,.no,.no,.no]=_
 unfold Yu
 refine yP (zdI (xT (b:=true) (yS (zq (ds:=[.int m]) rfl (Vk q)))) rfl) (VD (xT (b:=true) (yS (zq (ds:=[.int m]) rfl (Vk q))))) ?_
 refine yP (ρ':=Yj m (.lst (S.map zd++d::rest)) [] .no .no .no) rfl rfl ?_
 refine zkp (i:=S.length) (ds:=XM 0 (S.map zd++d::rest)) (λi ρ=>∃ j o f,ρ=Yj m (.lst (S.map zd++d::rest)) ((S.take i).map λs=>ym s.1 s.2) j o f) rfl ⟨_,_,_,rfl⟩ (by rw[xP,j4,u9,k7];omega) ?_ ?_
 .rintro i r ρ u c ⟨j,o,f,rfl⟩
  rw[vg,g8,zny (by rw[u9];exact u),k9]at c
  obtain⟨x,t,rfl⟩:=t4.mp c
  obtain⟨s,h,rfl⟩:=t4.mp t
  have a:=v s (o8 h)
  have g:=zf1 k h
  refine⟨Yj m (.lst (S.map zd++d::rest)) ((S.take i).map λs=>ym s.1 s.2) (.v (.int (i:Int))) (.v (zd s)) f,_,rfl,?_,zfI a g (by rw[u9,u0v];omega),.v (.int (i:Int)),.v (zd s),.v (zd (ym s.1 s.2)),?_⟩
  .refine zir (zdI (xT (b:=true) (yS (zq (ds:=[.int m,zd s]) rfl (Zv a)))) rfl) (VD (xT (b:=true) (yS (zq (ds:=[.int m,zd s]) rfl (Zv a))))) ?_
   refine zir (ρ':=Yj m (.lst (S.map zd++d::rest)) ((S.take i).map λs=>ym s.1 s.2) (.v (.int (i:Int))) (.v (zd s)) (.v (zd (ym s.1 s.2)))) rfl (wg (zgz rfl)) ?_
   refine zdI (yS (zF (x:=zd (ym s.1 s.2)) (y:=.dct false true (((S.take i).map λs=>ym s.1 s.2).map kP) (((S.take i).map λs=>ym s.1 s.2).map λ_=>.bl true)) rfl rfl ?_)) rfl
   rw[zc0,t8 g]
  .rw[WY h]
 .rintro r ρ c ⟨j,o,f,rfl⟩
  rw[vg,g8,o7 (by rw[u9];exact t6 _),u9,Nat.sub_self]at c
  cases c
  rw[u1W]
  refine⟨Yj m (.lst (S.map zd++d::rest)) (S.map λs=>ym s.1 s.2) (.v (.int (S.length:Int))) (.v d) f,rfl,?_⟩
  have p:∀ ρ:SE,zc 3 (visG ρ)=some (.int (S.length:Int))->xRI (zjl 0 1) (za (zc 3) zj) ρ=some (16+64*(S.length+1)):=fun ρ e=>by
   unfold xRI
   rw[show za (zc 3) zj (visG ρ)=some [.int (S.length:Int)]from zf e zJ,j7]
   show(if -1<=(S.length:Int)then some (0+16*1+64*((S.length:Int)+1).toNat)else none)=_
   rw[t7 (by omega)]
   congr 1
  rcases n with n | ⟨s,rfl,a,l⟩
  .exact zj4 (zgP (xT (b:=false) (yS (zq (ds:=[.int m,d]) rfl n))) (p _ rfl))
  .refine yP (zdI (xT (b:=true) (yS (zq (ds:=[.int m,zd s]) rfl (Zv a)))) rfl) (VD (xT (b:=true) (yS (zq (ds:=[.int m,zd s]) rfl (Zv a))))) ?_
   refine yP (ρ':=Yj m (.lst (S.map zd++zd s::rest)) (S.map λs=>ym s.1 s.2) (.v (.int (S.length:Int))) (.v (zd s)) (.v (zd (ym s.1 s.2)))) rfl (wg (zgz rfl)) ?_
   refine zgP (yS (zF (x:=zd (ym s.1 s.2)) (y:=.dct false true ((S.map λs=>ym s.1 s.2).map kP) ((S.map λs=>ym s.1 s.2).map λ_=>.bl true)) rfl rfl ?_)) (p _ rfl)
   rw[zc0,q0 l]
def VG (T:Txt P w K mg base ad):T.Px 11 5 2 ZH:=by
 letI:KK:=⟨K,ad.dk⟩
 have G_is_place_count:=wt T
 have G_is_pair:=YH T
 have G_tie_between:=xb T
 refine vN (cl:=clT ad) (N:=(Rw 11).N) (ps:=(Rw 11).ps) (T.d 11).fn (sc 11) (gx:=Yu) λb A outer s H E a=>?_
 unfold Yu
 exact(yq (Yr (wl (wD (zy G_is_place_count a rfl (T.d 2) (zb (edv 0) zg)))) (yb (vO (cl:=clT ad) ⟨T.g_NoWeb,T.ei_NoWeb,T.ea_NoWeb,vW T.na_NoWeb⟩ (Ym T) T.bi_NoWeb (Z5 (ziO ad) (show 0<16 by decide)) (a.mono (by decide)) rfl (zb (XC (zt zr)) zg))) yf) (SD.nox (xM (wl (wD (zy G_is_place_count a rfl (T.d 2) (zb (edv 0) zg)))) (zG vq) zY))
  (yq vu (SD.nox (zhr (t:=true) (i:=2) (sc 11).nd rfl (Or.inl rfl)))
  (xK (zot PassesOwn.leaving rfl (zcD rfl (T.z "enumerate" (by decide)) Yt (zb (edv 1) zg)) (ziK rfl (ZR (Zb (xF (i:=3) (sc 11).nd rfl (Or.inl rfl))) (ZR (Zb (xF (i:=4) (sc 11).nd rfl (Or.inl rfl))) zdh))) (yq (Yr (wl (wD (zy G_is_pair a rfl (T.d 5) (zb (edv 0) (zb (edv 4) zg))))) (yb (vO (cl:=clT ad) ⟨T.g_NoWeb,T.ei_NoWeb,T.ea_NoWeb,vW T.na_NoWeb⟩ (Ym T) T.bi_NoWeb (Z5 (ziO ad) (show 0<16 by decide)) (a.mono (by decide)) rfl (zb (edv 3) zg))) yf) (SD.nox (xM (wl (wD (zy G_is_pair a rfl (T.d 5) (zb (edv 0) (zb (edv 4) zg))))) (zG vq) zY))
  (yq vu (SD.nox (wJ (m:=false) (i:=5) (sc 11).nd rfl (Or.inl rfl) (zy G_tie_between a rfl (T.d 10) (zb (yh (edv 4) (zt zr) (λ_ _=>rfl)) (zb (yh (edv 4) (zt zr) (λ_ _=>rfl)) zg)))))
  (xK (Yr (zS (zfW a) zcO (by with_unfolding_all rfl) (edv 5) (edv 2)) (yb (vO (cl:=clT ad) ⟨T.g_NoWeb,T.ei_NoWeb,T.ea_NoWeb,vW T.na_NoWeb⟩ (Ym T) T.bi_NoWeb (Z5 (ziO ad) (show 0<16 by decide)) (a.mono (by decide)) rfl (zb (edv 3) zg))) yf)))) (SDs.nox (zA (xM (wl (wD (zy G_is_pair a rfl (T.d 5) (zb (edv 0) (zb (edv 4) zg))))) (zG vq) zY)
  (zA (wJ (m:=false) (i:=5) (sc 11).nd rfl (Or.inl rfl) (zy G_tie_between a rfl (T.d 10) (zb (yh (edv 4) (zt zr) (λ_ _=>rfl)) (zb (yh (edv 4) (zt zr) (λ_ _=>rfl)) zg))))
  (zA (xM (zS (zfW a) zcO (by with_unfolding_all rfl) (edv 5) (edv 2)) (zG vq) zY)
  (zG (zhi (m:=false) a (zfa zbm) (pv 2) (edv 5)))))))))))
def X4 (ok:xR m c)(h:ym a b∈c):(0<=a/\a<m)/\(0<=b/\b<m)/\a≠b:=by
 have:=ok.rng _ h
 unfold ym at this
 dsimp only at this
 split at this <;> split at this <;> omega
abbrev zbC :=yr (YR (zo 2 ye (za (zh ixD (zc 0) (eC (.int 0))) (za (zc 1) zj))) (zh inD (zo 2 zM (za (zh ixD (zc 1) (eC (.int 0))) (za (zh ixD (zc 1) (eC (.int 1))) zj))) (zh ixD (zc 0) (eC (.int 1)))))
def Zr:=fnD 2 zbC
def zfq {d:z0}(ok:xR m d)(a b:Int):Zr [zI m d,.tup [.int a,.int b]]=some (.bl (decide (ym a b∈d))):=by
 have e:ye [.int m,.tup [.int a,.int b]]=some (.bl (inR m a&&inR m b&&!decide (a=b))):=rfl
 have g:zM [.int a,.int b]=some (zd (ym a b)):=rfl
 have i:=zaw (ym a b) d
 have n:ixD (zI m d) (.int 0)=some (.int m):=rfl
 have k:ixD (zI m d) (.int 1)=some (.tup (d.map zd)):=rfl
 have q:ixD (.tup [.int a,.int b]) (.int 0)=some (.int a):=rfl
 have p:ixD (.tup [.int a,.int b]) (.int 1)=some (.int b):=rfl
 refine Yp (ρ:=[.v (zI m d),.v (.tup [.int a,.int b])]) rfl ?_
 unfold zbC
 refine vJ (yd ?_) rfl
 cases f:inR m a&&inR m b&&!decide (a=b) with
 | true =>
  rw[f]at e
  show(((ye [.int m,.tup [.int a,.int b]]).bind asB).bind λc=>if c=true then ((zM [.int a,.int b]).bind λt=>inD t (.tup (d.map zd)))else some (D.bl false))=_
  rw[e,g]
  exact i
 | false =>
  have:¬ ym a b∈d:=λh=>by
   obtain⟨l,o,j⟩:=X4 ok h
   have:(inR m a&&inR m b&&!decide (a=b))=true:=by
    unfold inR
    simp only[j0,j9,u03,g9]
    omega
   rw[this]at f
   cases f
  rw[t8 this]
  rw[f]at e
  show(((ye [.int m,.tup [.int a,.int b]]).bind asB).bind λc=>if c=true then ((zM [.int a,.int b]).bind λt=>inD t (.tup (d.map zd)))else some (D.bl false))=_
  rw[e]
  rfl
def ze5 (T:Txt P w K mg base ad):T.Pr 15 5 2 Zr:=by
 have:=YH T
 have:=xb T
 walk_at "q"
abbrev Hl:=zC
def hD (h:Hl):D:=.tup (h.map .int)
def zaF (h:Hl)(i x:Int):Hl:=h.set i.toNat x
def ws (h:Hl)(s:Tie):Hl:=zaF (zaF h s.1 (vAt h s.1-2)) s.2 (vAt (zaF h s.1 (vAt h s.1-2)) s.2+1)
def Zq (h:Hl)(i x:Int):(zaF h i x).length=h.length:=by unfold zaF;exact u24
def zbk (h:Hl)(s:Tie):(ws h s).length=h.length:=by unfold ws;rw[Zq,Zq]
def zjc {h:Hl}{i j:Int}(c:0<=i)(b:i<h.length)(a:0<=j):vAt (zaF h i x) j=if j=i then x else vAt h j:=by
 unfold vAt zaF
 rw[i8,u0o,i8]
 by_cases e:j=i
 .subst e
  rw[t7 rfl,t7 (by omega),t7 rfl]
  rfl
 .rw[j6 (by omega),j6 e]
def zaK {h:Hl}{i:Int}(b:0<=i)(a:i<h.length):(zaF h i x).sum=h.sum-vAt h i+x:=by
 unfold zaF
 rw[zin (h:=by omega)]
 unfold vAt
 rw[Dl.getD_at (by omega)]
def zba {v:Int}(a:v∈zaF h i x):v=x\/v∈h:=by
 unfold zaF at a
 rcases List.mem_or_eq_of_mem_set a with e | e
 .exact .inr e
 .exact .inl e
structure VC (n:Nat) (s:Tie):Prop where
 a0:0<=s.1
 a1:s.1<(n:Int)
 b0:0<=s.2
 b1:s.2<(n:Int)
 ne:s.1≠s.2
def zhS {h:Hl}(a:VC h.length s):(ws h s).sum=h.sum-1:=by
 unfold ws
 rw[zaK a.b0 (by rw[Zq];exact a.b1),zaK a.a0 a.a1]
 omega
def zil {h:Hl}{i:Int}(b:0<=i)(a:i<h.length):vAt h i∈h:=by
 unfold vAt
 exact Dl.getD_mem (by omega)
def zjL {h:Hl}(a:VC h.length s)(c:∀ v∈h,0<=v)(d:2<=vAt h s.1):∀ v∈ws h s,0<=v:=by
 intro v b
 unfold ws at b
 have e:vAt (zaF h s.1 (vAt h s.1-2)) s.2=vAt h s.2:=by
  rw[zjc a.a0 a.a1 a.b0,j6 (λe=>a.ne e.symm)]
 rcases zba b with rfl | b
 .rw[e]
  have:=c _ (zil a.b0 a.b1)
  omega
 .rcases zba b with rfl | b
  .omega
  .exact c v b
def gMv:zz :=zK (Wr 2 (fFn vD (za (zc 0) zj)))
  (zK (W4 true 2 (zh ixD (zc 1) (eC (.int 0))) (zh WT (zh ixD (zc 2) (zh ixD (zc 1) (eC (.int 0)))) (eC (.int 2))))
  (zK (W4 true 2 (zh ixD (zc 1) (eC (.int 1))) (zh yK (zh ixD (zc 2) (zh ixD (zc 1) (eC (.int 1)))) (eC (.int 1))))
  (sFz 2 (yr (eFn xI (za (zc 2) zj))))))
def zqZ {h:Hl}(k:VC h.length s):fnD 3 gMv [hD h,zd s]=some (hD (ws h s)):=by
 obtain⟨a,b⟩:=s
 obtain⟨e,f,c,b1,l⟩:=k
 dsimp only at e f c b1 l
 refine Yp (ρ:=[.v (hD h),.v (zd (a,b)),.no]) rfl ?_
 unfold gMv
 refine zw (ρ':=[.v (hD h),.v (zd (a,b)),.o (h.map .int)]) rfl ?_
 have n:=ZB (ns:=h) e f
 obtain⟨g,i⟩:∃ g,zaF h a (vAt h a-2)=g:=⟨_,rfl⟩
 have gl:g.length=h.length:=by rw[<-i,Zq]
 have m:=ZB (ns:=g) c (by rw[gl];exact b1)
 have j:ws h (a,b)=zaF g b (vAt g b+1):=by unfold ws;rw[i]
 rw[j]
 refine wH (zpw (h.map .int) (.int (vAt h a-2)) a ?_ rfl rfl e (by rw[u9];exact f) ?_)
 .show(Option.bind ((atI (h.map D.int) a).bind λx=>WT x (.int 2)) λd=>if noL d=true then some d else none)=_
  rw[n]
  rfl
 rw[show(h.map D.int).set a.toNat (.int (vAt h a-2))=g.map .int by rw[<-i];unfold zaF;rw[List.map_set]]
 refine wH (zpw (g.map .int) (.int (vAt g b+1)) b ?_ rfl rfl c (by rw[u9,gl];exact b1) ?_)
 .show(Option.bind ((atI (g.map D.int) b).bind λx=>yK x (.int 1)) λd=>if noL d=true then some d else none)=_
  rw[m]
  rfl
 rw[show(g.map D.int).set b.toNat (.int (vAt g b+1))=(zaF g b (vAt g b+1)).map .int by unfold zaF;rw[List.map_set]]
 exact zqQ rfl (vJ rfl rfl)
abbrev zfB :=zK (Wr 2 (fFn vD (za (zc 0) zj)))
  (zK (W4 true 2 (zh ixD (zc 1) (eC (.int 0))) (zh WT (zh ixD (zc 2) (zh ixD (zc 1) (eC (.int 0)))) (eC (.int 2))))
  (zK (W4 true 2 (zh ixD (zc 1) (eC (.int 1))) (zh yK (zh ixD (zc 2) (zh ixD (zc 1) (eC (.int 1)))) (eC (.int 1))))
  (sFz 2 (yr (eFn xI (za (zc 2) zj))))))
def W6:=fnD 3 zfB
def zfg {h:Hl}(a:VC h.length s):W6 [hD h,zd s]=some (hD (ws h s)):=zqZ a
def zfp (T:Txt P w K mg base ad):T.Pr 18 1 2 W6:=by
 walk_at "p"
inductive zff:D->Prop
 | pair (a b:Int):zff (.tup [.int a,.int b])
 | lst:zff (.lst [.int 0,.int 1])
 | tru:zff (.tup [.bl true,.int 0])
 | fal:zff (.tup [.int 0,.bl false])
 | non:zff .non
 | text (s:String):zff (.str s)
 | three:zff (.tup [.int 0,.int 1,.int 1])
 | one:zff (.tup [.int 0])
 | num (n:Int):zff (.int n)
def Vl (c:z0):D->Option Tie
 | .tup [.int a,.int b]=>if decide (ym a b∈c)=true then some (a,b)else none
 | _=>none
def WI (c:z0)(a b:Int):Vl c (.tup [.int a,.int b])=if decide (ym a b∈c)=true then some (a,b)else none:=rfl
def ze3 {d:D}(ok:xR m c)(h:zff d):Zr [zI m c,d]=some (.bl (Vl c d).isSome):=by
 cases h with
 | pair a b =>
  rw[zfq ok,WI]
  cases decide (ym a b∈c) <;> rfl
 | _=>rfl
def zf0 {f:z0}{d:D}(ok:xR m f)(h:zff d)(e:Vl f d=some s):d=zd s/\(0<=s.1/\s.1<m)/\(0<=s.2/\s.2<m)/\s.1≠s.2:=by
 cases h with
 | pair a b =>
  rw[WI]at e
  by_cases c:decide (ym a b∈f)=true
  .rw[t7 c]at e
   cases e
   exact⟨rfl,X4 ok (k8 c)⟩
  .rw[j6 c]at e
   cases e
 | _=>cases e
def zfH {m:Int}{h:Hl}(f:(h.length:Int)=m)(r:(0<=s.1/\s.1<m)/\(0<=s.2/\s.2<m)/\s.1≠s.2):VC h.length s:=by
 obtain⟨⟨a,b⟩,⟨c,d⟩,e⟩:=r
 exact⟨a,by omega,c,by omega,e⟩
def Xv (a:z0):Hl->Nat->zm->D
 | _,_,[]=>.non
 | h,k,d::es=>match Vl a d with
  | none=>.tup [.str "form",.int (k:Int)]
  | some s=>if decide (vAt h s.1<2)=true then .tup [.str "bare",.int (k:Int)]else Xv a (ws h s) (k+1) es
def Y3 (a:z0):Hl->zm->List Hl
 | _,[]=>[]
 | h,d::es=>match Vl a d with
  | none=>[]
  | some s=>if decide (vAt h s.1<2)=true then []else ws h s::Y3 a (ws h s) es
def WX {k:Nat} {d:D} (e:Vl a d=none):Xv a h k (d::b)=.tup [.str "form",.int (k:Int)]:=by
 show(match Vl a d with | none=>_ | some s=>_)=_
 rw[e]
def W0 {k:Nat} {d:D} (e:Vl a d=some s) (c:vAt h s.1<2):Xv a h k (d::b)=.tup [.str "bare",.int (k:Int)]:=by
 show(match Vl a d with | none=>_ | some s=>_)=_
 rw[e]
 show(if decide (vAt h s.1<2)=true then _ else _)=_
 rw[t7 (q0 c)]
def zca {k:Nat}{d:D}(e:Vl a d=some s)(c:¬ vAt h s.1<2):Xv a h k (d::b)=Xv a (ws h s) (k+1) b:=by
 show(match Vl a d with | none=>_ | some s=>_)=_
 rw[e]
 show(if decide (vAt h s.1<2)=true then _ else _)=_
 rw[j6 (by rw[t8 c];exact u7)]
def Zg {d:D}(e:Vl a d=none):Y3 a h (d::b)=[]:=by
 show(match Vl a d with | none=>_ | some s=>_)=_
 rw[e]
def Za {d:D}(e:Vl a d=some s)(c:vAt h s.1<2):Y3 a h (d::b)=[]:=by
 show(match Vl a d with | none=>_ | some s=>_)=_
 rw[e]
 show(if decide (vAt h s.1<2)=true then _ else _)=_
 rw[t7 (q0 c)]
def Ws {d:D}(e:Vl a d=some s)(c:¬ vAt h s.1<2):Y3 a h (d::b)=ws h s::Y3 a (ws h s) b:=by
 show(match Vl a d with | none=>_ | some s=>_)=_
 rw[e]
 show(if decide (vAt h s.1<2)=true then _ else _)=_
 rw[j6 (by rw[t8 c];exact u7)]
def zfj (b:z0):∀ (a:zm) (h:Hl),(Y3 b h a).length<=a.length:=by
 intro a
 induction a with
 | nil=>intro h;exact t6 _
 | cons d a f =>
  intro h
  cases e:Vl b d with
  | none=>rw[Zg e];exact u0b _
  | some s =>
   by_cases c:vAt h s.1<2
   .rw[Za e c];exact u0b _
   .rw[Ws e c,k7,k7]
    exact u1d (f _)
def zl7 {a:zm}{i:Nat}{d:D}(h:a[i]?=some d):a.drop i=d::a.drop (i+1):=by
 obtain⟨b,c⟩:=j3.mp h
 rw[u0a b,c]
abbrev zaj :=zK (sIf (yn (tOf (zo 2 Zr (za (zc 0) (za (zc 6) zj))))) (zcX 3 (wW (za (eC (.str "form")) (za (zc 5) zj)))) zD)
  (zK (sIf (tOf (zh ltD (zh ixD (zc 4) (zh ixD (zc 6) (eC (.int 0)))) (eC (.int 2)))) (zcX 3 (wW (za (eC (.str "bare")) (za (zc 5) zj)))) zD)
  (zK (xD false 4 (zo 2 W6 (za (zc 4) (za (zc 6) zj))))
  (Vm false 3 (zc 4))))
abbrev zb9 :=zK (sIf (yn (tOf (eUn (y0 .list) (zc 2)))) (zmX (yi zj) (wW (za (eC (.str "list")) (za (eC (.int 0)) zj)))) zD)
  (zK (Wr 3 (yi zj))
  (zK (xD false 4 (zc 1))
  (zK (XG (xX (za (zc 2) zj)) (Vu 2 (wQ (wc 5) (wQ (wc 6) V0))) zaj)
  (zcX 3 (eC .non)))))
def VA:=fnD 7 zb9
def zhv {h:Hl}{f:zm}(ok:xR m a)(A:(h.length:Int)=m)(B:∀ e∈f,zff e)(F:f.length<=900):VA [zI m a,hD h,.lst f]=some (.tup [.lst ((Y3 a h f).map hD),Xv a h 0 f]):=by
 refine Yp (ρ:=[.v (zI m a),.v (hD h),.v (.lst f),.no,.no,.no,.no]) rfl ?_
 unfold zb9
 refine wH (ziP (c:=false) rfl (λz=>by cases z) (λ_=>zcx rfl ?_))
 refine zw (ρ':=[.v (zI m a),.v (hD h),.v (.lst f),.o [],.no,.no,.no]) rfl ?_
 refine zw (ρ':=[.v (zI m a),.v (hD h),.v (.lst f),.o [],.v (hD h),.no,.no]) rfl ?_
 refine wH (zks (ds:=XM 0 f) (λi ρ=>∃ (g:Hl) (j:List Hl) (q t:Sl),ρ=[.v (zI m a),.v (hD h),.v (.lst f),.o (j.map hD),.v (hD g),q,t]/\(g.length:Int)=m/\Xv a h 0 f=Xv a g i (f.drop i)/\Y3 a h f=j++Y3 a g (f.drop i)) rfl ⟨h,[],_,_,rfl,A,rfl,rfl⟩ ?_ ?_)
 .rintro i d ρ w ⟨g,j,q,t,rfl,gl,l,k⟩
  rw[vg,g8]at w
  obtain⟨x,v,rfl⟩:=t4.mp w
  have n:=B x (o8 v)
  have o:=ze3 ok n
  have E:j.length<=900:=by
   have:=zfj a f h
   rw[k,j4]at this
   omega
  rw[zl7 v]at l k
  refine⟨[.v (zI m a),.v (hD h),.v (.lst f),.o (j.map hD),.v (hD g),.v (.int (i:Int)),.v x],rfl,?_⟩
  unfold zaj
  cases e:Vl a x with
  | none =>
   rw[e]at o
   rw[l,WX e,k,Zg e,r8]
   exact wH (ziP (c:=true) (xT (b:=false) (yS (zq (ds:=[_,_]) rfl o))) (λ_=>vJ rfl rfl) (λz=>by cases z))
  | some s =>
   rw[e]at o
   obtain⟨rfl,r⟩:=zf0 ok n e
   have p:=zfH gl r
   refine wH (ziP (c:=false) (xT (b:=true) (yS (zq (ds:=[_,_]) rfl o))) (λz=>by cases z) (λ_=>zcx rfl ?_))
   have C:=ZB (ns:=g) p.a0 p.a1
   refine wH (ziP (c:=decide (vAt g s.1<2)) (yS (zF (x:=.int (vAt g s.1)) (y:=.int 2) (zF (x:=hD g) (y:=.int s.1) rfl rfl C) rfl rfl)) (λc=>?_) (λc=>zcx rfl ?_))
   .have c:=k8 c
    rw[l,W0 e c,k,Za e c,r8]
    exact vJ rfl rfl
   .have c:=of_decide_eq_false c
    rw[zca e c]at l
    rw[Ws e c]at k
    have u:=zfg p
    refine zw (ρ':=[.v (zI m a),.v (hD h),.v (.lst f),.o (j.map hD),.v (hD (ws g s)),.v (.int (i:Int)),.v (zd s)]) (zhf (ds:=[_,_]) rfl u) ?_
    refine zcx (zlN (ds:=j.map hD) (d:=hD (ws g s)) rfl rfl (by rw[u9];omega)) ⟨ws g s,j++[ws g s],.v (.int (i:Int)),.v (zd s),?_,by rw[zbk];exact gl,l,?_⟩
    .rw[r9];rfl
    .rw[k,u04];rfl
 .rintro ρ ⟨g,j,q,t,rfl,gl,l,k⟩
  rw[xP,u0R]at l k
  rw[l,k,show Y3 a g []=[]from rfl,r8]
  first | exact zqQ rfl (vJ rfl rfl) | exact vJ rfl rfl
def zjh (T:Txt P w K mg base ad):xB P w K mg base CX0 6 (ad.f 19) (ad.e 19) (Rw 19).ps (@zq8 ⟨K,ad.dk⟩ false 3 VA):=by
 letI:KK:=⟨K,ad.dk⟩
 have G_is_step:=ze5 T
 have G_stepped:=zfp T
 refine zoG (k:=false) (N:=(Rw 19).N) (ps:=(Rw 19).ps) (T.d 19).fn (sc 19) (g:=zb9) (λd A outer s H E c=>?_) (by unfold zb9;exact(zaz (zaz (zaz (zaz zjF)))))
 unfold zb9 zaj
 exact(ve (zg1 (wl (wD (Yw .list rfl (T.z "isinstance" (by decide)) (edv 2) (vH (v:=.ty "list") rfl (T.z "list" (by decide)) zap rfl)))) (ZJ (zjf (vl zg) (w6 (zb (zQ zO) (zb (zt zr) zg))))) zaS)
  (ve (zd9 (zlA (i:=3) (sc 19).nd rfl (Or.inl rfl) (vl zg)) zmQ)
  (ve (zd9 (wJ (m:=false) (i:=4) (sc 19).nd rfl (Or.inl rfl) (edv 1)) zhP)
  (ve (znP u2e rfl (zcD rfl (T.z "enumerate" (by decide)) Yt (zb (edv 2) zg)) (ziK rfl (ZR (Zb (xF (i:=5) (sc 19).nd rfl (Or.inl rfl))) (ZR (Zb (xF (i:=6) (sc 19).nd rfl (Or.inl rfl))) zdh))) (ve (zg1 (wl (wD (zy G_is_step c rfl (T.d 15) (zb (edv 0) (zb (edv 6) zg))))) (ZJ (za6 (pv 3) (w6 (zb (zQ zO) (zb (edv 5) zg))))) zaS)
  (ve (zg1 (zS zrv xU (z5 _) (yh (edv 4) (yh (edv 6) (zt zr) (λ_ _=>rfl)) (λ_ _=>rfl)) (zt zr)) (ZJ (za6 (pv 3) (w6 (zb (zQ zO) (zb (edv 5) zg))))) zaS)
  (ve (zd9 (wJ (m:=false) (i:=4) (sc 19).nd rfl (Or.inl rfl) (zy G_stepped c rfl (T.d 18) (zb (edv 4) (zb (edv 6) zg)))) zhP)
  (ZJ (zd9 (zlu (m:=false) (pv 3) (edv 4) (λa b=>W2 p8 u1j u1k Wf a b)) znw))))))
  (ZJ (za6 (pv 3) (VT VP)))))))
def zhD (T:Txt P w K mg base ad):T.Pr 19 6 3 VA:=by
 letI:KK:=⟨K,ad.dk⟩
 exact zqn (zjh T)
def zk4 (ok:xR m a):zV [zI m a]=some .non:=by
 have hw:wB (zI m a)=true:=(xy _).mpr ⟨_,_,rfl,ok⟩
 simp only[zV]
 rw[t7 hw]
structure HpOk (m:Int) (h:Hl):Prop where
 len:(h.length:Int)=m
 nn:∀ v∈h,0<=v
 sum:h.sum<=300
def zhA (ok:xR m b)(a:HpOk m h):z3 [zI m b,hD h]=some .non:=by
 show(if (noS (.tup (h.map .int))&&decide (m<=1000)&&xE m (.tup (h.map .int)))=true then some D.non else none)=_
 rw[XU,Zy ok,vQ a.len a.nn a.sum]
 rfl
abbrev xL :=xIf (yn (tOf (zo 1 v4 (za (zc 0) zj)))) (xRI (zjl 0 1) (za (eUn ZT (eC (.int 1))) zj)) xNo
def vA:=fnX 1 xL
def Vi (T:Txt P w K mg base ad):T.Px 8 7 1 vA:=by
 letI:KK:=⟨K,ad.dk⟩
 have G_is_web:=zcg T
 refine vN (cl:=clT ad) (N:=(Rw 8).N) (ps:=(Rw 8).ps) (T.d 8).fn (sc 8) (gx:=xL) λb A outer s H E a=>?_
 unfold xL
 exact(yb (Yr (wl (wD (zy G_is_web a rfl (T.d 7) (zb (edv 0) zg)))) (yb (vO (cl:=clT ad) ⟨T.g_NoWeb,T.ei_NoWeb,T.ea_NoWeb,vW T.na_NoWeb⟩ (Ym T) T.bi_NoWeb (Z5 (ziO ad) (show 0<16 by decide)) (a.mono (by decide)) rfl (zb (XC (zt zr)) zg))) yf))
abbrev yk :=xIf (yn (tOf (zo 2 yC (za (zh ixD (zc 0) (eC (.int 0))) (za (zc 1) zj))))) (Xu 3) xNo
def zE:=fnX 2 yk
def xA (T:Txt P w K mg base ad):T.Px 9 4 2 zE:=by
 letI:KK:=⟨K,ad.dk⟩
 have G_is_place:=Zd T
 refine vN (cl:=clT ad) (N:=(Rw 9).N) (ps:=(Rw 9).ps) (T.d 9).fn (sc 9) (gx:=yk) λa A outer s H E b=>?_
 unfold yk
 exact(yb (Yr (wl (wD (zy G_is_place b rfl (T.d 3) (zb (yh (edv 0) (zt zr) (λ_ _=>rfl)) (zb (edv 1) zg))))) (yb (v9 (cl:=clT ad) (j:=3) ⟨T.g_NoPlace,T.c_NoPlace⟩ rfl)) yf))
abbrev xj :=xIf (yn (tOf (zo 2 yt (za (zc 0) (za (zc 1) zj))))) (Xu 2) xNo
def vb:=fnX 2 xj
def XL (T:Txt P w K mg base ad):T.Px 14 4 2 vb:=by
 letI:KK:=⟨K,ad.dk⟩
 have G_are_stones:=wX T
 refine vN (cl:=clT ad) (N:=(Rw 14).N) (ps:=(Rw 14).ps) (T.d 14).fn (sc 14) (gx:=xj) λa A outer s H E b=>?_
 unfold xj
 exact(yb (Yr (wl (wD (zy G_are_stones b rfl (T.d 13) (zb (edv 0) (zb (edv 1) zg))))) (yb (v9 (cl:=clT ad) (j:=2) ⟨T.g_NoHeap,T.c_NoHeap⟩ rfl)) yf))
abbrev zeC :=zK (vx (zo 1 zV (za (zc 0) zj)))
  (zK (vx (zo 2 z3 (za (zc 0) (za (zc 1) zj))))
  (zK (xD false 3 (zo 3 VA (za (zc 0) (za (zc 1) (za (zc 2) zj)))))
  (zK (xD false 4 (zh ixD (zc 3) (eC (.int 1))))
  (zK (sIf (tOf (zh xf (zc 4) (eC .non))) sNo zD)
  (yr (zh ixD (zc 3) (eC (.int 0))))))))
def V6:=fnD 5 zeC
def zf5 (T:Txt P w K mg base ad):T.Pr 20 8 3 V6:=by
 have:=wz T
 have:=x4 T
 have:=zhD T
 walk_at "p"
abbrev ZQ :=w1 (xEx (wj 1 vA (za (zc 0) zj))) (vx (zo 1 zV (za (zc 0) zj)))
  (w1 (xEx (wj 2 vb (za (zc 0) (za (zc 1) zj)))) (vx (zo 2 z3 (za (zc 0) (za (zc 1) zj))))
  (w1 xNo (xD false 3 (zo 3 VA (za (zc 0) (za (zc 1) (za (zc 2) zj)))))
  (w1 xNo (xD false 4 (zh ixD (zc 3) (eC (.int 1))))
  (xIf (tOf (zh xf (zc 4) (eC .non))) (xRI (zjl 10 1) (za (eIf (tOf (zh x9 (zh ixD (zc 4) (eC (.int 0))) (eC (.str "list")))) (eUn ZT (eC (.int 1))) (zh ixD (zc 4) (eC (.int 1)))) zj)) xNo))))
def WV:=fnX 5 ZQ
def zeJ (T:Txt P w K mg base ad):T.Px 20 8 3 WV:=by
 letI:KK:=⟨K,ad.dk⟩
 have G_must_be_web:=wz T
 have X_must_be_web:=Vi T
 have G_must_be_heap:=x4 T
 have X_must_be_heap:=XL T
 have G_walk:=zhD T
 refine vN (cl:=clT ad) (N:=(Rw 20).N) (ps:=(Rw 20).ps) (T.d 20).fn (sc 20) (gx:=ZQ) λb A outer s H E a=>?_
 (first | apply zkO | apply yb | apply xK) <;> walk_at "s"
 all_goals first | exact(vO (cl:=clT ad) ⟨T.g_NoSteps,T.ei_NoSteps,T.ea_NoSteps,vW T.na_NoSteps⟩ (zdl T) T.bi_NoSteps (Z5 (ziO ad) (show 10<16 by decide)) (a.mono (by decide)) rfl (zb (zps (zS (yy a) zZ (z5 _) (yh (edv 4) (zt zr) (λ_ _=>rfl)) (zQ zO)) (XC (zt zr)) (yh (edv 4) (zt zr) (λ_ _=>rfl))) zg))
abbrev zcF :=zK (sIf (X8 (yn (tOf (eUn (y0 .tuple) (zc 0)))) (tOf (zh neD (eFn Yz (za (zc 0) zj)) (eC (.int 2))))) (yr (eC (.bl false))) zD)
  (zK (xD false 1 (zh ixD (zc 0) (eC (.int 0))))
  (zK (sIf (yn (tOf (eUn (y0 .str) (zc 1)))) (yr (eC (.bl false))) zD)
  (zK (sIf (tOf (zh x9 (zc 1) (eC (.str "tree")))) sNo zD)
  (yr (YR (eUn (zlC ZC) (zc 1)) (zo 3 zT (za (zh ixD (zc 0) (eC (.int 1))) (za (eUn (zfF ZC 0) (zc 1)) (za (eUn (zfF ZC 1) (zc 1)) zj)))))))))
def Y8:=fnD 2 zcF
def Xh (T:Txt P w K mg base ad):T.Pr 21 3 1 Y8:=by
 have G_is_whole_within:=wf T
 walk_at "p"
 all_goals first | exact(zjN T.b_SIZES rfl T.g_SIZES (edv 1)) | exact(ziU T.b_SIZES (by decide) rfl T.g_SIZES (edv 1) (λ_ _=>rfl))
abbrev zdw :=zK (sIf (tOf (zh x9 (zc 0) (eC (.str "cube")))) sNo zD)
  (zK (sIf (tOf (zh x9 (zc 0) (eC (.str "star")))) (yr (zh yK (zc 1) (eC (.int 1)))) zD)
  (zK (sIf (tOf (zh x9 (zc 0) (eC (.str "tree")))) sNo zD)
  (yr (zc 1))))
def Wt:=fnD 2 zdw
def zbw (T:Txt P w K mg base ad):T.Pr 22 1 2 Wt:=by
 walk_at "p"
abbrev zfh :=zK (sIf (tOf (zh x9 (zc 0) (eC (.str "row")))) (yr (zh x9 (zc 3) (zh yK (zc 2) (eC (.int 1))))) zD)
  (zK (sIf (tOf (zh x9 (zc 0) (eC (.str "ring")))) sNo zD)
  (zK (sIf (tOf (zh x9 (zc 0) (eC (.str "cube")))) sNo zD)
  (zK (sIf (tOf (zh x9 (zc 0) (eC (.str "star")))) (yr (zh x9 (zc 2) (eC (.int 0)))) zD)
  (zK (sIf (tOf (zh x9 (zc 0) (eC (.str "tree")))) sNo zD)
  (yr (eC (.bl true)))))))
def VU:=fnD 4 zfh
def zdy (T:Txt P w K mg base ad):T.Pr 23 1 4 VU:=by
 walk_at "p"
abbrev zdq :=zbd 4 (xq (fLC (VO zbj (za (zh yK (zc 5) (eC (.int 1))) (za (zc 3) zj))) b1 (tOf (zo 4 VU (za (zc 2) (za (zc 3) (za (zc 6) (za (zc 0) zj)))))) (wW (za (zc 6) (za (zc 0) zj)))))
abbrev zhH :=zK (sIf (yn (tOf (zo 1 Y8 (za (zc 0) zj)))) sNo zD)
  (zK (xD false 1 (zh ixD (zc 0) (eC (.int 0))))
  (zK (xD false 2 (zh ixD (zc 0) (eC (.int 1))))
  (zK (xD false 3 (zo 2 Wt (za (zc 1) (za (zc 2) zj))))
  (zK (Wr 4 (yi zj))
  (zK (vI Zl (za (zc 3) zj) (wc 5) zdq)
  (sFz 4 (yr (wW (za (zc 3) (za (eFn xI (za (zc 4) zj)) zj))))))))))
def zbJ:=fnD 6 zhH
def zeX (T:Txt P w K mg base ad):T.Pr 24 4 1 zbJ:=by
 have:=Xh T
 have:=zbw T
 have:=zdy T
 walk_at "p"
abbrev ZZ :=xIf (yn (tOf (zo 1 Y8 (za (zc 0) zj)))) (Xu 1) xNo
def VM:=fnX 6 ZZ
def zc6 (T:Txt P w K mg base ad):T.Px 24 4 1 VM:=by
 letI:KK:=⟨K,ad.dk⟩
 have G_kind_good:=Xh T
 refine vN (cl:=clT ad) (N:=(Rw 24).N) (ps:=(Rw 24).ps) (T.d 24).fn (sc 24) (gx:=ZZ) λa A outer s H E b=>?_
 unfold ZZ
 exact(xK (Yr (wl (wD (zy G_kind_good b rfl (T.d 21) (zb (edv 0) zg)))) (yb (v9 (cl:=clT ad) (j:=1) ⟨T.g_NoKind,T.c_NoKind⟩ rfl)) yf))
def gl (c:Nat):List (List Nat)->List Nat
 | []=>[]
 | [x]=>x
 | x::y::r=>x++c::gl c (y::r)
def zhn (c:Nat):∀ A:zH,(Str.join ⟨#[c]⟩ A).cps.toList=gl c (A.map λa=>a.cps.toList):=by
 intro A
 induction A with
 | nil=>rfl
 | cons x r b =>
  cases r with
  | nil=>rfl
  | cons y r =>
   show((x++⟨#[c]⟩++Str.join ⟨#[c]⟩ (y::r)).cps).toList=x.cps.toList++c::gl c ((y::r).map λa=>a.cps.toList)
   rw[<-b,Str.cps_append,Str.cps_append,u16,u16,u04]
   rfl
def zdD:Str.ofString " "=⟨#[32]⟩:=by decide
def nS (n:Int):Str:=Str.ofString (toString n)
def okS (n:Nat):Bool:=(nS (n:Int)).cps.toList.all (λc=>decide (48<=c)&&decide (c<=57))&&decide ((nS (n:Int)).length<=3)
def zno:(List.range 301).all okS=true:=by decide +kernel
def zbF {n:Int}(h0:0<=n)(b:n<=300):(∀ c∈(nS n).cps.toList,48<=c/\c<=57)/\(nS n).length<=3:=by
 have h:=p4.mp zno n.toNat (u0r.mpr (by omega))
 unfold okS at h
 rw[show((n.toNat:Nat):Int)=n by omega,j0]at h
 refine⟨λc a=>?_,k8 h.2⟩
 have:=p4.mp h.1 c a
 rw[j0]at this
 exact⟨k8 this.1,k8 this.2⟩
def WH (w:Str) (ns:zC):Str:=Txt.join (Str.ofString " ") (w::ns.map nS)
structure Xg (w:Str):Prop where
 len:w.length<=4
 asc:∀ c∈w.cps.toList,97<=c/\c<=122
structure Zo (ns:zC):Prop where
 few:ns.length<=8
 rng:∀ n∈ns,0<=n/\n<=300
def zbx {w:Str}{ns:zC}(hw:Xg w)(c:Zo ns):∀ y∈w::ns.map nS,y.length<=4:=λy b=>by
 rcases q7.mp b with rfl | b
 .exact hw.len
 .obtain⟨n,a,rfl⟩:=l6.mp b
  have:=(zbF (c.rng n a).1 (c.rng n a).2).2
  omega
def zaZ {w:Str}(hw:Xg w)(a:Zo ns):(WH w ns).length<=45:=by
 have b:WH w ns=Str.join (Str.ofString " ") (w::ns.map nS):=u02 _ _
 have c:=StrLaws.join_length_le (Str.ofString " ") (w::ns.map nS)
 have f:=StrLaws.sumLen_le (w::ns.map nS) (zbx hw a)
 have e:(w::ns.map nS).length<=9:=by rw[k7,u9];have:=a.few;omega
 have d:(Str.ofString " ").length=1:=by decide
 rw[b]
 rw[d]at c
 omega
def Z8 {w:Str}(hw:Xg w)(g:Zo ns):∀ c∈(WH w ns).cps.toList,32<=c/\c<=122:=by
 have j:WH w ns=Str.join (Str.ofString " ") (w::ns.map nS):=u02 _ _
 rw[j,zdD,zhn]
 have key:∀ A:List (List Nat),(∀ a∈A,∀ c∈a,32<=c/\c<=122)->∀ c∈gl 32 A,32<=c/\c<=122:=λA=>by
  induction A with
  | nil=>intro _ c b;cases b
  | cons x r i =>
   intro h c b
   cases r with
   | nil=>exact h x (.head _) c b
   | cons y r =>
    rcases u0t.mp (show c∈x++32::gl 32 (y::r)from b)with b | b
    .exact h x (.head _) c b
    .rcases q7.mp b with rfl | b
     .decide
     .exact i (λa f=>h a (.tail _ f)) c b
 refine key _ λa f c b=>?_
 obtain⟨s,e,rfl⟩:=l6.mp f
 rcases q7.mp e with rfl | e
 .have:=hw.asc c b
  omega
 .obtain⟨n,d,rfl⟩:=l6.mp e
  have:=(zbF (g.rng n d).1 (g.rng n d).2).1 c b
  omega
def zcy {s:Str}{a:zH}{B:Nat}(b:∀ y∈a,y.length<=B)(h:a.length*B+a.length*s.length<=16777216):JoinOk s a=true:=by
 unfold JoinOk
 rw[StrLaws.joinFits b h]
 rfl
def zj6 {w:Str} {ns:zC} (hw:Xg w) (a:Zo ns):zcK (.str (Str.ofString " ")) (.lst ((w::ns.map nS).map .str))=some (.str (WH w ns)):=by
 show(Xl ((w::ns.map nS).map .str)).bind _=_
 rw[ZY,j7,t7 (zcy (zbx hw a) ?_)]
 .rfl
 .have c:(w::ns.map nS).length<=9:=by rw[k7,u9];have:=a.few;omega
  have b:(Str.ofString " ").length=1:=by decide
  rw[b]
  omega
def zmB:Xg (Str.ofString "web"):=⟨by decide,by decide⟩
def zmP:Xg (Str.ofString "tie"):=⟨by decide,by decide⟩
def zhM:Xg (Str.ofString "heap"):=⟨by decide,by decide⟩
def Vh {n:Int}(h0:0<=n)(a:n<=300):zcM [.int n]=some (.str (nS n)):=by
 show(if 0<=n/\n<1000000 then _ else _)=_
 rw[t7 ⟨h0,by omega⟩]
 rfl
def zgv {ns:zC}{i:yx}(b:i ρ=some (ns.map .int))(a:Zo ns):fLC i b1 xp (eFn zcM (za (zc 0) zj)) ρ=some ((ns.map nS).map .str):=by
 unfold fLC
 rw[b,j7,t7 (vc (by rw[u9];have:=a.few;omega)),u0F]
 refine Xc D.int (D.str∘nS) ns λn h=>⟨[some (.int n)],rfl,rfl,?_⟩
 exact Xb (ds:=[.int n]) rfl (Vh (a.rng n h).1 (a.rng n h).2)
def zmx {a:xz}{f:zU}{g:yx}{d:D}(b:f ρ=some c)(e:g ρ=some [d])(h:a c d=z):zbA a f g ρ=z:=by
 unfold zbA
 rw[b,j7,e]
 exact h
abbrev ZN :=yr (zbA zcK (eC (.str " ")) (za (zh yK (xq (yi (za (zc 0) zj))) (xq (fLC (iOf (zc 1)) b1 xp (eFn zcM (za (zc 0) zj))))) zj))
def xn:=fnD 2 ZN
def Z2 {w:Str}{ns:zC}{d:D}(hw:Xg w)(a:Zo ns)(c:wk d=some (ns.map .int)):xn [.str w,d]=some (.str (WH w ns)):=by
 refine Yp (ρ:=[.v (.str w),.v d]) rfl ?_
 unfold ZN
 refine vJ (d:=.str (WH w ns)) (yd ?_) rfl
 have b:zh yK (xq (yi (za (zc 0) zj))) (xq (fLC (iOf (zc 1)) b1 xp (eFn zcM (za (zc 0) zj)))) (visG [.v (.str w),.v d])=some (.lst ((w::ns.map nS).map .str)):=by
  refine zF (x:=.lst [.str w]) (y:=.lst ((ns.map nS).map .str)) rfl (Yg (zgv (VB (d:=d) rfl c) a)) ?_
  rw[ZS (by rw[u9,u9];have:=a.few;show 1+_<=1000;omega)]
  rfl
 unfold zbA
 rw[zf b zJ]
 exact zj6 hw a
def zeL (T:Txt P w K mg base ad):T.Pr 25 1 2 xn:=by
 letI:KK:=⟨K,ad.dk⟩
 refine Vo (N:=(Rw 25).N) (ps:=(Rw 25).ps) (T.d 25).fn (sc 25) (g:=ZN) λc A outer s H E d=>?_
 unfold ZN
 exact(zG (y8 (zc1 (zQ zO) (zb (Vz (YW (vl (zb (edv 0) zg))) (YW (zd3 (L:=["number"]) (M:=["word","numbers"]) rfl (Xj (by rfl) (by rfl) (by rfl) (by with_unfolding_all rfl) (by rfl) (by rfl) (by kernel_rfl) vE) (WZ (edv 1)) gs1 rb1 (λ_ _ _ _=>(xF (i:=0) zrA rfl (Or.inl rfl) (.inr rfl))) (λ_ _ _ _=>(vP Yq zdi rfl (T.z "str" (by decide)) Wx (zb (edv 0) zg)))))) zg) (λa b=>W2 u0n u1P u1Q zcP a b))))
def Zc (m:Int) (a:z0) (h:zC):zH:=WH (Str.ofString "web") [m]::(a.map λt=>WH (Str.ofString "tie") [t.1,t.2])++[WH (Str.ofString "heap") h]
def zeS (m:Int) (a:z0) (h:zC):Str:=Txt.join (Str.ofString "\n") (Zc m a h)
structure xH (m:Int) (ts:z0) (h:zC):Prop where
 ok:xR m ts
 few:ts.length<=28
 len:(h.length:Int)=m
 nn:∀ x∈h,0<=x
 sum:h.sum<=300
section
variable {m:Int}{ts:z0}{h:zC}(A:xH m ts h)
include A
theorem xH.nW:Zo [m]:=⟨by show 1<=8;decide,λn a=>by rw[j5.mp a];have:=A.ok.lo;have:=A.ok.hi;omega⟩
theorem xH.nT {t:Tie}(b:t∈ts):Zo [t.1,t.2]:=⟨by show 2<=8;decide,λn a=>by
 have r:=A.ok.rng t b
 have:=A.ok.hi
 rcases q7.mp a with rfl | a
 .omega
 .rw[j5.mp a];omega⟩
theorem xH.nH:Zo h:=⟨by have:=A.len;have:=A.ok.hi;omega,λn d=>⟨A.nn n d,by
 have g:=A.sum
 have key:∀ l:zC,(∀ x∈l,0<=x)->n∈l->n<=l.sum:=λl=>by
  induction l with
  | nil=>intro _ z;cases z
  | cons a l e =>
   intro c z
   rw[List.sum_cons]
   have h0:=c a (.head _)
   have f:0<=l.sum:=zlO λx b=>c x (.tail _ b)
   rcases q7.mp z with rfl | z
   .omega
   .have:=e (λx b=>c x (.tail _ b)) z;omega
 have:=key h A.nn d
 omega⟩⟩
theorem xH.rows:∀ r∈Zc m ts h,r.length<=45/\∀ c∈r.cps.toList,32<=c/\c<=122:=λr a=>by
 unfold Zc at a
 rcases u0t.mp a with a | a
 .rcases q7.mp a with rfl | a
  .exact⟨zaZ zmB A.nW,Z8 zmB A.nW⟩
  .obtain⟨t,b,rfl⟩:=l6.mp a
   exact⟨zaZ zmP (A.nT b),Z8 zmP (A.nT b)⟩
 .rw[j5.mp a]
  exact⟨zaZ zhM A.nH,Z8 zhM A.nH⟩
theorem xH.count:(Zc m ts h).length=ts.length+2/\(Zc m ts h).length<=30:=by
 have e:(Zc m ts h).length=ts.length+2:=by
  unfold Zc
  rw[j4,k7,u9]
  rfl
 have:=A.few
 exact⟨e,by omega⟩
theorem xH.short:(zeS m ts h).length<=1500:=by
 have a:zeS m ts h=Str.join (Str.ofString "\n") (Zc m ts h):=u02 _ _
 have b:=StrLaws.join_length_le (Str.ofString "\n") (Zc m ts h)
 have e:=StrLaws.sumLen_le (Zc m ts h) λr d=>(A.rows r d).1
 have f:=A.count.2
 have c:(Str.ofString "\n").length=1:=by decide
 rw[a]
 rw[c]at b
 omega
theorem xH.join:zcK (.str (Str.ofString "\n")) (.lst ((Zc m ts h).map .str))=some (.str (zeS m ts h)):=by
 show(Xl ((Zc m ts h).map .str)).bind _=_
 rw[ZY,j7,t7 (zcy (λr b=>(A.rows r b).1) ?_)]
 .rfl
 .have c:=A.count.2
  have a:(Str.ofString "\n").length=1:=by decide
  rw[a]
  omega
end
abbrev zaJ :=zK (vx (zo 1 zV (za (zc 0) zj)))
  (zK (vx (zo 2 z3 (za (zc 0) (za (zc 1) zj))))
  (zK (xD false 2 (xq (fLC (iOf (zh ixD (zc 0) (eC (.int 1)))) b1 xp (zo 2 xn (za (eC (.str "tie")) (za (zc 0) zj))))))
  (yr (zbA zcK (eC (.str "\n")) (za (zh yK (zh yK (xq (yi (za (zo 2 xn (za (eC (.str "web")) (za (xq (yi (za (zh ixD (zc 0) (eC (.int 0))) zj))) zj))) zj))) (zc 2)) (xq (yi (za (zo 2 xn (za (eC (.str "heap")) (za (zc 1) zj))) zj)))) zj)))))
def zdu:=fnD 3 zaJ
def zkN {m:Int} {a:z0}:[D.str (WH (Str.ofString "web") [m])]++(a.map λt=>D.str (WH (Str.ofString "tie") [t.1,t.2]))++[D.str (WH (Str.ofString "heap") h)]=(Zc m a h).map .str:=by
 unfold Zc
 rw[r9,n0,u0F]
 rfl
def zi1 (ok:xR m a):zV [zI m a]=some .non:=by
 have hw:wB (zI m a)=true:=(xy _).mpr ⟨_,_,rfl,ok⟩
 simp[zV,hw]
def zgG {h:zC}(A:xH m a h):z3 [zI m a,.tup (h.map .int)]=some .non:=by
 show(if (noS (.tup (h.map .int))&&decide (m<=1000)&&xE m (.tup (h.map .int)))=true then some D.non else none)=_
 rw[XU,Zy A.ok,vQ A.len A.nn A.sum]
 rfl
def zjP {h:zC}(A:xH m a h):zdu [zI m a,.tup (h.map .int)]=some (.str (zeS m a h)):=by
 have l:=A.few
 refine Yp (ρ:=[.v (zI m a),.v (.tup (h.map .int)),.no]) rfl ?_
 unfold zaJ
 refine zw (xo (d:=.non) (zi1 A.ok)) ?_
 refine zw (xo (d:=.non) (zgG A)) ?_
 refine zw (ρ':=[.v (zI m a),.v (.tup (h.map .int)),.v (.lst (a.map λt=>.str (WH (Str.ofString "tie") [t.1,t.2])))]) (wg (Yg ?_)) ?_
 .unfold fLC
  rw[VB (d:=.tup (a.map zd)) rfl rfl,j7,t7 (vc (by rw[u9];omega))]
  refine Xc zd _ a λt j=>⟨[some (zd t)],rfl,rfl,?_⟩
  exact zq (ds:=[.str (Str.ofString "tie"),zd t]) rfl (Z2 zmP (A.nT j) rfl)
 refine vJ (d:=.str (zeS m a h)) (yd ?_) rfl
 have k:zh yK (zh yK (xq (yi (za (zo 2 xn (za (eC (.str "web")) (za (xq (yi (za (zh ixD (zc 0) (eC (.int 0))) zj))) zj))) zj))) (zc 2)) (xq (yi (za (zo 2 xn (za (eC (.str "heap")) (za (zc 1) zj))) zj))) (visG [.v (zI m a),.v (.tup (h.map .int)),.v (.lst (a.map λt=>.str (WH (Str.ofString "tie") [t.1,t.2])))])=some (.lst ((Zc m a h).map .str)):=by
  have f:zo 2 xn (za (eC (.str "web")) (za (xq (yi (za (zh ixD (zc 0) (eC (.int 0))) zj))) zj)) (visG [.v (zI m a),.v (.tup (h.map .int)),.v (.lst (a.map λt=>.str (WH (Str.ofString "tie") [t.1,t.2])))])=some (.str (WH (Str.ofString "web") [m])):=by
   refine zq (ds:=[.str (Str.ofString "web"),.lst [.int m]]) rfl ?_
   exact Z2 zmB A.nW rfl
  have e:zo 2 xn (za (eC (.str "heap")) (za (zc 1) zj)) (visG [.v (zI m a),.v (.tup (h.map .int)),.v (.lst (a.map λt=>.str (WH (Str.ofString "tie") [t.1,t.2])))])=some (.str (WH (Str.ofString "heap") h)):=by
   refine zq (ds:=[.str (Str.ofString "heap"),.tup (h.map .int)]) rfl ?_
   exact Z2 zhM A.nH rfl
  generalize g:visG [.v (zI m a),.v (.tup (h.map .int)),.v (.lst (a.map λt=>.str (WH (Str.ofString "tie") [t.1,t.2])))]=E0 at f e
  have i:zc 2 E0=some (.lst (a.map λt=>.str (WH (Str.ofString "tie") [t.1,t.2]))):=by rw[<-g];rfl
  have c:xq (yi (za (zo 2 xn (za (eC (.str "web")) (za (xq (yi (za (zh ixD (zc 0) (eC (.int 0))) zj))) zj))) zj)) E0=some (.lst [.str (WH (Str.ofString "web") [m])]):=Yg (Z0 (zf f zJ) (by show 1<=1000;decide))
  have b:xq (yi (za (zo 2 xn (za (eC (.str "heap")) (za (zc 1) zj))) zj)) E0=some (.lst [.str (WH (Str.ofString "heap") h)]):=Yg (Z0 (zf e zJ) (by show 1<=1000;decide))
  refine zF (zF c i (ZS (by rw[u9];show 1+_<=1000;omega))) b ?_
  rw[ZS (by rw[j4,u9];show 1+_+1<=1000;omega),zkN]
 unfold zbA
 rw[zf k zJ]
 exact A.join
def zhF (T:Txt P w K mg base ad):zkU P w K mg base CX0 8 (ad.f 26) (ad.e 26) (Rw 26).ps (@spD ⟨K,ad.dk⟩ 2 zdu):=by
 letI:KK:=⟨K,ad.dk⟩
 have G_must_be_web:=wz T
 have G_must_be_heap:=x4 T
 have G_written:=zeL T
 refine zmt (N:=["web","heap","ties"]) (x0:="web") (pr:=["heap"]) (T.d 26).fn (sc 26) (by decide +kernel) (g:=zaJ) λd A outer s H E c=>?_
 unfold zaJ
 exact(zA (WB (zy G_must_be_web c rfl (T.d 8) (zb (edv 0) zg)))
  (zA (WB (zy G_must_be_heap c rfl (T.d 14) (zb (edv 0) (zb (edv 1) zg))))
  (zA (zc7 (m:=false) (i:=2) (zcJ (L:=["tie"]) (M:=["web","heap","ties"]) (sc 26).nd rfl (Or.inl rfl) rfl (Xj (by rfl) (by rfl) (by rfl) (by with_unfolding_all rfl) (by rfl) (by rfl) (by kernel_rfl) vE) (WZ (yh (edv 0) (zt zr) (λ_ _=>rfl))) gs1 rb1 (λ_ _ _ _=>(xF (i:=0) zrT rfl (Or.inl rfl) (.inr rfl))) (λ_ _ _ _=>(zy G_written c rfl (T.d 25) (zb (zQ zO) (zb (edv 0) zg))))))
  (zG (y8 (zc1 (zQ zO) (zb (Vz (Vz (YW (vl (zb (zy G_written c rfl (T.d 25) (zb (zQ zO) (zb (YW (vl (zb (yh (edv 0) (zt zr) (λ_ _=>rfl)) zg))) zg))) zg))) (edv 2)) (YW (vl (zb (zy G_written c rfl (T.d 25) (zb (zQ zO) (zb (edv 1) zg))) zg)))) zg) (λa b=>W2 u0n u1P u1Q zcP a b)))))))
abbrev wR :=zK (sIf (X8 (yn (tOf (x5 leD leD (eC (.int 1)) (eFn zkL (za (zc 0) zj)) (eC (.int 3))))) (yn (tOf (eFn zn3 (za (xq (fLC (iTx (zc 0)) b1 xp (zh zrs (zc 0) (eC (.str "0123456789"))))) zj))))) (yr (eC .non)) zD)
  (zK (sIf (YA (tOf (zh gtD (eFn zkL (za (zc 0) zj)) (eC (.int 1)))) (tOf (zh x9 (zh zqY (zc 0) (eC (.int 0))) (eC (.str "0"))))) (yr (eC .non)) zD)
  (yr (eFn zm9 (za (zc 0) zj))))
def wP:=fnD 1 wR
def vV (T:Txt P w K mg base ad):T.Pr 27 1 1 wP:=by
 letI:KK:=⟨K,ad.dk⟩
 refine Vo (N:=(Rw 27).N) (ps:=(Rw 27).ps) (T.d 27).fn (sc 27) (g:=wR) λd A outer s H E e=>?_
 unfold wR
 exact(zA (xM (zqh (zkY (wl (zjv zau zau xU xU (zt zr) (yM Xz zd8 rfl (T.z "len" (by decide)) Yo (zb (edv 0) zg)) (zt (xc (v:=.int 3) rfl T.g_MOST_FIGURES ⟨_,rfl⟩)) (λa b c=>zjD zau zau a b c))) (zdS (wl (wD (yM (zcr rfl) zgL rfl (T.z "all" (by decide)) zlH (zb (YW (zd3 (L:=["sign"]) (M:=["word"]) rfl (Xj (by rfl) (by rfl) (by rfl) (by with_unfolding_all rfl) (by rfl) (by rfl) (by kernel_rfl) vE) (zqq (edv 0)) gs1 rb1 (λ_ _ _ _=>(xF (i:=0) zrn rfl (Or.inl rfl) (.inr rfl))) (λ_ _ _ _=>(Y0 zgO zlZ (by with_unfolding_all rfl) (edv 0) (zQ zO))))) zg))))))) (zG (y8 (VT VP))) zY)
  (zA (xM (zqh (zlf (zS znd xU (z5 _) (yM Xz zd8 rfl (T.z "len" (by decide)) Yo (zb (edv 0) zg)) (zt zr)) (zhe (zS (yy e) zZ (z5 _) (zpt (edv 0) (zt zr) (λ_ _=>rfl)) (zQ zO))))) (zG (y8 (VT VP))) zY)
  (zG (y8 (vP zbq zk0 rfl (T.z "int" (by decide)) zdJ (zb (edv 0) zg))))))
abbrev V3 :=zK (sIf (yn (tOf (eUn (y0 .str) (zc 0)))) sNo zD)
  (zK (xD false 1 (xq (zmj zef (zc 0) (za (eC (.str " ")) zj))))
  (zK (xD false 2 (xq (fLC (iOf (eSl slD (zc 1) (xm (eC (.int 1))) wo)) b1 xp (zo 1 wP (za (zc 0) zj)))))
  (zK (xD false 3 (zog (ZW We) (za (zh ixD (zc 1) (eC (.int 0))) (za (zog (ZW zN) (za (zh ixD (zc 1) (eC (.int 0))) (za (eUn ZT (eC (.int 1))) zj))) zj))))
  (zK (sIf (X8 (tOf (zh inD (eC .non) (zc 2))) (tOf (zh neD (eFn Yz (za (zc 2) zj)) (zc 3)))) sNo zD)
  (yr (wW (za (zh ixD (zc 1) (eC (.int 0))) (za (zc 2) zj))))))))
def xv:=fnD 4 V3
def Wp (T:Txt P w K mg base ad):T.Pr 28 2 1 xv:=by
 letI:KK:=⟨K,ad.dk⟩
 have G_number_written:=vV T
 refine Vo (N:=(Rw 28).N) (ps:=(Rw 28).ps) (T.d 28).fn (sc 28) (g:=V3) λd A outer s H E c=>?_
 unfold V3
 exact(zA (xM (wl (wD (Yw .str rfl (T.z "isinstance" (by decide)) (edv 0) (vH (v:=.ty "str") rfl (T.z "str" (by decide)) Wx rfl)))) (zG vq) zY)
  (zA (wJ (m:=false) (i:=1) (sc 28).nd rfl (Or.inl rfl) (YW (zer (edv 0) (zb (zQ zO) zg) (λa b=>W2 u0n PySem.F.slot_str_split PySem.F.type_str_split zdO a b))))
  (zA (zc7 (m:=false) (i:=2) (zcJ (L:=["part"]) (M:=["row","words","numbers","wanted"]) (sc 28).nd rfl (Or.inl rfl) rfl (Xj (by rfl) (by rfl) (by rfl) (by with_unfolding_all rfl) (by rfl) (by rfl) (by kernel_rfl) vE) (WZ (YI (edv 1) (Ze (zt zr)) Vb)) gs1 rb1 (λ_ _ _ _=>(xF (i:=0) zp1 rfl (Or.inl rfl) (.inr rfl))) (λ_ _ _ _=>(zy G_number_written c rfl (T.d 27) (zb (edv 0) zg)))))
  (zA (wJ (m:=false) (i:=3) (sc 28).nd rfl (Or.inl rfl) (YO T.b_DEEDS (zb (yh (edv 1) (zt zr) (λ_ _=>rfl)) (zb (YO T.b_QUESTIONS (zb (yh (edv 1) (zt zr) (λ_ _=>rfl)) (zb (XC (zt zr)) zg)) (λa=>zat T.b_QUESTIONS rfl T.g_QUESTIONS a)) zg)) (λa=>zat T.b_DEEDS rfl T.g_DEEDS a)))
  (zA (xM (zqh (zkY (zS (zet c) zdF (by with_unfolding_all rfl) (VT VP) (edv 2)) (zdS (zS zbK WR (z5 _) (yM yH vX rfl (T.z "len" (by decide)) Yo (zb (edv 2) zg)) (edv 3))))) (zG vq) zY)
  (zG (y8 (w6 (zb (yh (edv 1) (zt zr) (λ_ _=>rfl)) (zb (edv 2) zg))))))))))
abbrev Wh :=w1 (xIf (yn (tOf (eUn (y0 .str) (zc 0)))) (Xu 9) xNo) (sIf (yn (tOf (eUn (y0 .str) (zc 0)))) sNo zD)
  (w1 xNo (xD false 1 (xq (zmj zef (zc 0) (za (eC (.str " ")) zj))))
  (w1 xNo (xD false 2 (xq (fLC (iOf (eSl slD (zc 1) (xm (eC (.int 1))) wo)) b1 xp (zo 1 wP (za (zc 0) zj)))))
  (w1 xNo (xD false 3 (zog (ZW We) (za (zh ixD (zc 1) (eC (.int 0))) (za (zog (ZW zN) (za (zh ixD (zc 1) (eC (.int 0))) (za (eUn ZT (eC (.int 1))) zj))) zj))))
  (xIf (X8 (tOf (zh inD (eC .non) (zc 2))) (tOf (zh neD (eFn Yz (za (zc 2) zj)) (zc 3)))) (Xu 9) xNo))))
def w4:=fnX 4 Wh
def ze8 (T:Txt P w K mg base ad):T.Px 28 2 1 w4:=by
 letI:KK:=⟨K,ad.dk⟩
 have G_number_written:=vV T
 refine vN (cl:=clT ad) (N:=(Rw 28).N) (ps:=(Rw 28).ps) (T.d 28).fn (sc 28) (gx:=Wh) λd A outer s H E c=>?_
 unfold Wh
 exact(yq (Yr (wl (wD (Yw .str rfl (T.z "isinstance" (by decide)) (edv 0) (vH (v:=.ty "str") rfl (T.z "str" (by decide)) Wx rfl)))) (yb (v9 (cl:=clT ad) (j:=9) ⟨T.g_NoRow,T.c_NoRow⟩ rfl)) yf) (SD.nox (xM (wl (wD (Yw .str rfl (T.z "isinstance" (by decide)) (edv 0) (vH (v:=.ty "str") rfl (T.z "str" (by decide)) Wx rfl)))) (zG vq) zY))
  (yq vu (SD.nox (wJ (m:=false) (i:=1) (sc 28).nd rfl (Or.inl rfl) (YW (zer (edv 0) (zb (zQ zO) zg) (λa b=>W2 u0n PySem.F.slot_str_split PySem.F.type_str_split zdO a b)))))
  (yq vu (SD.nox (zc7 (m:=false) (i:=2) (zcJ (L:=["part"]) (M:=["row","words","numbers","wanted"]) (sc 28).nd rfl (Or.inl rfl) rfl (Xj (by rfl) (by rfl) (by rfl) (by with_unfolding_all rfl) (by rfl) (by rfl) (by kernel_rfl) vE) (WZ (YI (edv 1) (Ze (zt zr)) Vb)) gs1 rb1 (λ_ _ _ _=>(xF (i:=0) zp1 rfl (Or.inl rfl) (.inr rfl))) (λ_ _ _ _=>(zy G_number_written c rfl (T.d 27) (zb (edv 0) zg))))))
  (yq vu (SD.nox (wJ (m:=false) (i:=3) (sc 28).nd rfl (Or.inl rfl) (YO T.b_DEEDS (zb (yh (edv 1) (zt zr) (λ_ _=>rfl)) (zb (YO T.b_QUESTIONS (zb (yh (edv 1) (zt zr) (λ_ _=>rfl)) (zb (XC (zt zr)) zg)) (λa=>zat T.b_QUESTIONS rfl T.g_QUESTIONS a)) zg)) (λa=>zat T.b_DEEDS rfl T.g_DEEDS a))))
  (xK (Yr (zqh (zkY (zS (zet c) zdF (by with_unfolding_all rfl) (VT VP) (edv 2)) (zdS (zS zbK WR (z5 _) (yM yH vX rfl (T.z "len" (by decide)) Yo (zb (edv 2) zg)) (edv 3))))) (yb (v9 (cl:=clT ad) (j:=9) ⟨T.g_NoRow,T.c_NoRow⟩ rfl)) yf))))))
abbrev zql :=yr (wW (za (zc 0) (za (zh zjW (wW (za (eC (.int 0)) zj)) (zh ixD (zc 0) (eC (.int 0)))) zj)))
def zej:=fnD 1 zql
def zh4 (T:Txt P w K mg base ad):T.Pr 29 1 1 zej:=by
 walk_at "q"
abbrev zlE :=zK (vx (zo 2 zp (za (zc 0) (za (zc 1) zj))))
  (zK (vx (zo 2 zp (za (zc 0) (za (zc 2) zj))))
  (yr (zo 2 Zu (za (zh ixD (zc 0) (eC (.int 0))) (za (zh yK (xq (fFn vD (za (zh ixD (zc 0) (eC (.int 1))) zj))) (xq (yi (za (wW (za (zc 1) (za (zc 2) zj))) zj)))) zj)))))
def zbX:=fnD 3 zlE
def zgZ (T:Txt P w K mg base ad):T.Pr 30 6 3 zbX:=by
 have:=z9 T
 have:=WA T
 walk_at "p"
abbrev WK :=w1 (xEx (wj 2 zE (za (zc 0) (za (zc 1) zj)))) (vx (zo 2 zp (za (zc 0) (za (zc 1) zj))))
  (w1 (xEx (wj 2 zE (za (zc 0) (za (zc 2) zj)))) (vx (zo 2 zp (za (zc 0) (za (zc 2) zj))))
  (xEx (wj 2 ZH (za (zh ixD (zc 0) (eC (.int 0))) (za (zh yK (xq (fFn vD (za (zh ixD (zc 0) (eC (.int 1))) zj))) (xq (yi (za (wW (za (zc 1) (za (zc 2) zj))) zj)))) zj)))))
def zar:=fnX 3 WK
def zkS (T:Txt P w K mg base ad):T.Px 30 6 3 zar:=by
 have:=z9 T
 have:=xA T
 have:=VG T
 walk_at "x"
abbrev zoV :=zK (vx (zo 2 zp (za (zc 0) (za (zc 1) zj))))
  (zK (vx (zo 2 zp (za (zc 0) (za (zc 2) zj))))
  (zK (xD false 3 (zo 2 zM (za (zc 1) (za (zc 2) zj))))
  (zK (sIf (tOf (zh zey (zc 3) (zh ixD (zc 0) (eC (.int 1))))) sNo zD)
  (yr (wW (za (zh ixD (zc 0) (eC (.int 0))) (za (eFn xI (za (xq (fLC (iOf (zh ixD (zc 0) (eC (.int 1)))) b1 (tOf (zh zoi (zc 0) (zc 4))) (zc 0))) zj)) zj)))))))
def ziv:=fnD 4 zoV
def zlb (T:Txt P w K mg base ad):T.Pr 31 5 3 ziv:=by
 have:=z9 T
 have:=xb T
 walk_at "p"
abbrev VF :=w1 (xEx (wj 2 zE (za (zc 0) (za (zc 1) zj)))) (vx (zo 2 zp (za (zc 0) (za (zc 1) zj))))
  (w1 (xEx (wj 2 zE (za (zc 0) (za (zc 2) zj)))) (vx (zo 2 zp (za (zc 0) (za (zc 2) zj))))
  (w1 xNo (xD false 3 (zo 2 zM (za (zc 1) (za (zc 2) zj))))
  (xIf (tOf (zh zey (zc 3) (zh ixD (zc 0) (eC (.int 1))))) (xRI (zjl 0 1) (za (eFn Yz (za (zh ixD (zc 0) (eC (.int 1))) zj)) zj)) xNo)))
def zdR:=fnX 4 VF
def zmD (T:Txt P w K mg base ad):T.Px 31 5 3 zdR:=by
 letI:KK:=⟨K,ad.dk⟩
 have G_must_be_place:=z9 T
 have X_must_be_place:=xA T
 have G_tie_between:=xb T
 refine vN (cl:=clT ad) (N:=(Rw 31).N) (ps:=(Rw 31).ps) (T.d 31).fn (sc 31) (gx:=VF) λa A outer s H E b=>?_
 (first | apply zkO | apply yb | apply xK) <;> walk_at "s"
 all_goals first | exact(vO (cl:=clT ad) ⟨T.g_NoWeb,T.ei_NoWeb,T.ea_NoWeb,vW T.na_NoWeb⟩ (Ym T) T.bi_NoWeb (Z5 (ziO ad) (show 0<16 by decide)) (b.mono (by decide)) rfl (zb (yM yH vX rfl (T.z "len" (by decide)) Yo (zb (yh (edv 0) (zt zr) (λ_ _=>rfl)) zg)) zg))
abbrev zpF :=zK (vx (zo 2 zp (za (zc 0) (za (zc 2) zj))))
  (zK (xD false 4 (zh yK (zh yK (eSl slD (zc 1) wo (xm (zc 2))) (wW (za (zh yK (zh ixD (zc 1) (zc 2)) (zc 3)) zj))) (eSl slD (zc 1) (xm (zh yK (zc 2) (eC (.int 1)))) wo)))
  (zK (sIf (yn (tOf (zo 2 yt (za (zc 0) (za (zc 4) zj))))) sNo zD)
  (yr (zc 4))))
def zh8:=fnD 5 zpF
def zk8 (T:Txt P w K mg base ad):T.Pr 32 5 4 zh8:=by
 have:=z9 T
 have:=wX T
 walk_at "p"
abbrev ziy :=w1 (xEx (wj 2 zE (za (zc 0) (za (zc 2) zj)))) (vx (zo 2 zp (za (zc 0) (za (zc 2) zj))))
  (w1 xNo (xD false 4 (zh yK (zh yK (eSl slD (zc 1) wo (xm (zc 2))) (wW (za (zh yK (zh ixD (zc 1) (zc 2)) (zc 3)) zj))) (eSl slD (zc 1) (xm (zh yK (zc 2) (eC (.int 1)))) wo)))
  (xIf (yn (tOf (zo 2 yt (za (zc 0) (za (zc 4) zj))))) (Xu 2) xNo))
def zeH:=fnX 5 ziy
def znK (T:Txt P w K mg base ad):T.Px 32 5 4 zeH:=by
 have G_must_be_place:=z9 T
 have X_must_be_place:=xA T
 have G_are_stones:=wX T
 walk_at "x"
 all_goals first | exact(v9 (cl:=clT ad) (j:=2) ⟨T.g_NoHeap,T.c_NoHeap⟩ rfl)
abbrev Vf :=zK (vx (zo 2 zp (za (zc 0) (za (zc 2) zj))))
  (zK (vx (zo 2 zp (za (zc 0) (za (zc 3) zj))))
  (yr (zh ixD (zo 3 V6 (za (zc 0) (za (zc 1) (za (xq (yi (za (wW (za (zc 2) (za (zc 3) zj))) zj))) zj)))) (eC (.int 0)))))
def vf:=fnD 4 Vf
def XB (T:Txt P w K mg base ad):T.Pr 33 9 4 vf:=by
 have:=z9 T
 have:=zf5 T
 walk_at "p"
abbrev wG :=w1 (xEx (wj 2 zE (za (zc 0) (za (zc 2) zj)))) (vx (zo 2 zp (za (zc 0) (za (zc 2) zj))))
  (w1 (xEx (wj 2 zE (za (zc 0) (za (zc 3) zj)))) (vx (zo 2 zp (za (zc 0) (za (zc 3) zj))))
  (xEx (wj 3 WV (za (zc 0) (za (zc 1) (za (xq (yi (za (wW (za (zc 2) (za (zc 3) zj))) zj))) zj))))))
def vp:=fnX 4 wG
def V7 (T:Txt P w K mg base ad):T.Px 33 9 4 vp:=by
 letI:KK:=⟨K,ad.dk⟩
 have G_must_be_place:=z9 T
 have X_must_be_place:=xA T
 have X_walked:=zeJ T
 refine vN (cl:=clT ad) (N:=(Rw 33).N) (ps:=(Rw 33).ps) (T.d 33).fn (sc 33) (gx:=wG) λb A outer s H E a=>?_
 unfold wG
 exact(yq (Wu (wL (X_must_be_place.mono (by decide)) yu a rfl (T.d 9).at_ (T.d 9).kp (T.d 9).bd (zb (edv 0) (zb (edv 2) zg)))) (SD.nox (WB (zy G_must_be_place a rfl (T.d 9) (zb (edv 0) (zb (edv 2) zg)))))
  (yq (Wu (wL (X_must_be_place.mono (by decide)) yu a rfl (T.d 9).at_ (T.d 9).kp (T.d 9).bd (zb (edv 0) (zb (edv 3) zg)))) (SD.nox (WB (zy G_must_be_place a rfl (T.d 9) (zb (edv 0) (zb (edv 3) zg)))))
  (yb (Xm (zrR (wL (X_walked.mono (by decide)) yu a rfl (T.d 20).at_ (T.d 20).kp (T.d 20).bd (zb (edv 0) (zb (edv 1) (zb (YW (vl (zb (w6 (zb (edv 2) (zb (edv 3) zg))) zg))) zg)))) (zt zr) (λ_ _=>rfl))))))
abbrev Vj :=zK (sIf (tOf (zh x9 (zc 2) (eC (.str "web")))) (yr (zo 1 zej (za (zo 2 Zu (za (zh ixD (zc 3) (eC (.int 0))) (za (xq (yi zj)) zj))) zj))) zD)
  (zK (sIf (tOf (zh x9 (zc 2) (eC (.str "tie")))) (yr (wW (za (zo 3 zbX (za (zc 0) (za (zh ixD (zc 3) (eC (.int 0))) (za (zh ixD (zc 3) (eC (.int 1))) zj)))) (za (zc 1) zj)))) zD)
  (zK (sIf (tOf (zh x9 (zc 2) (eC (.str "cut")))) (yr (wW (za (zo 3 ziv (za (zc 0) (za (zh ixD (zc 3) (eC (.int 0))) (za (zh ixD (zc 3) (eC (.int 1))) zj)))) (za (zc 1) zj)))) zD)
  (zK (sIf (tOf (zh x9 (zc 2) (eC (.str "put")))) (yr (wW (za (zc 0) (za (zo 4 zh8 (za (zc 0) (za (zc 1) (za (zh ixD (zc 3) (eC (.int 0))) (za (zh ixD (zc 3) (eC (.int 1))) zj))))) zj)))) zD)
  (zK (sIf (tOf (zh x9 (zc 2) (eC (.str "step")))) (yr (wW (za (zc 0) (za (zo 4 vf (za (zc 0) (za (zc 1) (za (zh ixD (zc 3) (eC (.int 0))) (za (zh ixD (zc 3) (eC (.int 1))) zj))))) zj)))) zD)
  (yr (zo 1 zej (za (zo 1 zbJ (za (wW (za (zc 2) (za (zh ixD (zc 3) (eC (.int 0))) zj))) zj)) zj)))))))
def vY:=fnD 4 Vj
def zkB (T:Txt P w K mg base ad):T.Pr 34 10 4 vY:=by
 have:=WA T
 have:=zeX T
 have:=zh4 T
 have:=zgZ T
 have:=zlb T
 have:=zk8 T
 have:=XB T
 walk_at "p"
abbrev xZ :=w1 (xIf (tOf (zh x9 (zc 2) (eC (.str "web")))) (xEx (wj 2 ZH (za (zh ixD (zc 3) (eC (.int 0))) (za (xq (yi zj)) zj)))) xNo) (sIf (tOf (zh x9 (zc 2) (eC (.str "web")))) (yr (zo 1 zej (za (zo 2 Zu (za (zh ixD (zc 3) (eC (.int 0))) (za (xq (yi zj)) zj))) zj))) zD)
  (w1 (xIf (tOf (zh x9 (zc 2) (eC (.str "tie")))) (xEx (wj 3 zar (za (zc 0) (za (zh ixD (zc 3) (eC (.int 0))) (za (zh ixD (zc 3) (eC (.int 1))) zj))))) xNo) (sIf (tOf (zh x9 (zc 2) (eC (.str "tie")))) (yr (wW (za (zo 3 zbX (za (zc 0) (za (zh ixD (zc 3) (eC (.int 0))) (za (zh ixD (zc 3) (eC (.int 1))) zj)))) (za (zc 1) zj)))) zD)
  (w1 (xIf (tOf (zh x9 (zc 2) (eC (.str "cut")))) (xEx (wj 3 zdR (za (zc 0) (za (zh ixD (zc 3) (eC (.int 0))) (za (zh ixD (zc 3) (eC (.int 1))) zj))))) xNo) (sIf (tOf (zh x9 (zc 2) (eC (.str "cut")))) (yr (wW (za (zo 3 ziv (za (zc 0) (za (zh ixD (zc 3) (eC (.int 0))) (za (zh ixD (zc 3) (eC (.int 1))) zj)))) (za (zc 1) zj)))) zD)
  (w1 (xIf (tOf (zh x9 (zc 2) (eC (.str "put")))) (xEx (zjI (zc 0) (wj 4 zeH (za (zc 0) (za (zc 1) (za (zh ixD (zc 3) (eC (.int 0))) (za (zh ixD (zc 3) (eC (.int 1))) zj))))))) xNo) (sIf (tOf (zh x9 (zc 2) (eC (.str "put")))) (yr (wW (za (zc 0) (za (zo 4 zh8 (za (zc 0) (za (zc 1) (za (zh ixD (zc 3) (eC (.int 0))) (za (zh ixD (zc 3) (eC (.int 1))) zj))))) zj)))) zD)
  (w1 (xIf (tOf (zh x9 (zc 2) (eC (.str "step")))) (xEx (zjI (zc 0) (wj 4 vp (za (zc 0) (za (zc 1) (za (zh ixD (zc 3) (eC (.int 0))) (za (zh ixD (zc 3) (eC (.int 1))) zj))))))) xNo) (sIf (tOf (zh x9 (zc 2) (eC (.str "step")))) (yr (wW (za (zc 0) (za (zo 4 vf (za (zc 0) (za (zc 1) (za (zh ixD (zc 3) (eC (.int 0))) (za (zh ixD (zc 3) (eC (.int 1))) zj))))) zj)))) zD)
  (xEx (wj 1 VM (za (wW (za (zc 2) (za (zh ixD (zc 3) (eC (.int 0))) zj))) zj)))))))
def vt:=fnX 4 xZ
def zhx (T:Txt P w K mg base ad):T.Px 34 10 4 vt:=by
 letI:KK:=⟨K,ad.dk⟩
 have G_web_of:=WA T
 have X_web_of:=VG T
 have X_web_for:=zc6 T
 have G_bare:=zh4 T
 have G_tied:=zgZ T
 have X_tied:=zkS T
 have G_cut:=zlb T
 have X_cut:=zmD T
 have G_put:=zk8 T
 have X_put:=znK T
 have G_step_done:=XB T
 have X_step_done:=V7 T
 refine vN (cl:=clT ad) (N:=(Rw 34).N) (ps:=(Rw 34).ps) (T.d 34).fn (sc 34) (gx:=xZ) λb A outer s H E a=>?_
 unfold xZ
 exact(yq (Yr (zS (yy a) zZ (z5 _) (edv 2) (zQ zO)) (yb (Xm (zeb (G_bare.mono (by decide)) a rfl (T.d 29).at_ (T.d 29).kp (T.d 29).bd (Zk (wL (X_web_of.mono (by decide)) yu a rfl (T.d 11).at_ (T.d 11).kp (T.d 11).bd (zb (yh (edv 3) (zt zr) (λ_ _=>rfl)) (zb (YW (vl zg)) zg))))))) yf) (SD.nox (xM (zS (yy a) zZ (z5 _) (edv 2) (zQ zO)) (zG (y8 (zy G_bare a rfl (T.d 29) (zb (zy G_web_of a rfl (T.d 11) (zb (yh (edv 3) (zt zr) (λ_ _=>rfl)) (zb (YW (vl zg)) zg))) zg)))) zY))
  (yq (Yr (zS (yy a) zZ (z5 _) (edv 2) (zQ zO)) (yb (Xm (zdH (Zk (wL (X_tied.mono (by decide)) yu a rfl (T.d 30).at_ (T.d 30).kp (T.d 30).bd (zb (edv 0) (zb (yh (edv 3) (zt zr) (λ_ _=>rfl)) (zb (yh (edv 3) (zt zr) (λ_ _=>rfl)) zg)))))))) yf) (SD.nox (xM (zS (yy a) zZ (z5 _) (edv 2) (zQ zO)) (zG (y8 (w6 (zb (zy G_tied a rfl (T.d 30) (zb (edv 0) (zb (yh (edv 3) (zt zr) (λ_ _=>rfl)) (zb (yh (edv 3) (zt zr) (λ_ _=>rfl)) zg)))) (zb (edv 1) zg))))) zY))
  (yq (Yr (zS (yy a) zZ (z5 _) (edv 2) (zQ zO)) (yb (Xm (zdH (Zk (wL (X_cut.mono (by decide)) yu a rfl (T.d 31).at_ (T.d 31).kp (T.d 31).bd (zb (edv 0) (zb (yh (edv 3) (zt zr) (λ_ _=>rfl)) (zb (yh (edv 3) (zt zr) (λ_ _=>rfl)) zg)))))))) yf) (SD.nox (xM (zS (yy a) zZ (z5 _) (edv 2) (zQ zO)) (zG (y8 (w6 (zb (zy G_cut a rfl (T.d 31) (zb (edv 0) (zb (yh (edv 3) (zt zr) (λ_ _=>rfl)) (zb (yh (edv 3) (zt zr) (λ_ _=>rfl)) zg)))) (zb (edv 1) zg))))) zY))
  (yq (Yr (zS (yy a) zZ (z5 _) (edv 2) (zQ zO)) (yb (Xm (zdH (zgB (edv 0) (Zk (wL (X_put.mono (by decide)) yu a rfl (T.d 32).at_ (T.d 32).kp (T.d 32).bd (zb (edv 0) (zb (edv 1) (zb (yh (edv 3) (zt zr) (λ_ _=>rfl)) (zb (yh (edv 3) (zt zr) (λ_ _=>rfl)) zg)))))))))) yf) (SD.nox (xM (zS (yy a) zZ (z5 _) (edv 2) (zQ zO)) (zG (y8 (w6 (zb (edv 0) (zb (zy G_put a rfl (T.d 32) (zb (edv 0) (zb (edv 1) (zb (yh (edv 3) (zt zr) (λ_ _=>rfl)) (zb (yh (edv 3) (zt zr) (λ_ _=>rfl)) zg))))) zg))))) zY))
  (yq (Yr (zS (yy a) zZ (z5 _) (edv 2) (zQ zO)) (yb (Xm (zdH (zgB (edv 0) (Zk (wL (X_step_done.mono (by decide)) yu a rfl (T.d 33).at_ (T.d 33).kp (T.d 33).bd (zb (edv 0) (zb (edv 1) (zb (yh (edv 3) (zt zr) (λ_ _=>rfl)) (zb (yh (edv 3) (zt zr) (λ_ _=>rfl)) zg)))))))))) yf) (SD.nox (xM (zS (yy a) zZ (z5 _) (edv 2) (zQ zO)) (zG (y8 (w6 (zb (edv 0) (zb (zy G_step_done a rfl (T.d 33) (zb (edv 0) (zb (edv 1) (zb (yh (edv 3) (zt zr) (λ_ _=>rfl)) (zb (yh (edv 3) (zt zr) (λ_ _=>rfl)) zg))))) zg))))) zY))
  (yb (Xm (zeb (G_bare.mono (by decide)) a rfl (T.d 29).at_ (T.d 29).kp (T.d 29).bd (Zk (wL (X_web_for.mono (by decide)) yu a rfl (T.d 24).at_ (T.d 24).kp (T.d 24).bd (zb (w6 (zb (edv 2) (zb (yh (edv 3) (zt zr) (λ_ _=>rfl)) zg))) zg)))))))))))
abbrev X1 :=yr (eIf (tOf (zh gtD (eFn Yz (za (zc 0) zj)) (eC (.int 0)))) (zbA zcK (eC (.str " ")) (za (zc 0) zj)) (eC (.str "none")))
def XT:=fnD 1 X1
def zcq (T:Txt P w K mg base ad):T.Pr 35 1 1 XT:=by
 letI:KK:=⟨K,ad.dk⟩
 refine Vo (N:=(Rw 35).N) (ps:=(Rw 35).ps) (T.d 35).fn (sc 35) (g:=X1) λc A outer s H E d=>?_
 unfold X1
 exact(zG (y8 (zps (zS znd xU (z5 _) (yM yH vX rfl (T.z "len" (by decide)) Yo (zb (edv 0) zg)) (zt zr)) (zc1 (zQ zO) (zb (edv 0) zg) (λa b=>W2 u0n u1P u1Q zcP a b)) (zQ zO))))
abbrev zd6 :=yr (zo 1 XT (za (xq (fLC (iOf (zc 0)) b1 xp (zh yK (zh yK (eFn zcM (za (zh ixD (zc 0) (eC (.int 0))) zj)) (zc 2)) (eFn zcM (za (zh ixD (zc 0) (eC (.int 1))) zj))))) zj))
def XX:=fnD 2 zd6
def zhz (T:Txt P w K mg base ad):T.Pr 36 2 2 XX:=by
 have:=zcq T
 walk_at "q"
abbrev v8 :=zK (sIf (tOf (zh x9 (zc 2) (eC (.str "heap")))) (yr (zo 1 XT (za (xq (fLC (iOf (zc 1)) b1 xp (eFn zcM (za (zc 0) zj)))) zj))) zD)
  (zK (sIf (tOf (zh x9 (zc 2) (eC (.str "ties")))) (yr (zo 2 XX (za (zh ixD (zc 0) (eC (.int 1))) (za (eC (.str "-")) zj)))) zD)
  (zK (sIf (tOf (zh x9 (zc 2) (eC (.str "steps")))) (yr (zo 2 XX (za (zo 2 vn (za (zc 0) (za (zc 1) zj))) (za (eC (.str ">")) zj)))) zD)
  (zK (sIf (tOf (zh x9 (zc 2) (eC (.str "far")))) sNo zD)
  (zK (sIf (tOf (zh x9 (zc 2) (eC (.str "most")))) sNo zD)
  (zK (sIf (tOf (zh x9 (zc 2) (eC (.str "reached")))) sNo zD)
  (zK (sIf (tOf (zh x9 (zc 2) (eC (.str "need")))) sNo zD)
  (yr (zmE 2 zdu (za (zc 0) (za (zc 1) zj)) "\n" " ; "))))))))
def wy:=fnD 4 v8
def zbW (T:Txt P w K mg base ad):T.Pr 37 9 4 wy:=by
 letI:KK:=⟨K,ad.dk⟩
 have G_steps_from:=V9 T
 have TK_shown:=zhF T
 have G_listed:=zcq T
 have G_paired:=zhz T
 refine Vo (N:=(Rw 37).N) (ps:=(Rw 37).ps) (T.d 37).fn (sc 37) (g:=v8) λc A outer s H E b=>?_
 unfold v8
 exact(zA (xM (zS (yy b) zZ (z5 _) (edv 2) (zQ zO)) (zG (y8 (zy G_listed b rfl (T.d 35) (zb (YW (zd3 (L:=["stones"]) (M:=["web","heap","word","numbers"]) rfl (Xj (by rfl) (by rfl) (by rfl) (by with_unfolding_all rfl) (by rfl) (by rfl) (by kernel_rfl) vE) (WZ (edv 1)) gs1 rb1 (λ_ _ _ _=>(xF (i:=0) zpy rfl (Or.inl rfl) (.inr rfl))) (λ_ _ _ _=>(vP Yq zdi rfl (T.z "str" (by decide)) Wx (zb (edv 0) zg))))) zg)))) zY)
  (zA (xM (zS (yy b) zZ (z5 _) (edv 2) (zQ zO)) (zG (y8 (zy G_paired b rfl (T.d 36) (zb (yh (edv 0) (zt zr) (λ_ _=>rfl)) (zb (zQ zO) zg))))) zY)
  (zA (xM (zS (yy b) zZ (z5 _) (edv 2) (zQ zO)) (zG (y8 (zy G_paired b rfl (T.d 36) (zb (zy G_steps_from b rfl (T.d 17) (zb (edv 0) (zb (edv 1) zg))) (zb (zQ zO) zg))))) zY)
  (zA (xM (zS (yy b) zZ (z5 _) (edv 2) (zQ zO)) wF zY)
  (zA (xM (zS (yy b) zZ (z5 _) (edv 2) (zQ zO)) wF zY)
  (zA (xM (zS (yy b) zZ (z5 _) (edv 2) (zQ zO)) wF zY)
  (zA (xM (zS (yy b) zZ (z5 _) (edv 2) (zQ zO)) wF zY)
  (zG (y8 (znj (TK_shown.mono (by decide)) b rfl (T.d 26).at_ (T.d 26).kp (T.d 26).bd (zb (edv 0) (zb (edv 1) zg)) (λa=>zmu (TK_shown.mono (by decide)) b rfl (T.d 26).at_ (T.d 26).kp (T.d 26).bd zaG a (by decide) (by decide))))))))))))
def ziY (T:Txt P w K mg base ad):xB P w K mg base CX0 1 ad.f_Desk___init__ ad.e_Desk___init__ ["self"] (@spI ⟨K,ad.dk⟩):=by
 letI:KK:=⟨K,ad.dk⟩
 exact zow T.mf_Desk___init__ XR T.dkc λa A outer s H E b=>zrW (w6 (zb (zt zr) (zb (w6 zg) zg))) (w6 (zb (zt zr) zg)) (vl zg) (pv 0) (pv 0) (pv 0) (λ_=>rfl) (λ_=>rfl) (λ_=>rfl)
def vR {g h:zz}(e:g ρ=.nx ρ'):zK g h ρ=h ρ':=by unfold zK;rw[e]
def vG {f:zU}{d:D}(h:f (visG ρ)=some d)(a:noL d=true):vEv true f ρ=some d:=by
 unfold vEv
 rw[t7 rfl,h,j7,t7 a]
def zmr {f:zU}{ρ:SE}{i:Nat}{d w:D}{a:zm}(c:f (visG ρ)=some d)(j:noL d=true)(e:ρ[i]?=some (.k w h ⟨z,a⟩))(b:a.length<1000)(g:ρ.set i (.k w h ⟨z,a++[d]⟩)=ρ':=by rfl):zgX i f ρ=.nx ρ':=by
 unfold zgX
 rw[vG c j,e]
 dsimp only
 rw[t7 (q0 (vT (i4 b))),g]
def zou {f:zU}{ρ:SE}{i:Nat}{d w:D}{p:Pst}(a:f (visG ρ)=some d)(c:noL d=true)(e:ρ[i]?=some (.k w h p))(b:ρ.set i (.k d h p)=ρ':=by rfl):sFW i f ρ=.nx ρ':=by
 unfold sFW
 rw[vG a c,e]
 exact u0x Ctl.nx b
def zoL {f:zU}{ρ:SE}{i:Nat}{d w:D}{p:Pst}(b:f (visG ρ)=some d)(g:noL d=true)(e:ρ[i]?=some (.k w h p))(c:ρ.set i (.k w d p)=a:=by rfl):sFH i f ρ=.nx a:=by
 unfold sFH
 rw[vG b g,e]
 exact u0x Ctl.nx c
def zed {i n:Nat}{R:KF}{f w d:D}{ds:zm}{g:yx}{ρ:SE}(e:ρ[i]?=some (.k w h ⟨z,c⟩))(m:g (visG ρ)=some ds)(p:zep ds=true)(l:ds.length+1=n)(o:R w h c ds=some (b,d,a))(k:ρ.set i (.k b d ⟨z,a⟩)=j:=by rfl):kDo i n R f g ρ=some (f,j):=by
 unfold kDo
 rw[e]
 dsimp only
 rw[m,j7,t7 ⟨p,l⟩,o,<- k]
 rfl
def zph {f:SE->Option (D × SE)}{d:D}(h:f ρ=some (d,a)):sKx f ρ=.nx a:=by unfold sKx;rw[h]
def xx {t:vr}{g h:zz}(e:t (visG ρ)=some false):sIf t g h ρ=h ρ:=by unfold sIf;rw[e]
def Ye {t:vr}{g:zz}(e:t (visG ρ)=some true):sIf t g h ρ=g ρ:=by unfold sIf;rw[e]
def ziu (d:noL a=true)(c:noL b=true):noL (.tup [a,b])=true:=by
 show(noL a&&(noL b&&true))=true
 rw[d,c]
 rfl
def xw:zz :=zK (zgX 0 (wW (za (eUn znD (zc 0)) (za (eUn znL (zc 0)) zj))))
  (zK (sFW 0 (zh ixD (zc 1) (eC (.int 0))))
  (sFH 0 (zh ixD (zc 1) (eC (.int 1)))))
def xt:KF:=λw h a b=>match b with
 | [.tup [w',h']]=>if noL w=true/\noL h=true/\noL w'=true/\noL h'=true/\a.length<1000 then some (w',h',a++[.tup [w,h]])else none
 | _=>none
def XQ:∀ z w h ps f a b c,xt w h ps f=some (a,b,c)->zm4 2 xw z w h ps f=some (a,b,⟨z,c⟩):=by
 intro z w h ps f a b c e
 unfold xt at e
 split at e
 .rename_i o p
  split at e <;> cases e
  rename_i g
  obtain⟨i,m,k,l,n⟩:=g
  have j:xw [.k w h ⟨z,ps⟩,.v (.tup [a,b])]=.nx [.k a b ⟨z,ps++[.tup [w,h]]⟩,.v (.tup [a,b])]:=by
   unfold xw
   rw[vR (zmr (ρ':=[.k w h ⟨z,ps++[.tup [w,h]]⟩,.v (.tup [a,b])]) (d:=.tup [w,h]) (YD (ds:=[w,h]) (zf (zaU (x:=.obj w h ps) rfl rfl) (zf (zaU (x:=.obj w h ps) rfl rfl) zJ)) (by show 2<=1000;decide)) (ziu i m) rfl n)]
   rw[vR (zou (ρ':=[.k a h ⟨z,ps++[.tup [w,h]]⟩,.v (.tup [a,b])]) (zF (x:=.tup [a,b]) (y:=.int 0) rfl rfl rfl) k rfl)]
   exact zoL (zF (x:=.tup [a,b]) (y:=.int 1) rfl rfl rfl) l rfl
  show(match xw [.k w h ⟨z,ps⟩,.v (.tup [a,b])] with
   | .nx ρ=>(match (ρ:SE)[0]? with
    | some (Sl.k a b p')=>some (a,b,p')
    | _=>none)
   | _=>none)=_
  rw[j]
  rfl
 .cases e
def YY (T:Txt P w K mg base ad):xB P w K mg base CX0 1 ad.f_Desk_go_on ad.e_Desk_go_on ["self","state"] (@spK ⟨K,ad.dk⟩ 2 xt .non):=by
 letI:KK:=⟨K,ad.dk⟩
 refine zq0 (zh0 (N:=["self","state"]) (ps:=["self","state"]) T.mf_Desk_go_on za1 (g:=xw) λc A outer s H E d=>?_) XQ
 unfold xw
 exact(zA (zm7 (i:=0) T.dkc (pv 0) (w6 (zb (zcs T.dkc (edv 0)) (zb (Wy T.dkc (edv 0)) zg))) (λa b=>W2 p8 u1j u1k Wf a b))
  (zA (zof (i:=0) T.dkc (pv 0) (yh (edv 1) (zt zr) (λ_ _=>rfl)))
  (zG (zpr (i:=0) T.dkc (pv 0) (yh (edv 1) (zt zr) (λ_ _=>rfl))))))
def yR:zz :=zK (sIf (tOf (zh x9 (eFn Yz (za (eUn zrD (zc 0)) zj)) (eC (.int 0)))) sNo zD)
  (zK (znU 0 1)
  (zK (sFW 0 (zh ixD (zc 1) (eC (.int 0))))
  (sFH 0 (zh ixD (zc 1) (eC (.int 1))))))
def yN:KF:=λ_ _ a b=>match b,a.getLast? with
 | [],some (.tup [w',h'])=>if noL w'=true/\noL h'=true then some (w',h',a.dropLast)else none
 | _,_=>none
def ZK:∀ z w h ps i a c g,yN w h ps i=some (a,c,g)->zm4 2 yR z w h ps i=some (a,c,⟨z,g⟩):=by
 intro z w h ps i a c g e
 unfold yN at e
 split at e
 .rename_i n m k
  split at e <;> cases e
  rename_i j
  obtain⟨f,rfl⟩:=u08.mp k
  have l:yR [.k w h ⟨z,f++[.tup [a,c]]⟩,.no]=.nx [.k a c ⟨z,f⟩,.v (.tup [a,c])]:=by
   unfold yR
   rw[vR (xx (h:=zD) (yS (b:=false) (zF (x:=.int ((f++[D.tup [a,c]]).length:Nat)) (y:=.int 0) (Xb (ds:=[.lst (f++[.tup [a,c]])]) (zf (zaU (x:=.obj w h (f++[.tup [a,c]])) rfl rfl) zJ) rfl) rfl ?_)))]
   .rw[vR (ρ':=[.k w h ⟨z,f⟩,.v (.tup [a,c])]) ?_]
    .rw[vR (zou (ρ':=[.k a h ⟨z,f⟩,.v (.tup [a,c])]) (zF (x:=.tup [a,c]) (y:=.int 0) rfl rfl rfl) j.1 rfl)]
     exact zoL (zF (x:=.tup [a,c]) (y:=.int 1) rfl rfl rfl) j.2 rfl
    .show(match (f++[D.tup [a,c]]).getLast? with
      | some d=>Ctl.nx (([.k w h ⟨z,(f++[D.tup [a,c]]).dropLast⟩,Sl.no]:SE).set 1 (.v d))
      | none=>.no)=_
     rw[u1Z,u0j]
     rfl
   .rw[yL,t8]
    rw[j4]
    show ¬ ((f.length+1:Nat):Int)=0
    omega
  show(match yR [.k w h ⟨z,f++[.tup [a,c]]⟩,.no] with
   | .nx ρ=>(match (ρ:SE)[0]? with
    | some (Sl.k a c p')=>some (a,c,p')
    | _=>none)
   | _=>none)=_
  rw[l,u0j]
  rfl
 .cases e
def XN (T:Txt P w K mg base ad):xB P w K mg base CX0 1 ad.f_Desk_go_back ad.e_Desk_go_back ["self"] (@spK ⟨K,ad.dk⟩ 1 yN .non):=by
 letI:KK:=⟨K,ad.dk⟩
 refine zq0 (zh0 (N:=["self","state"]) (ps:=["self"]) T.mf_Desk_go_back vd (g:=yR) λb A outer s H E c=>?_) ZK
 unfold yR
 exact(zA (xM (zS (yy c) zZ (z5 _) (yM yH vX rfl (T.z "len" (by decide)) Yo (zb (zhw T.dkc (edv 0)) zg)) (zt zr)) wF zY)
  (zA (zmI (i:=0) (j:=1) T.dkc vd.nd rfl (Or.inl rfl) (pv 0) rfl (λa=>zlw p8 PySem.F.slot_list_pop PySem.F.type_list_pop zgi a))
  (zA (zof (i:=0) T.dkc (pv 0) (yh (edv 1) (zt zr) (λ_ _=>rfl)))
  (zG (zpr (i:=0) T.dkc (pv 0) (yh (edv 1) (zt zr) (λ_ _=>rfl)))))))
abbrev YM :=zK (xD false 2 (zo 1 xv (za (zc 1) zj)))
  (zK (xD false 3 (zh ixD (zc 2) (eC (.int 0))))
  (zK (sIf (tOf (eUn (zbY zN) (zc 3))) (yr (zo 4 wy (za (eUn znD (zc 0)) (za (eUn znL (zc 0)) (za (zc 3) (za (zh ixD (zc 2) (eC (.int 1))) zj)))))) zD)
  sNo))
def yc:=fnD 4 YM
def W8 (T:Txt P w K mg base ad):xB P w K mg base CX0 11 ad.f_Desk_say ad.e_Desk_say ["self","row"] (@spD ⟨K,ad.dk⟩ 2 yc):=by
 letI:KK:=⟨K,ad.dk⟩
 have G_parsed:=Wp T
 have G_answer:=zbW T
 refine Vo (N:=["self","row","told","word"]) (ps:=["self","row"]) T.mf_Desk_say yI (g:=YM) λb A outer s H E a=>?_
 unfold YM
 exact(zA (wJ (m:=false) (i:=2) yI.nd rfl (Or.inl rfl) (zy G_parsed a rfl (T.d 28) (zb (edv 1) zg)))
  (zA (wJ (m:=false) (i:=3) yI.nd rfl (Or.inl rfl) (yh (edv 2) (zt zr) (λ_ _=>rfl)))
  (zA (xM (WW T.b_QUESTIONS rfl T.g_QUESTIONS (edv 3)) (zG (y8 (zy G_answer a rfl (T.d 37) (zb (zcs T.dkc (edv 0)) (zb (Wy T.dkc (edv 0)) (zb (edv 3) (zb (yh (edv 2) (zt zr) (λ_ _=>rfl)) zg))))))) zY)
  wF)))
abbrev vi :=xIf (tOf (zh x9 (eFn Yz (za (eUn zrD (zc 0)) zj)) (eC (.int 0)))) (Xu 9) xNo
def Yl:=fnX 2 vi
def XH (T:Txt P w K mg base ad):xB P w K mg base (Air P w) 1 ad.f_Desk_go_back ad.e_Desk_go_back ["self"] (@spX ⟨K,ad.dk⟩ (clT ad) 1 Yl):=by
 letI:KK:=⟨K,ad.dk⟩
 refine vN (cl:=clT ad) (N:=["self","state"]) (ps:=["self"]) T.mf_Desk_go_back vd (gx:=vi) λa A outer s H E b=>?_
 unfold vi
 exact(xK (Yr (zS (yy b) zZ (z5 _) (yM yH vX rfl (T.z "len" (by decide)) Yo (zb (zhw T.dkc (edv 0)) zg)) (zt zr)) (yb (v9 (cl:=clT ad) (j:=9) ⟨T.g_NoRow,T.c_NoRow⟩ rfl)) yf))
abbrev yY :=w1 (xEx (wj 1 w4 (za (zc 1) zj))) (xD false 2 (zo 1 xv (za (zc 1) zj)))
  (w1 xNo (xD false 3 (zh ixD (zc 2) (eC (.int 0))))
  (w1 xNo (sIf (tOf (eUn (zbY zN) (zc 3))) (yr (zo 4 wy (za (eUn znD (zc 0)) (za (eUn znL (zc 0)) (za (zc 3) (za (zh ixD (zc 2) (eC (.int 1))) zj)))))) zD)
  (xIf (tOf (zh x9 (zc 3) (eC (.str "back")))) (xEx (ziZ 1 Yl (zc 0) (λ_=>some []))) (xEx (zki (zc 0) (wj 4 vt (za (eUn znD (zc 0)) (za (eUn znL (zc 0)) (za (zc 3) (za (zh ixD (zc 2) (eC (.int 1))) zj))))))))))
def yl:=fnX 4 yY
def zbS (T:Txt P w K mg base ad):xB P w K mg base (Air P w) 11 ad.f_Desk_say ad.e_Desk_say ["self","row"] (@spX ⟨K,ad.dk⟩ (clT ad) 2 yl):=by
 letI:KK:=⟨K,ad.dk⟩
 have G_parsed:=Wp T
 have X_parsed:=ze8 T
 have X_after:=zhx T
 have G_answer:=zbW T
 have K_Desk_go_on:=YY T
 have X_Desk_go_back:=XH T
 refine vN (cl:=clT ad) (N:=["self","row","told","word"]) (ps:=["self","row"]) T.mf_Desk_say yI (gx:=yY) λb A outer s H E a=>?_
 unfold yY
 exact(yq (zlQ (i:=2) yI.nd rfl (Or.inl rfl) (wL (X_parsed.mono (by decide)) yu a rfl (T.d 28).at_ (T.d 28).kp (T.d 28).bd (zb (edv 1) zg))) (SD.nox (wJ (m:=false) (i:=2) yI.nd rfl (Or.inl rfl) (zy G_parsed a rfl (T.d 28) (zb (edv 1) zg))))
  (yq vu (SD.nox (wJ (m:=false) (i:=3) yI.nd rfl (Or.inl rfl) (yh (edv 2) (zt zr) (λ_ _=>rfl))))
  (yq vu (SD.nox (xM (WW T.b_QUESTIONS rfl T.g_QUESTIONS (edv 3)) (zG (y8 (zy G_answer a rfl (T.d 37) (zb (zcs T.dkc (edv 0)) (zb (Wy T.dkc (edv 0)) (zb (edv 3) (zb (yh (edv 2) (zt zr) (λ_ _=>rfl)) zg))))))) zY))
  (xK (Yr (zS (yy a) zZ (z5 _) (edv 3) (zQ zO)) (yb (Wu (zne T.dkc.cl T.mm_Desk_go_back (X_Desk_go_back.mono (by decide)) yu a T.mb_Desk_go_back (edv 0)))) (yb (Wu (zmc T.dkc.cl T.mm_Desk_go_on (K_Desk_go_on.mono (by decide)) a T.mb_Desk_go_on (edv 0) (Zk (wL (X_after.mono (by decide)) yu a rfl (T.d 34).at_ (T.d 34).kp (T.d 34).bd (zb (zcs T.dkc (edv 0)) (zb (Wy T.dkc (edv 0)) (zb (edv 3) (zb (yh (edv 2) (zt zr) (λ_ _=>rfl)) zg))))))))))))))
def ww:zz :=zK (xD false 2 (zo 1 xv (za (zc 1) zj)))
  (zK (xD false 3 (zh ixD (zc 2) (eC (.int 0))))
  (zK (sIf (tOf (eUn (zbY zN) (zc 3))) sNo zD)
  (zK (sIf (tOf (zh x9 (zc 3) (eC (.str "back")))) (sKx (kDo 0 1 yN .non (λ_=>some []))) (sKx (kDo 0 2 xt .non (za (zo 4 vY (za (eUn znD (zc 0)) (za (eUn znL (zc 0)) (za (zc 3) (za (zh ixD (zc 2) (eC (.int 1))) zj))))) zj))))
  zD)))
def z4:KF:=λw h a ds=>match ds with
 | [row]=>(match xv [row] with
  | some (.tup [.str x,.lst ns])=>if (xW zN x).isSome=true then none else if x="back" then yN w h a []else match vY [w,h,.str x,.lst ns] with
   | some s=>if noL s=true then xt w h a [s]else none
   | none=>none
  | _=>none)
 | _=>none
def Vw:∀ z w h ps f d g c,z4 w h ps f=some (d,g,c)->zm4 4 ww z w h ps f=some (d,g,⟨z,c⟩):=by
 intro z w h ps f d g c e
 unfold z4 at e
 split at e
 .rename_i a
  split at e
  .rename_i x ns m
   have k:ww [.k w h ⟨z,ps⟩,.v a,.no,.no]=.nx [.k d g ⟨z,c⟩,.v a,.v (.tup [.str x,.lst ns]),.v (.str x)]:=by
    unfold ww
    rw[vR (wg (σ':=[.k w h ⟨z,ps⟩,.v a,.v (.tup [.str x,.lst ns]),.no]) (zq (ds:=[a]) rfl m)),
     vR (wg (σ':=[.k w h ⟨z,ps⟩,.v a,.v (.tup [.str x,.lst ns]),.v (.str x)]) (zF (x:=.tup [.str x,.lst ns]) (y:=.int 0) rfl rfl rfl))]
    cases j:(xW zN x).isSome with
    | true=>rw[j,t7 rfl]at e;cases e
    | false =>
     rw[j,j6 u7]at e
     rw[vR (xx (h:=zD) (yS (b:=false) (zaU (x:=.str x) rfl (by show some (D.bl _)=_;rw[j]))))]
     by_cases i:x="back"
     .rw[t7 i]at e
      refine vR ((Ye (yS (b:=true) (zF (x:=.str x) (y:=.str "back") rfl rfl (by rw[yj,q0 i])))).trans (zph (zed rfl rfl rfl rfl e)))
     .rw[j6 i]at e
      split at e
      .rename_i s l
       split at e
       .rename_i n
        refine vR ((xx (yS (b:=false) (zF (x:=.str x) (y:=.str "back") rfl rfl (by rw[yj,t8 i])))).trans (zph (zed (ds:=[s]) rfl (zf (zq (ds:=[w,h,.str x,.lst ns]) rfl l) zJ) (by show(noL s&&true)=true;rw[n];rfl) rfl e)))
       .cases e
      .cases e
   show(match ww [.k w h ⟨z,ps⟩,.v a,.no,.no] with
    | .nx ρ=>(match (ρ:SE)[0]? with
     | some (Sl.k d g p')=>some (d,g,p')
     | _=>none)
    | _=>none)=_
   rw[k]
   rfl
  .cases e
 .cases e
def XD (T:Txt P w K mg base ad):xB P w K mg base CX0 11 ad.f_Desk_say ad.e_Desk_say ["self","row"] (@spK ⟨K,ad.dk⟩ 2 z4 (.str "ok")):=by
 letI:KK:=⟨K,ad.dk⟩
 have G_parsed:=Wp T
 have G_after:=zkB T
 have K_Desk_go_on:=YY T
 have K_Desk_go_back:=XN T
 refine zq0 (znJ (N:=["self","row","told","word"]) (ps:=["self","row"]) T.mf_Desk_say yI (g:=ww) λb A outer s H E a=>?_) Vw
 unfold ww
 exact(X0 (wJ (m:=false) (i:=2) yI.nd rfl (Or.inl rfl) (zy G_parsed a rfl (T.d 28) (zb (edv 1) zg)))
  (X0 (wJ (m:=false) (i:=3) yI.nd rfl (Or.inl rfl) (yh (edv 2) (zt zr) (λ_ _=>rfl)))
  (X0 (xM (WW T.b_QUESTIONS rfl T.g_QUESTIONS (edv 3)) wF zY)
  (X0 (xM (zS (yy a) zZ (z5 _) (edv 3) (zQ zO)) (zG (zpz (znu T.dkc.cl T.mm_Desk_go_back (K_Desk_go_back.mono (by decide)) a T.mb_Desk_go_back (pv 0)))) (zG (zpz (zfC T.dkc.cl T.mm_Desk_go_on (K_Desk_go_on.mono (by decide)) a T.mb_Desk_go_on (pv 0) (zb (zy G_after a rfl (T.d 34) (zb (zcs T.dkc (edv 0)) (zb (Wy T.dkc (edv 0)) (zb (edv 3) (zb (yh (edv 2) (zt zr) (λ_ _=>rfl)) zg))))) zg)))))
  zl9))))
section
variable {m:Int}{ts:z0}{h:Hl}{a b:Int}
def znm {t:vr}{g:xa}(e:t (visG ρ)=some false):xIf t g xNo ρ=none:=by
 unfold xIf
 rw[e]
 rfl
def zh2 {t:vr}{g h:xa}(e:t (visG ρ)=some true)(a:g ρ=some j):xIf t g h ρ=some j:=by
 unfold xIf
 rw[e]
 exact a
def zes {a b:xa}{g:zz}(e:a ρ=some j):w1 a g b ρ=some j:=by
 unfold w1
 rw[e]
def Yc {n:Nat}{r:ziQ}{a:yx}{ds:zm}(b:a ρ=some ds)(c:r ds=j)(d:ds.length=n:=by rfl):wj n r a ρ=j:=by
 unfold wj
 rw[b,j7,t7 d]
 exact c
def zgn {p:Int}(d:decide (0<=p/\p<m)=c):yC [.int m,.int p]=some (.bl c):=by
 show some (D.bl (inR m p))=_
 unfold inR
 rw[<-d]
 congr 2
 by_cases a:0<=p/\p<m
 .rw[q0 a]
  simp only[j0,j9]
  omega
 .rw[t8 a]
  by_cases b:0<=p
  .rw[q0 b,Bool.true_and]
   exact t8 (by omega)
  .rw[t8 b,u29]
def zdk {p:Int}(a:¬ (0<=p/\p<m)):zE [zI m ts,.int p]=some 3:=by
 show yk [.v (zI m ts),.v (.int p)]=_
 unfold yk
 exact zh2 (xT (b:=false) (yS (zq (ds:=[.int m,.int p]) rfl (zgn (t8 a))))) rfl
def zax {p:Int}(a:0<=p/\p<m):zE [zI m ts,.int p]=none:=by
 show yk [.v (zI m ts),.v (.int p)]=_
 unfold yk
 exact znm (xT (b:=true) (yS (zq (ds:=[.int m,.int p]) rfl (zgn (q0 a)))))
def xH.hp (A:xH m ts h):HpOk m h:=⟨A.len,A.nn,A.sum⟩
def zrN (ok:xR m ts):vA [zI m ts]=none:=by
 have e:v4 [zI m ts]=some (.bl true):=by
  show(if noS (zI m ts)=true then some (D.bl (wB (zI m ts)))else none)=_
  rw[t7 (ziJ m ts),(xy _).mpr ⟨_,_,rfl,ok⟩]
 show xL [.v (zI m ts)]=_
 unfold xL
 exact znm (xT (b:=true) (yS (zq (ds:=[zI m ts]) rfl e)))
def zaD (ok:xR m ts){g:Hl}(a:xE m (hD g)=c):yt [zI m ts,hD g]=some (.bl c):=by
 show(if (noS (.tup (g.map .int))&&decide (m<=1000))=true then some (D.bl (xE m (hD g)))else none)=_
 rw[XU,Zy ok,a]
 rfl
def zp0 (A:xH m ts h):vb [zI m ts,hD h]=none:=by
 show xj [.v (zI m ts),.v (hD h)]=_
 unfold xj
 exact znm (xT (b:=true) (yS (zq (ds:=[zI m ts,hD h]) rfl (zaD A.ok (vQ A.len A.nn A.sum)))))
def zmo {h:xa}(h0:zc 0 (visG ρ)=some (zI m ts))(e:zc i (visG ρ)=some (.int a))(g:zc j (visG ρ)=some (.int b))(k:¬ ((0<=a/\a<m)/\(0<=b/\b<m))) :
 w1 (xEx (wj 2 zE (za (zc 0) (za (zc i) zj)))) (vx (zo 2 zp (za (zc 0) (za (zc i) zj)))) (w1 (xEx (wj 2 zE (za (zc 0) (za (zc j) zj)))) (vx (zo 2 zp (za (zc 0) (za (zc j) zj)))) h) ρ=some 3:=by
 by_cases c:0<=a/\a<m
 .have f:¬ (0<=b/\b<m):=λf=>k ⟨c,f⟩
  refine yP (ρ':=ρ) (Yc (zf h0 (zf e zJ)) (zax c)) (xo (d:=.non) (zq (zf h0 (zf e zJ)) (yQ c))) ?_
  exact zes (Yc (zf h0 (zf g zJ)) (zdk f))
 .exact zes (Yc (zf h0 (zf e zJ)) (zdk c))
def zh5 {h:xa}{k:Nat}(h0:zc 0 (visG ρ)=some (zI m ts))(l:zc i (visG ρ)=some (.int a))(c:zc j (visG ρ)=some (.int b))(f:0<=a/\a<m)(g:0<=b/\b<m)(e:h ρ=some k) :
 w1 (xEx (wj 2 zE (za (zc 0) (za (zc i) zj)))) (vx (zo 2 zp (za (zc 0) (za (zc i) zj)))) (w1 (xEx (wj 2 zE (za (zc 0) (za (zc j) zj)))) (vx (zo 2 zp (za (zc 0) (za (zc j) zj)))) h) ρ=some k :=
 yP (ρ':=ρ) (Yc (zf h0 (zf l zJ)) (zax f)) (xo (d:=.non) (zq (zf h0 (zf l zJ)) (yQ f)))
  (yP (ρ':=ρ) (Yc (zf h0 (zf c zJ)) (zax g)) (xo (d:=.non) (zq (zf h0 (zf c zJ)) (yQ g))) e)
def zbM (e:ts.length<=28)(h0:zc 0 ρ=some (zI m ts))(d:zc 1 ρ=some (.int a))(c:zc 2 ρ=some (.int b)):za (zh ixD (zc 0) (eC (.int 0))) (za (zh yK (xq (fFn vD (za (zh ixD (zc 0) (eC (.int 1))) zj))) (xq (yi (za (wW (za (zc 1) (za (zc 2) zj))) zj)))) zj) ρ=some [.int m,.lst ((ts++[(a,b)]).map zd)]:=by
 refine zf (zF (x:=zI m ts) (y:=.int 0) h0 rfl rfl) (zf (zF (x:=.lst (ts.map zd)) (y:=.lst [zd (a,b)]) (Yg (zk2 (ds:=[.tup (ts.map zd)]) (zf (zF (x:=zI m ts) (y:=.int 1) h0 rfl rfl) zJ) rfl)) (Yg (Z0 (zf (YD (zf d (zf c zJ)) (by show 2<=1000;decide)) zJ) (by show 1<=1000;decide))) ?_) zJ)
 rw[ZS (by rw[u9];show ts.length+1<=1000;omega),r9]
 rfl
def zqx (ok:xR m ts):∀ s∈ts,zn6 m s:=λs a=>by
 have:=ok.rng s a
 exact⟨⟨this.1,by omega⟩,⟨by omega,this.2.2⟩,by omega⟩
def zng (h:s.1<s.2):ym s.1 s.2=s:=by
 unfold ym
 rw[j6 (by omega),t7 (by omega)]
def zaW (ok:xR m ts):ts.map (λs=>ym s.1 s.2)=ts:=(u2c λs a=>zng (ok.rng s a).2.1).trans (List.map_id ts)
def zeu (ok:xR m ts):ts.Nodup:=ok.srt.imp λ{a b} h e=>by
 subst e
 unfold ltP at h
 omega
def zos (ok:xR m ts)(f:ts.length<=28)(d:0<=a/\a<m)(c:0<=b/\b<m)(g:a=b\/ym a b∈ts):zar [zI m ts,.int a,.int b]=some (16+64*(ts.length+1)):=by
 show WK [.v (zI m ts),.v (.int a),.v (.int b)]=_
 unfold WK
 refine zh5 rfl rfl rfl d c (Yc (zbM f rfl rfl rfl) ?_)
 rw[r9]
 refine zhW ⟨ok.lo,ok.hi⟩ (zqx ok) (by rw[zaW ok];exact zeu ok) (by omega) ?_
 by_cases e:a=b
 .refine .inl ?_
  show some (D.bl (inR m a&&inR m b&&!decide (a=b)))=_
  rw[q0 e]
  simp
 .refine .inr ⟨(a,b),rfl,⟨d,c,e⟩,?_⟩
  rw[zaW ok]
  exact g.resolve_left e
def zqR (ts:z0)(t:Tie):z0:=zhZ (ts++[t])
def zhd (ok:xR m ts)(k:0<=a/\a<m)(l:0<=b/\b<m)(j:a≠b)(i:ym a b∉ts):xR m (zqR ts (ym a b)):=by
 have g:=Z6 (ts++[ym a b])
 refine⟨ok.lo,ok.hi,λt c=>?_,zce ?_⟩
 .rcases u0t.mp (g.mem_iff.mp c)with h | h
  .exact ok.rng t h
  .rw[j5.mp h]
   unfold ym
   dsimp only
   split <;> split <;> omega
 .rw[u2I]
  exact⟨zeu ok,u1s _ _,λx f y d e=>i (by rw[<-j5.mp d,<- e];exact f)⟩
def za0 (ok:xR m ts):(ts.map pl).Pairwise λa b=>HT.lexLt b a=false:=by
 rw[List.pairwise_map]
 refine ok.srt.imp λ{a b} h=>?_
 unfold ltP at h
 show HT.lexLt [b.1,b.2] [a.1,a.2]=false
 unfold HT.lexLt HT.lexLt HT.lexLt
 split
 .split
  .rfl
  .exact t8 (by omega)
 .exact t8 (by omega)
def znl (ok:xR m ts)(o:ts.length<=28)(c:0<=a/\a<m)(f:0<=b/\b<m)(g:a≠b)(j:ym a b∉ts):zbX [zI m ts,.int a,.int b]=some (zI m (zqR ts (ym a b))):=by
 refine Yp (ρ:=[.v (zI m ts),.v (.int a),.v (.int b)]) rfl ?_
 unfold zlE
 refine zw (xo (d:=.non) (zq (ds:=[zI m ts,.int a]) rfl (yQ c))) ?_
 refine zw (xo (d:=.non) (zq (ds:=[zI m ts,.int b]) rfl (yQ f))) ?_
 have i:(ts++[(a,b)]).map (λs=>ym s.1 s.2)=ts++[ym a b]:=by
  rw[r9,zaW ok]
  rfl
 refine vJ (d:=zI m (zqR ts (ym a b))) (yd (zq (zbM o rfl rfl rfl) (zfK ⟨ok.lo,ok.hi⟩ (λs k=>?_) ?_ ?_ ?_ (za0 (zhd ok c f g j))))) rfl
 .rcases u0t.mp k with h | h
  .exact zqx ok s h
  .rw[j5.mp h]
   exact⟨c,f,g⟩
 .rw[i,u2I]
  exact⟨zeu ok,u1s _ _,λx n y l e=>j (by rw[<-j5.mp l,<- e];exact n)⟩
 .rw[j4]
  show ts.length+1<64
  omega
 .rw[i]
  exact(Z6 _).symm
def W3 (t:Tie)(ts:z0):zey (zd t) (.tup (ts.map zd))=some (.bl (!decide (t∈ts))):=by
 have e:=zaw t ts
 show(zkR (zd t) (ts.map zd)).map (λb=>D.bl (!b))=_
 have d:(zkR (zd t) (ts.map zd)).map D.bl=some (.bl (decide (t∈ts))):=e
 obtain⟨b,c,a⟩:=t4.mp d
 injection a with a
 rw[c,<- a]
 rfl
def zq7 (d:0<=a/\a<m)(c:0<=b/\b<m)(e:ym a b∉ts):zdR [zI m ts,.int a,.int b]=some (16+64*(ts.length+1)):=by
 show VF [.v (zI m ts),.v (.int a),.v (.int b),.no]=_
 unfold VF
 refine zh5 rfl rfl rfl d c ?_
 refine yP (ρ':=[.v (zI m ts),.v (.int a),.v (.int b),.v (zd (ym a b))]) rfl (wg (zq (ds:=[.int a,.int b]) rfl rfl)) ?_
 refine zh2 (yS (b:=true) (zF (x:=zd (ym a b)) (y:=.tup (ts.map zd)) rfl rfl (by rw[W3,t8 e];rfl))) ?_
 unfold xRI
 rw[show za (eFn Yz (za (zh ixD (zc 0) (eC (.int 1))) zj)) zj (visG [.v (zI m ts),.v (.int a),.v (.int b),.v (zd (ym a b))])=some [.int ((ts.map zd).length:Nat)]from rfl,j7,u9]
 show(if -1<=((ts.length:Nat):Int)then some (0+16*1+64*(((ts.length:Nat):Int)+1).toNat)else none)=_
 rw[t7 (by omega),show(((ts.length:Nat):Int)+1).toNat=ts.length+1 by omega]
def zmN (s t:Tie):zoi (zd s) (zd t)=some (.bl (!decide (s=t))):=by
 show(if (okE 20 (zd s)&&okE 20 (zd t))=true then some (D.bl (!eqN 20 (zd s) (zd t)))else none)=_
 rw[zaO]
 rfl
def zoW (t:Tie){a:Nat}(h0:zc a ρ=some (zI m ts))(b:zc i3 ρ=some (zd t))(e:ts.length<=28):fLC (iOf (zh ixD (zc a) (eC (.int 1)))) b1 (tOf (zh zoi (zc 0) (zc (i3+1)))) (zc 0) ρ=some ((ts.filter λs=>!decide (s=t)).map zd):=by
 unfold fLC
 rw[VB (ds:=ts.map zd) (d:=.tup (ts.map zd)) (zF (x:=zI m ts) (y:=.int 1) h0 rfl rfl) rfl,j7,t7 (vc (by rw[u9];omega))]
 refine YQ zd (λs=>!decide (s=t)) zd ts λs _=>⟨[some (zd s)],rfl,?_,λ_=>rfl⟩
 have c:zc (i3+1) ([some (zd s)]++ρ)=some (zd t):=b
 exact yS (zF (x:=zd s) (y:=zd t) rfl c (zmN s t))
def zmd (ok:xR m ts)(t:Tie):xR m (ts.filter λs=>!decide (s=t)):=⟨ok.lo,ok.hi,λs a=>ok.rng s (u01.mp a).1,ok.srt.filter _⟩
def zqC (f:ts.length<=28)(c:0<=a/\a<m)(e:0<=b/\b<m)(g:ym a b∈ts):ziv [zI m ts,.int a,.int b]=some (zI m (ts.filter λs=>!decide (s=ym a b))):=by
 refine Yp (ρ:=[.v (zI m ts),.v (.int a),.v (.int b),.no]) rfl ?_
 unfold zoV
 refine zw (xo (d:=.non) (zq (ds:=[zI m ts,.int a]) rfl (yQ c))) ?_
 refine zw (xo (d:=.non) (zq (ds:=[zI m ts,.int b]) rfl (yQ e))) ?_
 refine zw (wg (σ':=[.v (zI m ts),.v (.int a),.v (.int b),.v (zd (ym a b))]) (zq (ds:=[.int a,.int b]) rfl rfl)) ?_
 refine zw ((xx (yS (b:=false) (zF (x:=zd (ym a b)) (y:=.tup (ts.map zd)) rfl rfl (by rw[W3,q0 g];rfl)))).trans rfl) ?_
 exact vJ (d:=zI m (ts.filter λs=>!decide (s=ym a b))) (yd (YD (zf rfl (zf (Xb (ds:=[.lst ((ts.filter λs=>!decide (s=ym a b)).map zd)]) (zf (Yg (zoW (i3:=3) (ym a b) rfl rfl f)) zJ) rfl) zJ)) (by show 2<=1000;decide))) rfl
def WC (ok:xR m ts):Vl ts (zd (a,b))=if decide (ym a b∈ts)=true then some (a,b)else none:=WI ts a b
def zlq:∀ e∈[zd (a,b)],zff e:=λe c=>by
 rw[j5.mp c]
 exact .pair a b
def zhK (A:xH m ts h)(g:ym a b∈ts)(i:2<=vAt h a):V6 [zI m ts,hD h,.lst [zd (a,b)]]=some (.lst [hD (ws h (a,b))]):=by
 have f:Vl ts (zd (a,b))=some (a,b):=by rw[WC A.ok,t7 (q0 g)]
 have e:=zhv A.ok A.len (zlq (a:=a) (b:=b)) (by show 1<=900;decide)
 have c:¬ vAt h (a,b).1<2:=by show ¬ vAt h a<2;omega
 rw[zca f c,Ws f c]at e
 refine Yp (ρ:=[.v (zI m ts),.v (hD h),.v (.lst [zd (a,b)]),.no,.no]) rfl ?_
 unfold zeC
 refine zw (xo (d:=.non) (zq (ds:=[zI m ts]) rfl (zk4 A.ok))) (zw (xo (d:=.non) (zq (ds:=[zI m ts,hD h]) rfl (zhA A.ok A.hp))) ?_)
 refine zw (wg (σ':=[.v (zI m ts),.v (hD h),.v (.lst [zd (a,b)]),.v (.tup [.lst [hD (ws h (a,b))],.non]),.no]) (zq (ds:=[_,_,_]) rfl e)) ?_
 refine zw (wg (σ':=[.v (zI m ts),.v (hD h),.v (.lst [zd (a,b)]),.v (.tup [.lst [hD (ws h (a,b))],.non]),.v .non]) rfl) ?_
 refine zw ((xx (yS (b:=false) rfl)).trans rfl) ?_
 exact vJ (yd rfl) rfl
def zj8 (A:xH m ts h)(l:ym a b∉ts\/vAt h a<2):WV [zI m ts,hD h,.lst [zd (a,b)]]=some 90:=by
 have e:=zhv A.ok A.len (zlq (a:=a) (b:=b)) (by show 1<=900;decide)
 obtain⟨s,i,e⟩:∃ s:Str,s≠"list"/\VA [zI m ts,hD h,.lst [zd (a,b)]]=some (.tup [.lst [],.tup [.str s,.int ((0:Nat):Int)]]):=by
  by_cases g:ym a b∈ts
  .have f:Vl ts (zd (a,b))=some (a,b):=by rw[WC A.ok,t7 (q0 g)]
   have c:vAt h (a,b).1<2:=l.resolve_left λz=>z g
   rw[W0 f c,Za f c]at e
   exact⟨"bare",by decide,e⟩
  .have f:Vl ts (zd (a,b))=none:=by rw[WC A.ok,j6 (by rw[t8 g];exact u7)]
   rw[WX f,Zg f]at e
   exact⟨"form",by decide,e⟩
 show ZQ [.v (zI m ts),.v (hD h),.v (.lst [zd (a,b)]),.no,.no]=_
 unfold ZQ
 refine yP (ρ':=[.v (zI m ts),.v (hD h),.v (.lst [zd (a,b)]),.no,.no]) (Yc (ds:=[zI m ts]) rfl (zrN A.ok)) (xo (d:=.non) (zq (ds:=[zI m ts]) rfl (zk4 A.ok))) (yP (ρ':=[.v (zI m ts),.v (hD h),.v (.lst [zd (a,b)]),.no,.no]) (Yc (ds:=[zI m ts,hD h]) rfl (zp0 A)) (xo (d:=.non) (zq (ds:=[zI m ts,hD h]) rfl (zhA A.ok A.hp))) ?_)
 refine yP (ρ':=[.v (zI m ts),.v (hD h),.v (.lst [zd (a,b)]),.v (.tup [.lst [],.tup [.str s,.int ((0:Nat):Int)]]),.no]) rfl (wg (zq (ds:=[_,_,_]) rfl e)) ?_
 refine yP (ρ':=[.v (zI m ts),.v (hD h),.v (.lst [zd (a,b)]),.v (.tup [.lst [],.tup [.str s,.int ((0:Nat):Int)]]),.v (.tup [.str s,.int ((0:Nat):Int)])]) rfl (wg (zF (x:=.tup [.lst [],.tup [.str s,.int ((0:Nat):Int)]]) (y:=.int 1) rfl rfl rfl)) ?_
 refine zh2 (yS (zF (x:=.tup [.str s,.int ((0:Nat):Int)]) (y:=.non) rfl rfl rfl)) ?_
 have j:tOf (zh x9 (zh ixD (zc 4) (eC (.int 0))) (eC (.str "list"))) (visG [.v (zI m ts),.v (hD h),.v (.lst [zd (a,b)]),.v (.tup [.lst [],.tup [.str s,.int ((0:Nat):Int)]]),.v (.tup [.str s,.int ((0:Nat):Int)])])=some false :=
  yS (zF (x:=.str s) (y:=.str "list") (zF (x:=.tup [.str s,.int ((0:Nat):Int)]) (y:=.int 0) rfl rfl rfl) rfl (by rw[yj,t8 i]))
 have k:za (eIf (tOf (zh x9 (zh ixD (zc 4) (eC (.int 0))) (eC (.str "list")))) (eUn ZT (eC (.int 1))) (zh ixD (zc 4) (eC (.int 1)))) zj (visG [.v (zI m ts),.v (hD h),.v (.lst [zd (a,b)]),.v (.tup [.lst [],.tup [.str s,.int ((0:Nat):Int)]]),.v (.tup [.str s,.int ((0:Nat):Int)])])=some [.int 0]:=by
  refine zf ?_ zJ
  unfold eIf
  rw[j]
  rfl
 unfold xRI
 rw[k]
 rfl
def zcw (h:Hl)(a b:Int):Hl:=zaF h a (vAt h a+b)
def zec {g:D->yG->yG->Option D}{f:zU}{l h:Ev->Option yG}{a b:yG}(c:f ρ=some x)(e:l ρ=some a)(i:h ρ=some b)(d:g x a b=some z):eSl g f l h ρ=some z:=by
 unfold eSl
 rw[c,e,i]
 exact d
def zlh {f:zU}(h:f ρ=some (.int i)):xm f ρ=some (some i):=by
 unfold xm
 rw[h]
 rfl
def zk9 (A:xH m ts h)(g:0<=a/\a<m){d:Nat}(e:zc d ρ=some (hD h))(f:zc c ρ=some (.int a))(l:zc j ρ=some (.int b)) :
 zh yK (zh yK (eSl slD (zc d) wo (xm (zc c))) (wW (za (zh yK (zh ixD (zc d) (zc c)) (zc j)) zj))) (eSl slD (zc d) (xm (zh yK (zc c) (eC (.int 1)))) wo) ρ=some (hD (zcw h a b)):=by
 have p:=A.len
 have q:=A.ok.hi
 obtain⟨k,rfl⟩:=Int.eq_ofNat_of_zero_le g.1
 have n:k<h.length:=by omega
 have o:=ZB (ns:=h) (i:=(k:Int)) g.1 (by omega)
 refine zF (x:=.tup ((h.map .int).take k++[.int (vAt h k+b)])) (y:=.tup ((h.map .int).drop (k+1))) (zF (x:=.tup ((h.map .int).take k)) (y:=.tup [.int (vAt h k+b)]) (zec e rfl (zlh f) ?_) (YD (zf (zF (x:=.int (vAt h k)) (y:=.int b) (zF (x:=hD h) (y:=.int (k:Int)) e f o) l rfl) zJ) (by show 1<=1000;decide)) (zeo ?_)) (zec e (zlh (i:=((k+1:Nat):Int)) (zF f rfl rfl)) rfl ?_) ?_
 .show some (D.tup (Y1 (h.map .int) none (some (k:Int))))=_
  rw[zbl]
 .rw[u0v,u9]
  show min k h.length+1<=1000
  omega
 .show some (D.tup (Y1 (h.map .int) (some ((k+1:Nat):Int)) none))=_
  rw[ziw]
 .rw[zeo (by rw[j4,u0v,u1b,u9];show min k h.length+1+(h.length-(k+1))<=1000;omega)]
  unfold hD zcw zaF
  rw[List.set_eq_take_append_cons_drop,t7 (by show k<h.length;exact n),r9,n0,List.map_take,List.map_drop,u04]
  rfl
def zmK (h:Hl)(a b:Int):(zcw h a b).length=h.length:=Zq h a _
def zhQ (d:(h.length:Int)=m)(c:0<=a/\a<m):(zcw h a b).sum=h.sum+b:=by
 unfold zcw
 rw[zaK c.1 (by omega)]
 omega
def zpj (A:xH m ts h)(d:0<=a/\a<m)(e:0<=b):∀ v∈zcw h a b,0<=v:=λv c=>by
 have:=A.nn _ (zil d.1 (show a<(h.length:Int) by rw[A.len];exact d.2))
 rcases zba c with rfl | c
 .omega
 .exact A.nn v c
def zgU (A:xH m ts h)(c:0<=a/\a<m)(d:0<=b)(e:h.sum+b<=300):xH m ts (zcw h a b):=⟨A.ok,A.few,by rw[zmK];exact A.len,zpj A c d,by rw[zhQ A.len c];exact e⟩
def zkh (A:xH m ts h)(c:0<=a/\a<m)(e:0<=b)(d:¬ h.sum+b<=300):xE m (hD (zcw h a b))=false:=by
 show(xl m (.tup ((zcw h a b).map .int))&&decide ((((zcw h a b).map D.int).map zkn).sum<=300))=false
 rw[xQ,zhQ A.len c,t8 d,u0U]
def zlW (A:xH m ts h)(c:0<=a/\a<m)(e:0<=b)(f:h.sum+b<=300):zh8 [zI m ts,hD h,.int a,.int b]=some (hD (zcw h a b)):=by
 refine Yp (ρ:=[.v (zI m ts),.v (hD h),.v (.int a),.v (.int b),.no]) rfl ?_
 unfold zpF
 refine zw (xo (d:=.non) (zq (ds:=[zI m ts,.int a]) rfl (yQ c))) ?_
 refine zw (wg (σ':=[.v (zI m ts),.v (hD h),.v (.int a),.v (.int b),.v (hD (zcw h a b))]) (zk9 A c rfl rfl rfl)) ?_
 have B:=zgU A c e f
 refine zw ((xx (xT (b:=true) (yS (zq (ds:=[zI m ts,hD (zcw h a b)]) rfl (zaD B.ok (vQ B.len B.nn B.sum)))))).trans rfl) ?_
 exact vJ (yd rfl) rfl
def zrg (A:xH m ts h)(e:0<=b)(f:¬ ((0<=a/\a<m)/\h.sum+b<=300)):∃ j,zeH [zI m ts,hD h,.int a,.int b]=some j/\(j=2\/j=3):=by
 show ∃ j,ziy [.v (zI m ts),.v (hD h),.v (.int a),.v (.int b),.no]=some j/\(j=2\/j=3)
 unfold ziy
 by_cases c:0<=a/\a<m
 .refine⟨2,?_,.inl rfl⟩
  refine yP (ρ':=[.v (zI m ts),.v (hD h),.v (.int a),.v (.int b),.no]) (Yc (ds:=[zI m ts,.int a]) rfl (zax c)) (xo (d:=.non) (zq (ds:=[zI m ts,.int a]) rfl (yQ c))) ?_
  refine yP (ρ':=[.v (zI m ts),.v (hD h),.v (.int a),.v (.int b),.v (hD (zcw h a b))]) rfl (wg (zk9 A c rfl rfl rfl)) ?_
  exact zh2 (xT (b:=false) (yS (zq (ds:=[zI m ts,hD (zcw h a b)]) rfl (zaD A.ok (zkh A c e λz=>f ⟨c,z⟩))))) rfl
 .exact⟨3,zes (Yc (ds:=[zI m ts,.int a]) rfl (zdk c)),.inr rfl⟩
def zfJ (A:xH m ts h)(e:ym a b∈ts)(d:2<=vAt h a):xH m ts (ws h (a,b)):=by
 have c:VC h.length (a,b):=zfH A.len (X4 A.ok e)
 refine⟨A.ok,A.few,by rw[zbk];exact A.len,zjL c A.nn d,?_⟩
 rw[zhS c]
 have:=A.sum
 omega
def zkx (A:xH m ts h)(c:ym a b∈ts)(g:2<=vAt h a):vf [zI m ts,hD h,.int a,.int b]=some (hD (ws h (a,b))):=by
 obtain⟨f,e,_⟩:=X4 A.ok c
 refine Yp (ρ:=[.v (zI m ts),.v (hD h),.v (.int a),.v (.int b)]) rfl ?_
 unfold Vf
 refine zw (xo (d:=.non) (zq (ds:=[zI m ts,.int a]) rfl (yQ f))) ?_
 refine zw (xo (d:=.non) (zq (ds:=[zI m ts,.int b]) rfl (yQ e))) ?_
 exact vJ (yd (zF (x:=.lst [hD (ws h (a,b))]) (y:=.int 0) (zq (ds:=[zI m ts,hD h,.lst [zd (a,b)]]) (zf rfl (zf rfl (zf (Yg (Z0 (zf (YD (zf rfl (zf rfl zJ)) (by show 2<=1000;decide)) zJ) (by show 1<=1000;decide))) zJ))) (zhK A c g)) rfl rfl)) rfl
def zms (A:xH m ts h)(e:¬ (ym a b∈ts/\2<=vAt h a)):∃ j,vp [zI m ts,hD h,.int a,.int b]=some j/\(j=3\/j=90):=by
 show ∃ j,wG [.v (zI m ts),.v (hD h),.v (.int a),.v (.int b)]=some j/\(j=3\/j=90)
 unfold wG
 by_cases c:(0<=a/\a<m)/\(0<=b/\b<m)
 .refine⟨90,zh5 rfl rfl rfl c.1 c.2 (Yc (ds:=[zI m ts,hD h,.lst [zd (a,b)]]) (zf rfl (zf rfl (zf (Yg (Z0 (zf (YD (zf rfl (zf rfl zJ)) (by show 2<=1000;decide)) zJ) (by show 1<=1000;decide))) zJ))) (zj8 A ?_)),.inr rfl⟩
  by_cases d:ym a b∈ts
  .exact .inr (Int.not_le.mp λz=>e ⟨d,z⟩)
  .exact .inl d
 .exact⟨3,zmo rfl rfl rfl c,.inl rfl⟩
end
def zaq:bootBuiltins "ValueError"=some (.type "ValueError"):=by decide +kernel
def zjH {n:Nat}(h:n<=13):n<=sizeLine:=by rw[u0I];omega
def YZ (T:Txt P w K mg base ad):zgI P w K mg base 1 (ad.f 38) (ad.e 38) (Rw 38).ps (zic (clT ad) (λj=>j<13/\zbs K (ziS ad) ad.x_StoneError (clT ad j) j)):=by
 letI:KK:=⟨K,ad.dk⟩
 have z:=T.z "isinstance" (by decide)
 refine zmR (N:=(Rw 38).N) (ps:=(Rw 38).ps) (T.d 38).fn (sc 38) (λk H Q E h=>by obtain⟨a,j,g,rfl,_⟩:=h;rfl) λf A outer s H k Q E t o c=>?_
 obtain⟨a,j,g,rfl,e,⟨d,b⟩,q⟩:=c
 refine⟨_,(xu (vK (i:=1) (sc 38).nd rfl (Or.inl rfl) (zb4 (zu (yD xh rfl z zL (zu (pv 0) (zu (xc (v:=.ref ad.x_NoWeb) rfl T.g_NoWeb rfl) yF))) (zu (yD xh rfl z zL (zu (pv 0) (zu (xc (v:=.ref ad.x_NoKind) rfl T.g_NoKind rfl) yF))) (zu (yD xh rfl z zL (zu (pv 0) (zu (xc (v:=.ref ad.x_NoHeap) rfl T.g_NoHeap rfl) yF))) (zu (yD xh rfl z zL (zu (pv 0) (zu (xc (v:=.ref ad.x_NoPlace) rfl T.g_NoPlace rfl) yF))) yF))))))
  (xu (vK (i:=1) (sc 38).nd rfl (Or.inl rfl) (zgr zcb (pv 1) (zb4 (zu (yD xh rfl z zL (zu (pv 0) (zu (xc (v:=.ref ad.x_NoNumber) rfl T.g_NoNumber rfl) yF))) (zu (yD xh rfl z zL (zu (pv 0) (zu (xc (v:=.ref ad.x_NoTally) rfl T.g_NoTally rfl) yF))) (zu (yD xh rfl z zL (zu (pv 0) (zu (xc (v:=.ref ad.x_NotTree) rfl T.g_NotTree rfl) yF))) (zu (yD xh rfl z zL (zu (pv 0) (zu (xc (v:=.ref ad.x_NotJoined) rfl T.g_NotJoined rfl) yF))) yF)))))))
  (xu (vK (i:=1) (sc 38).nd rfl (Or.inl rfl) (zgr zcb (pv 1) (zb4 (zu (yD xh rfl z zL (zu (pv 0) (zu (xc (v:=.ref ad.x_NoWeights) rfl T.g_NoWeights rfl) yF))) (zu (yD xh rfl z zL (zu (pv 0) (zu (xc (v:=.ref ad.x_NoRow) rfl T.g_NoRow rfl) yF))) (zu (yD xh rfl z zL (zu (pv 0) (zu (xc (v:=.ref ad.x_NoSteps) rfl T.g_NoSteps rfl) yF))) (zu (yD xh rfl z zL (zu (pv 0) (zu (xc (v:=.ref ad.x_NoText) rfl T.g_NoText rfl) yF))) yF)))))))
  (xu (vK (i:=1) (sc 38).nd rfl (Or.inl rfl) (zgr zcb (pv 1) (zb4 (zu (yD xh rfl z zL (zu (pv 0) (zu (xc (v:=.ref ad.x_TooGreat) rfl T.g_TooGreat rfl) yF))) yF))))
  (xu (zgf (PW.pt (zp2 (zlm (zk5 (yD xh rfl z zL (zu (pv 0) (zu (vH (v:=.ty "ValueError") rfl (T.z "ValueError" (by decide)) zaq rfl) yF))))) (zk7 (zaB zbK (W2 p8 PySem.F.slot_list_count PySem.F.type_list_count zfG (pv 1) (zu zbm yF)) zr (z5 _))))) (wO (Y7 (zpS zll zr))) zcL) (wO (Y7 (W2 p8 PySem.F.slot_list_index PySem.F.type_list_index zho (pv 1) (zu zbm yF))))))))),?_⟩
 refine zgM (cs:=[ad.x_NoWeb,ad.x_NoKind,ad.x_NoHeap,ad.x_NoPlace]) (bs:=[0 == j,1 == j,2 == j,3 == j]) b.look (u0x (λl=>(l.drop 0).take 4) b.hot) (zjH (n:=4) (by decide)) rfl rfl e λr H1 S1=>?_
 refine zas (cs:=[ad.x_NoNumber,ad.x_NoTally,ad.x_NotTree,ad.x_NotJoined]) (bs:=[4 == j,5 == j,6 == j,7 == j]) b.look (u0x (λl=>(l.drop 4).take 4) b.hot) (by exact zjH (n:=8) (by decide)) S1 λp H2 S2=>?_
 refine zas (cs:=[ad.x_NoWeights,ad.x_NoRow,ad.x_NoSteps,ad.x_NoText]) (bs:=[8 == j,9 == j,10 == j,11 == j]) b.look (u0x (λl=>(l.drop 8).take 4) b.hot) (by exact zjH (n:=12) (by decide)) S2 λm H3 S3=>?_
 refine zas (cs:=[ad.x_TooGreat]) (bs:=[12 == j]) b.look (u0x (λl=>(l.drop 12).take 1) b.hot) (by exact zjH (n:=13) (by decide)) S3 λu H4 S4=>?_
 exact zmM b.val b.look d S4 (q _ S4.same)
abbrev vk :=zK (zli (xEx (ziZ 2 yl (zc 0) (za (zc 1) zj))) (xD false 3 (zfz 2 yc (zc 0) (za (zc 1) zj))) (zi3 [0,1,2,3,9,10] (fK [0,1,2,3,9,10])))
  (yr (zc 3))
def yJ:=fnD 4 vk
def zcp (T:Txt P w K mg base ad):T.Pr 41 12 2 yJ:=by
 letI:KK:=⟨K,ad.dk⟩
 have H_kinds:=YZ T
 have a:∀ j,j∈[0,1,2,3,9,10]->j<13/\zbs K (ziS ad) ad.x_StoneError (clT ad j) j:=by
  intro j f
  simp only[q7,o5,u0J]at f
  rcases f with rfl | rfl | rfl | rfl | rfl | rfl
  .exact⟨by decide,.of T.y_NoWeb⟩
  .exact⟨by decide,.of T.y_NoKind⟩
  .exact⟨by decide,.of T.y_NoHeap⟩
  .exact⟨by decide,.of T.y_NoPlace⟩
  .exact⟨by decide,.of T.y_NoRow⟩
  .exact⟨by decide,.of T.y_NoSteps⟩
 have c:∀ (h:Nat->Option D) j d,zi3 [0,1,2,3,9,10] h j=some d->PySem.W.exmOne K (.ref (clT ad j)) (.ref ad.x_StoneError)=some true:=λh j d e=>by rw[ziO ad j];exact(a _ (zhG e)).2.exm
 have G_Desk_say:=W8 T
 have X_Desk_say:=zbS T
 refine Vo (N:=(Rw 41).N) (ps:=(Rw 41).ps) (T.d 41).fn (sc 41) (g:=vk) λl A outer s H E b=>?_
 unfold vk
 exact(zA (zlG (i:=2) rfl rfl rfl (sc 41).nd rfl rfl rfl T.g_StoneError (λk W E0 n=>(yb (zlQ (i:=3) (sc 41).nd rfl (Or.inl rfl) (zo4 T.dkc.cl T.mm_Desk_say (X_Desk_say.mono (by decide)) n b T.mb_Desk_say (edv 0) (zb (edv 1) zg))))) (λk W=>(zG (wJ (m:=false) (i:=3) (sc 41).nd rfl (Or.inl rfl) (VN T.dkc.cl T.mm_Desk_say (G_Desk_say.mono (by decide)) b T.mb_Desk_say (edv 0) (zb (edv 1) zg))))) (c _) (λok o=>(wO (Y7 (zd2 (E:=λ_ _ _=>False) H_kinds (b.mono (by decide)) rfl (T.d 38).at_ (T.d 38).kp (T.d 38).bd ok (zu (pv 2) yF))))) (zlj (zlM (zdE (ok:=_) (ziO ad) a))))
  (zG (y8 (edv 3))))
def okL (x:Str) (_:zm):Bool:=!decide (x="ring")
def vz {t:vr}{c:xa}(e:t (visG ρ)=some false):w1 (xIf t a xNo) (sIf t b zD) c ρ=c ρ:=by
 unfold w1 xIf sIf
 rw[e]
 rfl
def zaA {t:vr}{a:xa}{g:zz}(e:t (visG ρ)=some true)(h:a ρ=some j):w1 (xIf t a xNo) g b ρ=some j:=zes (zh2 e h)
def tw (c:Bool)(h:zc i ρ=some (.str x))(a:decide (x=y)=c:=by decide):tOf (zh x9 (zc i) (eC (.str y))) ρ=some c:=yS (zF h rfl (by rw[yj,a]))
def zpl {f:zU}{a:zaV}{d:D}(h:f ρ=some d)(b:a ρ=r):zjI f a ρ=r:=by
 unfold zjI
 rw[h]
 exact b
section
variable {w hh w' h':D}{a b:Int}{j:Nat}
def Yn (c:zc 3 ρ=some (.lst [.int a,.int b])):za (zh ixD (zc 3) (eC (.int 0))) (za (zh ixD (zc 3) (eC (.int 1))) zj) ρ=some [.int a,.int b]:=zf (zF c rfl rfl) (zf (zF c rfl rfl) zJ)
def zbV (e:zbX [w,.int a,.int b]=some w'):vY [w,hh,.str "tie",.lst [.int a,.int b]]=some (.tup [w',hh]):=by
 refine Yp (ρ:=[.v w,.v hh,.v (.str "tie"),.v (.lst [.int a,.int b])]) rfl ?_
 unfold Vj
 refine zw ((xx (tw false rfl)).trans rfl) ?_
 refine wH ?_
 rw[Ye (tw true rfl)]
 exact vJ (yd (YD (zf (zq (ds:=[w,.int a,.int b]) (zf rfl (Yn rfl)) e) (zf rfl zJ)) (by show 2<=1000;decide))) rfl
def zbI (e:ziv [w,.int a,.int b]=some w'):vY [w,hh,.str "cut",.lst [.int a,.int b]]=some (.tup [w',hh]):=by
 refine Yp (ρ:=[.v w,.v hh,.v (.str "cut"),.v (.lst [.int a,.int b])]) rfl ?_
 unfold Vj
 refine zw ((xx (tw false rfl)).trans rfl) (zw ((xx (tw false rfl)).trans rfl) (wH ?_))
 rw[Ye (tw true rfl)]
 exact vJ (yd (YD (zf (zq (ds:=[w,.int a,.int b]) (zf rfl (Yn rfl)) e) (zf rfl zJ)) (by show 2<=1000;decide))) rfl
def zbP (e:zh8 [w,hh,.int a,.int b]=some h'):vY [w,hh,.str "put",.lst [.int a,.int b]]=some (.tup [w,h']):=by
 refine Yp (ρ:=[.v w,.v hh,.v (.str "put"),.v (.lst [.int a,.int b])]) rfl ?_
 unfold Vj
 refine zw ((xx (tw false rfl)).trans rfl) (zw ((xx (tw false rfl)).trans rfl) (zw ((xx (tw false rfl)).trans rfl) (wH ?_)))
 rw[Ye (tw true rfl)]
 exact vJ (yd (YD (zf rfl (zf (zq (ds:=[w,hh,.int a,.int b]) (zf rfl (zf rfl (Yn rfl))) e) zJ)) (by show 2<=1000;decide))) rfl
def zav (e:vf [w,hh,.int a,.int b]=some h'):vY [w,hh,.str "step",.lst [.int a,.int b]]=some (.tup [w,h']):=by
 refine Yp (ρ:=[.v w,.v hh,.v (.str "step"),.v (.lst [.int a,.int b])]) rfl ?_
 unfold Vj
 refine zw ((xx (tw false rfl)).trans rfl) (zw ((xx (tw false rfl)).trans rfl) (zw ((xx (tw false rfl)).trans rfl) (zw ((xx (tw false rfl)).trans rfl) (wH ?_))))
 rw[Ye (tw true rfl)]
 exact vJ (yd (YD (zf rfl (zf (zq (ds:=[w,hh,.int a,.int b]) (zf rfl (zf rfl (Yn rfl))) e) zJ)) (by show 2<=1000;decide))) rfl
def WF (e:zar [w,.int a,.int b]=some j):vt [w,hh,.str "tie",.lst [.int a,.int b]]=some j:=by
 show xZ [.v w,.v hh,.v (.str "tie"),.v (.lst [.int a,.int b])]=_
 unfold xZ
 rw[vz (tw false rfl)]
 exact zaA (tw true rfl) (Yc (ds:=[w,.int a,.int b]) (zf rfl (Yn rfl)) e)
def Vc (e:zdR [w,.int a,.int b]=some j):vt [w,hh,.str "cut",.lst [.int a,.int b]]=some j:=by
 show xZ [.v w,.v hh,.v (.str "cut"),.v (.lst [.int a,.int b])]=_
 unfold xZ
 rw[vz (tw false rfl),vz (tw false rfl)]
 exact zaA (tw true rfl) (Yc (ds:=[w,.int a,.int b]) (zf rfl (Yn rfl)) e)
def zda (e:zeH [w,hh,.int a,.int b]=some j):vt [w,hh,.str "put",.lst [.int a,.int b]]=some j:=by
 show xZ [.v w,.v hh,.v (.str "put"),.v (.lst [.int a,.int b])]=_
 unfold xZ
 rw[vz (tw false rfl),vz (tw false rfl),vz (tw false rfl)]
 exact zaA (tw true rfl) (zpl (d:=w) rfl (Yc (ds:=[w,hh,.int a,.int b]) (zf rfl (zf rfl (Yn rfl))) e))
def zch (e:vp [w,hh,.int a,.int b]=some j):vt [w,hh,.str "step",.lst [.int a,.int b]]=some j:=by
 show xZ [.v w,.v hh,.v (.str "step"),.v (.lst [.int a,.int b])]=_
 unfold xZ
 rw[vz (tw false rfl),vz (tw false rfl),vz (tw false rfl),vz (tw false rfl)]
 exact zaA (tw true rfl) (zpl (d:=w) rfl (Yc (ds:=[w,hh,.int a,.int b]) (zf rfl (zf rfl (Yn rfl))) e))
end
def P8:z0:=(List.range 8).flatMap λa:Nat=>(List.range a).map λb:Nat=>((b:Int),(a:Int))
def zdA {a:z0}(ok:xR m a):a.length<=28:=by
 have c:=ok.hi
 refine r0 ((zeu ok).length_le_of_subset (l₂:=P8) λt b=>?_) (by decide +kernel)
 have r:=ok.rng t b
 unfold P8
 rw[List.mem_flatMap]
 refine⟨t.2.toNat,u0r.mpr (by omega),l6.mpr ⟨t.1.toNat,u0r.mpr (by omega),u2v ?_ ?_⟩⟩
 .show((t.1.toNat:Nat):Int)=t.1
  omega
 .show((t.2.toNat:Nat):Int)=t.2
  omega
structure Sta where
 m:Int
 ts:z0
 h:Hl
def Sta.wd (s:Sta):D:=zI s.m s.ts
def Sta.d (s:Sta):D:=hD s.h
def Sta.Ok (s:Sta):Prop:=xH s.m s.ts s.h
def Sta.p (s:Sta):D:=.tup [s.wd,s.d]
def zoS:D->zC
 | .tup a=>a.map zkn
 | _=>[]
def okB (w h:D)(x:Str)(ns:zm):Bool:=match ns with
 | [.int a,.int b]=>(if x="tie" then decide ((0<=a/\a<Yi w)/\(0<=b/\b<Yi w))&&!(decide (a=b)||decide (ym a b∈XJ w))
  else if x="cut" then decide ((0<=a/\a<Yi w)/\(0<=b/\b<Yi w))&&decide (ym a b∈XJ w)
  else if x="put" then decide ((0<=a/\a<Yi w)/\(zoS h).sum+b<=300)
  else decide (ym a b∈XJ w/\2<=vAt (zoS h) a))
 | _=>okL x ns
section
variable {s:Sta}{a b:Int}
def zcA:okB s.wd s.d "tie" [.int a,.int b]=(decide ((0<=a/\a<s.m)/\(0<=b/\b<s.m))&&!(decide (a=b)||decide (ym a b∈s.ts))):=by
 show(decide ((0<=a/\a<Yi (zI s.m s.ts))/\(0<=b/\b<Yi (zI s.m s.ts)))&&!(decide (a=b)||decide (ym a b∈XJ (zI s.m s.ts))))=_
 rw[xJ,we]
def zc3:okB s.wd s.d "cut" [.int a,.int b]=(decide ((0<=a/\a<s.m)/\(0<=b/\b<s.m))&&decide (ym a b∈s.ts)):=by
 show(decide ((0<=a/\a<Yi (zI s.m s.ts))/\(0<=b/\b<Yi (zI s.m s.ts)))&&decide (ym a b∈XJ (zI s.m s.ts)))=_
 rw[xJ,we]
def zfZ:okB s.wd s.d "put" [.int a,.int b]=decide ((0<=a/\a<s.m)/\s.h.sum+b<=300):=by
 show decide ((0<=a/\a<Yi (zI s.m s.ts))/\((s.h.map D.int).map zkn).sum+b<=300)=_
 rw[xJ,xQ]
def zdK:okB s.wd s.d "step" [.int a,.int b]=decide (ym a b∈s.ts/\2<=vAt s.h a):=by
 show decide (ym a b∈XJ (zI s.m s.ts)/\2<=vAt ((s.h.map D.int).map zkn) a)=_
 rw[we,xQ]
end
def staB (m:Int)(a:z0)(h:Hl):Bool:=decide (1<=m)&&decide (m<=8)&&a.all (λt=>decide (0<=t.1)&&decide (t.1<t.2)&&decide (t.2<m))&&decide (a.Pairwise ltP)&&decide (a.length<=28)&&decide ((h.length:Int)=m)&&h.all (λx=>decide (0<=x))&&decide (h.sum<=300)
def zab (e:staB m c h=true):xH m c h:=by
 unfold staB at e
 simp only[j0,j9,p4]at e
 obtain⟨⟨⟨⟨⟨⟨⟨k,f⟩,b⟩,g⟩,l⟩,d⟩,j⟩,i⟩:=e
 exact⟨⟨k,f,λt a=>⟨(b t a).1.1,(b t a).1.2,(b t a).2⟩,g⟩,l,d,j,i⟩
section
variable {w hh row w' h':D}{x:Str}{ns ps:zm}{j:Nat}
def zaI (ns:zC):noL (.tup (ns.map .int))=true:=by
 show zep (ns.map .int)=true
 induction ns with
 | nil=>rfl
 | cons n ns a=>exact a
def zds (m:Int)(a:z0):noL (zI m a)=true:=by
 have:zep (a.map zd)=true:=by
  induction a with
  | nil=>rfl
  | cons t a b=>exact b
 show(true&&(zep (a.map zd)&&true))=true
 rw[this]
 rfl
def zqv (f:xv [row]=some (.tup [.str x,.lst ns])) (i:(xW zN x).isSome=false) (e:x≠"back") (c:vY [w,hh,.str x,.lst ns]=some (.tup [w',h'])) (h:noL w=true) (d:noL hh=true) (a:noL w'=true) (b:noL h'=true) (g:ps.length<1000) :
 z4 w hh ps [row]=some (w',h',ps++[.tup [w,hh]]):=by
 unfold z4
 dsimp only
 rw[f]
 dsimp only
 rw[i,j6 u7,j6 e,c]
 dsimp only
 rw[t7 (ziu a b)]
 unfold xt
 dsimp only
 rw[t7 ⟨h,d,a,b,g⟩]
def Zf:xv [.str "back"]=some (.tup [.str "back",.lst []]):=by kernel_rfl
def zk1 (a:noL w'=true) (b:noL h'=true):z4 w hh (ps++[.tup [w',h']]) [.str "back"]=some (w',h',ps):=by
 unfold z4
 dsimp only
 rw[Zf]
 dsimp only
 rw[j6 (by decide +kernel),t7 rfl]
 unfold yN
 rw[u1Z,u0j]
 dsimp only
 rw[t7 ⟨a,b⟩]
def zrX (d:xv [row]=some (.tup [.str x,.lst ns])) (f:w4 [row]=none) (e:(xW zN x).isSome=false) (a:x≠"back") (c:vt [w,hh,.str x,.lst ns]=some j):yl [.obj w hh ps,row]=some j:=by
 show yY [.v (.obj w hh ps),.v row,.no,.no]=_
 unfold yY
 refine yP (ρ':=[.v (.obj w hh ps),.v row,.v (.tup [.str x,.lst ns]),.no]) (Yc (ds:=[row]) rfl f) (wg (zq (ds:=[row]) rfl d)) ?_
 refine yP (ρ':=[.v (.obj w hh ps),.v row,.v (.tup [.str x,.lst ns]),.v (.str x)]) rfl (wg (zF (x:=.tup [.str x,.lst ns]) (y:=.int 0) rfl rfl rfl)) ?_
 refine yP (ρ':=[.v (.obj w hh ps),.v row,.v (.tup [.str x,.lst ns]),.v (.str x)]) rfl ((xx (yS (b:=false) (zaU (x:=.str x) rfl (by show some (D.bl _)=_;rw[e])))).trans rfl) ?_
 unfold xIf
 rw[tw false rfl (t8 a)]
 show(zki (zc 0) _ _)=_
 unfold zki
 rw[show zc 0 (visG [.v (.obj w hh ps),.v row,.v (.tup [.str x,.lst ns]),.v (.str x)])=some (.obj w hh ps)from rfl,j7]
 exact Yc (ds:=[w,hh,.str x,.lst ns]) rfl c
def VJ:yl [.obj w hh [],.str "back"]=some 9:=by
 show yY [.v (.obj w hh []),.v (.str "back"),.no,.no]=_
 unfold yY
 refine yP (ρ':=[.v (.obj w hh []),.v (.str "back"),.v (.tup [.str "back",.lst []]),.no]) (Yc (ds:=[.str "back"]) rfl (by kernel_rfl)) (wg (zq (ds:=[.str "back"]) rfl Zf)) ?_
 refine yP (ρ':=[.v (.obj w hh []),.v (.str "back"),.v (.tup [.str "back",.lst []]),.v (.str "back")]) rfl (wg (zF (x:=.tup [.str "back",.lst []]) (y:=.int 0) rfl rfl rfl)) ?_
 refine yP (ρ':=[.v (.obj w hh []),.v (.str "back"),.v (.tup [.str "back",.lst []]),.v (.str "back")]) rfl ((xx (yS (b:=false) (zaU (x:=.str "back") rfl (by kernel_rfl)))).trans rfl) ?_
 unfold xIf
 rw[tw true rfl]
 rfl
def zpG {t:D}(h:xv [row]=some (.tup [.str x,.lst ns]))(j:w4 [row]=none)(i:(xW zN x).isSome=true)(e:wy [w,hh,.str x,.lst ns]=some t):yl [.obj w hh ps,row]=none/\yc [.obj w hh ps,row]=some t:=by
 have a:xD false 2 (zo 1 xv (za (zc 1) zj)) [.v (.obj w hh ps),.v row,.no,.no]=.nx [.v (.obj w hh ps),.v row,.v (.tup [.str x,.lst ns]),.no]:=wg (zq (ds:=[row]) rfl h)
 have d:xD false 3 (zh ixD (zc 2) (eC (.int 0))) [.v (.obj w hh ps),.v row,.v (.tup [.str x,.lst ns]),.no]=.nx [.v (.obj w hh ps),.v row,.v (.tup [.str x,.lst ns]),.v (.str x)]:=wg (zF (x:=.tup [.str x,.lst ns]) (y:=.int 0) rfl rfl rfl)
 have c:∀ g:zz,sIf (tOf (eUn (zbY zN) (zc 3))) (yr (zo 4 wy (za (eUn znD (zc 0)) (za (eUn znL (zc 0)) (za (zc 3) (za (zh ixD (zc 2) (eC (.int 1))) zj)))))) g [.v (.obj w hh ps),.v row,.v (.tup [.str x,.lst ns]),.v (.str x)]=.rt t:=λg=>by
  rw[Ye (yS (b:=true) (zaU (x:=.str x) rfl (by show some (D.bl _)=_;rw[i])))]
  exact yd (zq (ds:=[w,hh,.str x,.lst ns]) (zf (zaU (x:=.obj w hh ps) rfl rfl) (zf (zaU (x:=.obj w hh ps) rfl rfl) (zf rfl (zf rfl zJ)))) e)
 refine⟨?_,?_⟩
 .show yY [.v (.obj w hh ps),.v row,.no,.no]=_
  unfold yY
  have f:xEx (wj 1 w4 (za (zc 1) zj)) [.v (.obj w hh ps),.v row,.no,.no]=none:=Yc (ds:=[row]) rfl j
  unfold w1
  rw[f,a]
  dsimp only
  rw[show xNo [.v (.obj w hh ps),.v row,.v (.tup [.str x,.lst ns]),.no]=none from rfl,d]
  dsimp only
  rw[show xNo [.v (.obj w hh ps),.v row,.v (.tup [.str x,.lst ns]),.v (.str x)]=none from rfl,c]
 .refine Yp (ρ:=[.v (.obj w hh ps),.v row,.no,.no]) rfl ?_
  unfold YM
  exact zw a (zw d (wH (vJ (c _) rfl)))
end
def Out (s:Sta)(x:Str)(ns:zm):Prop:=(okB s.wd s.d x ns=true/\∃ a:Sta,a.Ok/\vY [s.wd,s.d,.str x,.lst ns]=some a.p)\/(okB s.wd s.d x ns=false/\∃ j,vt [s.wd,s.d,.str x,.lst ns]=some j/\j%16∈[0,1,2,3,9,10])
section
variable {s:Sta}{a b:Int}
variable (A:s.Ok)
include A
theorem zmH:Out s "tie" [.int a,.int b]:=by
 by_cases c:(0<=a/\a<s.m)/\(0<=b/\b<s.m)
 .by_cases d:a=b\/ym a b∈s.ts
  .refine .inr ⟨?_,_,WF (zos A.ok A.few c.1 c.2 d),by rw[show(16+64*(s.ts.length+1))%16=0 by omega];decide⟩
   rw[zcA,<- Bool.decide_or,q0 d]
   simp
  .have f:a≠b:=λz=>d (.inl z)
   have e:ym a b∉s.ts:=λz=>d (.inr z)
   have ok:=zhd A.ok c.1 c.2 f e
   refine .inl ⟨?_,⟨s.m,zqR s.ts (ym a b),s.h⟩,⟨ok,zdA ok,A.len,A.nn,A.sum⟩,zbV (znl A.ok A.few c.1 c.2 f e)⟩
   rw[zcA,<- Bool.decide_or,t8 d,q0 c]
   rfl
 .refine .inr ⟨?_,3,WF (by show WK [.v (zI s.m s.ts),.v (.int a),.v (.int b)]=_;unfold WK;exact zmo rfl rfl rfl c),by decide⟩
  rw[zcA,t8 c]
  rfl
theorem zmw:Out s "cut" [.int a,.int b]:=by
 by_cases c:(0<=a/\a<s.m)/\(0<=b/\b<s.m)
 .by_cases d:ym a b∈s.ts
  .have ok:=zmd A.ok (ym a b)
   refine .inl ⟨?_,⟨s.m,s.ts.filter λt=>!decide (t=ym a b),s.h⟩,⟨ok,zdA ok,A.len,A.nn,A.sum⟩,zbI (zqC A.few c.1 c.2 d)⟩
   rw[zc3,q0 d,q0 c]
   rfl
  .refine .inr ⟨?_,_,Vc (zq7 c.1 c.2 d),by rw[show(16+64*(s.ts.length+1))%16=0 by omega];decide⟩
   rw[zc3,t8 d,u0U]
 .refine .inr ⟨?_,3,Vc (by show VF [.v (zI s.m s.ts),.v (.int a),.v (.int b),.no]=_;unfold VF;exact zmo rfl rfl rfl c),by decide⟩
  rw[zc3,t8 c]
  rfl
theorem zmG (d:0<=b):Out s "put" [.int a,.int b]:=by
 by_cases c:(0<=a/\a<s.m)/\s.h.sum+b<=300
 .exact .inl ⟨by rw[zfZ,q0 c],⟨s.m,s.ts,zcw s.h a b⟩,zgU A c.1 d c.2,zbP (zlW A c.1 d c.2)⟩
 .obtain⟨j,e,f⟩:=zrg A d c
  exact .inr ⟨by rw[zfZ,t8 c],j,zda e,by rcases f with rfl | rfl <;> decide⟩
theorem zjR:Out s "step" [.int a,.int b]:=by
 by_cases c:ym a b∈s.ts/\2<=vAt s.h a
 .exact .inl ⟨by rw[zdK,q0 c],⟨s.m,s.ts,ws s.h (a,b)⟩,zfJ A c.1 c.2,zav (zkx A c.1 c.2)⟩
 .obtain⟨j,e,d⟩:=zms A c
  exact .inr ⟨by rw[zdK,t8 c],j,zch e,by rcases d with rfl | rfl <;> decide⟩
end
section
variable {w hh row:D}{ps:zm}{j:Nat}
def zhu (h:yl [.obj w hh ps,row]=some j)(a:j%16∈[0,1,2,3,9,10]):yJ [.obj w hh ps,row]=some (.int (j%16:Nat)):=by
 refine Yp (ρ:=[.v (.obj w hh ps),.v row,.no,.no]) rfl ?_
 unfold vk
 refine wH (vJ (d:=.int (j%16:Nat)) (zi9 (j:=j) ?_ ?_) rfl)
 .show ziZ 2 yl (zc 0) (za (zc 1) zj) _=_
  unfold ziZ
  rw[show zc 0 (visG [.v (.obj w hh ps),.v row,.no,.no])=some (.obj w hh ps)from rfl,j7]
  show((some [row]).bind λb=>if b.length+1=2 then yl (.obj w hh ps::b)else none)=_
  rw[j7,t7 (show [row].length+1=2 from rfl)]
  exact h
 .unfold zi3 fK
  rw[t7 a,t7 a]
def zpe {t:D}(h:yl [.obj w hh ps,row]=none)(c:yc [.obj w hh ps,row]=some t):yJ [.obj w hh ps,row]=some t:=by
 refine Yp (ρ:=[.v (.obj w hh ps),.v row,.no,.no]) rfl ?_
 unfold vk
 have d:xEx (ziZ 2 yl (zc 0) (za (zc 1) zj)) [.v (.obj w hh ps),.v row,.no,.no]=none:=by
  show ziZ 2 yl (zc 0) (za (zc 1) zj) _=_
  unfold ziZ
  rw[show zc 0 (visG [.v (.obj w hh ps),.v row,.no,.no])=some (.obj w hh ps)from rfl,j7]
  show((some [row]).bind λa=>if a.length+1=2 then yl (.obj w hh ps::a)else none)=_
  rw[j7,t7 (show [row].length+1=2 from rfl)]
  exact h
 have b:xD false 3 (zfz 2 yc (zc 0) (za (zc 1) zj)) [.v (.obj w hh ps),.v row,.no,.no]=.nx [.v (.obj w hh ps),.v row,.no,.v t]:=by
  refine wg ?_
  unfold zfz
  rw[show zc 0 (visF [.v (.obj w hh ps),.v row,.no,.no])=some (.obj w hh ps)from rfl,j7]
  show((some [row]).bind λa=>if a.length+1=2 then yc (.obj w hh ps::a)else none)=_
  rw[j7,t7 (show [row].length+1=2 from rfl)]
  exact c
 refine zw (ρ':=[.v (.obj w hh ps),.v row,.no,.v t]) ?_ (vJ (yd rfl) rfl)
 unfold zli
 rw[d]
 exact b
end
def zeF {a b:Str}(h:a.length+b.length<=1000):yK (.str a) (.str b)=some (.str (a++b)):=by
 show(if lim (a.length+b.length)=true then _ else none)=_
 rw[t7 (vc h)]
def zdv (a b:Str):(a++b).length=a.length+b.length:=by
 show(a.cps++b.cps).size=_
 rw[Array.size_append]
 rfl
def znY:(Str.ofString " ").length=1:=by decide
def zoa {x:Nat}:∀ {A:List (List Nat)},x∈gl c A->x=c\/∃ a∈A,x∈a:=by
 intro A
 induction A with
 | nil=>intro h;cases h
 | cons a r d =>
  intro h
  cases r with
  | nil=>exact .inr ⟨a,.head _,h⟩
  | cons y r =>
   rcases u0t.mp h with h | h
   .exact .inr ⟨a,.head _,h⟩
   .rcases q7.mp h with h | h
    .exact .inl h
    .rcases d h with e | ⟨b,f,g⟩
     .exact .inl e
     .exact .inr ⟨b,.tail _ f,g⟩
def NoO (x:Str):Prop:=∀ c∈x.cps.toList,c≠111
def NoO.ne (h:NoO x):x≠"ok":=λe=>by
 subst e
 exact h 111 (by decide) rfl
def NoO.app (h:NoO x)(k:NoO y):NoO (x++y):=λc a=>by
 rw[Str.cps_append,u16]at a
 rcases u0t.mp a with a | a
 .exact h c a
 .exact k c a
def zjk (h:∀ a∈A,NoO a):NoO (Txt.join (Str.ofString " ") A):=λc d=>by
 have i:Txt.join (Str.ofString " ") A=Str.join ⟨#[32]⟩ A:=by rw[zdD];exact u02 _ _
 rw[i,zhn]at d
 rcases zoa d with rfl | ⟨a,e,g⟩
 .decide
 .obtain⟨b,f,rfl⟩:=l6.mp e
  exact h b f c g
def zhX {n:Int}(h0:0<=n)(a:n<=300):NoO (nS n):=λc b=>by
 have:=(zbF h0 a).1 c b
 omega
def zck {A:zH} {B:Nat} (g:∀ a∈A,NoO a) (f:∀ a∈A,a.length<=B) (e:A.length<=300) (b:B<=100):∃ t:Str,XT [.lst (A.map .str)]=some (.str t)/\t≠"ok":=by
 cases A with
 | nil=>exact⟨"none",by kernel_rfl,by decide⟩
 | cons x r =>
  refine⟨Txt.join (Str.ofString " ") (x::r),?_,(zjk g).ne⟩
  refine Yp (ρ:=[.v (.lst ((x::r).map .str))]) rfl ?_
  unfold X1
  refine vJ (d:=.str (Txt.join (Str.ofString " ") (x::r))) (yd (zrh (c:=true) (yS (zF (x:=.int (((x::r).map D.str).length:Nat)) (y:=.int 0) (Xb (ds:=[.lst ((x::r).map .str)]) rfl rfl) rfl ?_)) ?_)) rfl
  .show some (D.bl (decide ((0:Int)<(((x::r).map D.str).length:Nat))))=_
   rw[u9,q0 (by rw[k7];omega)]
  .rw[t7 rfl]
   refine zmx (c:=.str (Str.ofString " ")) (d:=.lst ((x::r).map .str)) rfl rfl ?_
   show(Xl ((x::r).map .str)).bind _=_
   rw[ZY,j7,t7 (zcy f ?_)]
   rw[znY]
   have h:(x::r).length*B<=300*100:=Nat.mul_le_mul e b
   omega
def zjw {f:z0} {h:zC} (A:xH m f h):∃ t:Str,wy [zI m f,.tup (h.map .int),.str "heap",.lst []]=some (.str t)/\t≠"ok":=by
 have b:=A.nH
 obtain⟨t,g,i⟩:=zck (A:=h.map nS) (B:=3) (λa e=>by obtain⟨n,c,rfl⟩:=l6.mp e;exact zhX (b.rng n c).1 (b.rng n c).2) (λa e=>by obtain⟨n,c,rfl⟩:=l6.mp e;exact(zbF (b.rng n c).1 (b.rng n c).2).2) (by rw[u9];have:=b.few;omega) (by decide)
 refine⟨t,?_,i⟩
 refine Yp (ρ:=[.v (zI m f),.v (.tup (h.map .int)),.v (.str "heap"),.v (.lst [])]) rfl ?_
 unfold v8
 refine wH ?_
 rw[Ye (tw true rfl)]
 exact vJ (yd (zq (ds:=[.lst ((h.map nS).map .str)]) (zf (Yg (zgv (VB (d:=.tup (h.map .int)) rfl rfl) b)) zJ) g)) rfl
def zlF (s:Str)(t:Tie):Str:=nS t.1++s++nS t.2
structure zcY (t:Tie):Prop where
 a0:0<=t.1
 a1:t.1<=300
 b0:0<=t.2
 b1:t.2<=300
def zcY.len {t:Tie}{s:Str}(h:zcY t)(a:s.length=1):(zlF s t).length<=7:=by
 have c:=(zbF h.a0 h.a1).2
 have b:=(zbF h.b0 h.b1).2
 unfold zlF
 rw[zdv,zdv]
 omega
def zcY.noO {t:Tie}(h:zcY t)(a:NoO s):NoO (zlF s t):=((zhX h.a0 h.a1).app a).app (zhX h.b0 h.b1)
def zcY.ev {t:Tie}{s:Str}(h:zcY t)(e:s.length=1)(a:zc 0 ρ=some (zd t))(b:zc 2 ρ=some (.str s)):zh yK (zh yK (eFn zcM (za (zh ixD (zc 0) (eC (.int 0))) zj)) (zc 2)) (eFn zcM (za (zh ixD (zc 0) (eC (.int 1))) zj)) ρ=some (.str (zlF s t)):=by
 have g:=(zbF h.a0 h.a1).2
 have f:=(zbF h.b0 h.b1).2
 have c:ixD (zd t) (.int 0)=some (.int t.1):=rfl
 have d:ixD (zd t) (.int 1)=some (.int t.2):=rfl
 exact zF (x:=.str (nS t.1++s)) (y:=.str (nS t.2)) (zF (x:=.str (nS t.1)) (y:=.str s) (Xb (ds:=[.int t.1]) (zf (zF a (y:=.int 0) rfl c) zJ) (Vh h.a0 h.a1)) b (zeF (by omega))) (Xb (ds:=[.int t.2]) (zf (zF a (y:=.int 1) rfl d) zJ) (Vh h.b0 h.b1)) (zeF (by rw[zdv];omega))
def zbU {L:z0} {d:D} {s:Str} (n:wk d=some (L.map zd)) (h:L.length<=300) (c:∀ t∈L,zcY t) (g:NoO s) (f:s.length=1):∃ t:Str,XX [d,.str s]=some (.str t)/\t≠"ok":=by
 have m:∀ a∈L.map (zlF s),NoO a:=λa e=>by
  obtain⟨t,b,rfl⟩:=l6.mp e
  exact(c t b).noO g
 have l:∀ a∈L.map (zlF s),a.length<=7:=λa e=>by
  obtain⟨t,b,rfl⟩:=l6.mp e
  exact(c t b).len f
 obtain⟨t,k,o⟩:=zck m l (by rw[u9];exact h) (by decide)
 refine⟨t,?_,o⟩
 have j:fLC (iOf (zc 0)) b1 xp (zh yK (zh yK (eFn zcM (za (zh ixD (zc 0) (eC (.int 0))) zj)) (zc 2)) (eFn zcM (za (zh ixD (zc 0) (eC (.int 1))) zj))) [some d,some (.str s)]=some ((L.map (zlF s)).map .str):=by
  unfold fLC
  rw[VB (d:=d) rfl n,j7,t7 (vc (by rw[u9];omega)),u0F]
  exact Xc zd _ L λt i=>⟨[some (zd t)],rfl,rfl,(c t i).ev f rfl rfl⟩
 refine Yp (ρ:=[.v d,.v (.str s)]) rfl ?_
 unfold zd6
 exact vJ (yd (zq (ds:=[.lst ((L.map (zlF s)).map .str)]) (zf (Yg j) zJ) k)) rfl
def zkg {a:z0} (ok:xR m a) (j:a.length<=28):∃ t:Str,wy [zI m a,h,.str "ties",.lst []]=some (.str t)/\t≠"ok":=by
 have i:=ok.hi
 obtain⟨t,e,f⟩:=zbU (L:=a) (d:=.tup (a.map zd)) (s:="-") rfl (by omega) (λt b=>by have:=ok.rng t b;exact⟨by omega,by omega,by omega,by omega⟩) (λc g=>by revert c;decide) (by decide)
 refine⟨t,?_,f⟩
 refine Yp (ρ:=[.v (zI m a),.v h,.v (.str "ties"),.v (.lst [])]) rfl ?_
 unfold v8
 refine zw ((xx (tw false rfl)).trans rfl) (wH ?_)
 rw[Ye (tw true rfl)]
 exact vJ (yd (zq (ds:=[.tup (a.map zd),.str "-"]) rfl e)) rfl
def zgb {h:zC} (A:xH m a h):∃ t:Str,wy [zI m a,.tup (h.map .int),.str "steps",.lst []]=some (.str t)/\t≠"ok":=by
 have k:=A.ok.hi
 have i:vn [zI m a,.tup (h.map .int)]=some (.lst ((ziT m a h).map zd)):=by
  show(if (wB (zI m a)&&xE (Yi (zI m a)) (.tup (h.map .int)))=true then some (D.lst ((ziT (Yi (zI m a)) (XJ (zI m a)) ((h.map D.int).map zkn)).map zd))else none)=_
  rw[(xy _).mpr ⟨_,_,rfl,A.ok⟩,xJ,we,vQ A.len A.nn A.sum,xQ]
  rfl
 have b:∀ t∈ziT m a h,(0<=t.1/\t.1<m)/\(0<=t.2/\t.2<m):=λt e=>by
  have:=VI.mp (u01.mp e).1
  exact⟨this.1,this.2.1⟩
 have f:(ziT m a h).length<=64:=by
  refine r0 (List.length_filter_le _ _) ?_
  have:=vF A.ok m.toNat
  show(x6 m a m.toNat).length<=64
  omega
 obtain⟨t,g,j⟩:=zbU (L:=ziT m a h) (d:=.lst ((ziT m a h).map zd)) (s:=">") rfl (by omega) (λt e=>by have:=b t e;exact⟨by omega,by omega,by omega,by omega⟩) (λc l=>by revert c;decide) (by decide)
 refine⟨t,?_,j⟩
 refine Yp (ρ:=[.v (zI m a),.v (.tup (h.map .int)),.v (.str "steps"),.v (.lst [])]) rfl ?_
 unfold v8
 refine zw ((xx (tw false rfl)).trans rfl) (zw ((xx (tw false rfl)).trans rfl) (wH ?_))
 rw[Ye (tw true rfl)]
 exact vJ (yd (zq (ds:=[.lst ((ziT m a h).map zd),.str ">"]) (zf (zq (ds:=[zI m a,.tup (h.map .int)]) rfl i) (zf rfl zJ)) g)) rfl
def zfm (m:Int) (a:z0) (h:zC):Str:=Txt.replace (zeS m a h) "\n" " ; "
def zbD {h:zC} (A:xH m a h):wy [zI m a,.tup (h.map .int),.str "shown",.lst []]=some (.str (zfm m a h)):=by
 refine Yp (ρ:=[.v (zI m a),.v (.tup (h.map .int)),.v (.str "shown"),.v (.lst [])]) rfl ?_
 unfold v8
 refine zw ((xx (tw false rfl)).trans rfl) (zw ((xx (tw false rfl)).trans rfl) (zw ((xx (tw false rfl)).trans rfl) (zw ((xx (tw false rfl)).trans rfl) (zw ((xx (tw false rfl)).trans rfl) (zw ((xx (tw false rfl)).trans rfl) (zw ((xx (tw false rfl)).trans rfl) ?_))))))
 refine vJ (d:=.str (zfm m a h)) (yd ?_) rfl
 unfold zmE
 rw[zq (ds:=[zI m a,.tup (h.map .int)]) rfl (zjP A),j7]
 dsimp only
 rw[t7 (r0 A.short (by decide))]
 rfl
def zhj {h:zC} (A:xH m a h):yc [.obj (zI m a) (.tup (h.map .int)) b,.str "shown"]=some (.str (zfm m a h)) :=
 (zpG (x:="shown") (ns:=[]) (by kernel_rfl) (by kernel_rfl) (by kernel_rfl) (zbD A)).2
def xO:zz :=zK (zli xNo (sKs 3 (kDo 0 2 z4 (.str "ok") (za (zc 1) zj))) (zi3 [0,1,2,3,9,10] (fK [0,1,2,3,9,10]))) zD
def vy:SE->Option D:=(vEv true (zc 3))
def yE:KV:=λw h a b=>match b with
 | [row]=>if noL row=true then (z4 w h a [row]).map λr=>(.str "ok",r)else none
 | _=>none
def W7:∀ z w h ps i d c f b,yE w h ps i=some (d,c,f,b)->zm5 4 xO vy z w h ps i=some (d,c,f,⟨z,b⟩):=by
 intro z w h ps i d c f b e
 unfold yE at e
 split at e
 .rename_i a
  split at e
  .rename_i o
   obtain⟨⟨p,q,j⟩,k,l⟩:=t4.mp e
   cases l
   have m:xO [.k w h ⟨z,ps⟩,.v a,.no,.no]=.nx [.k c f ⟨z,b⟩,.v a,.no,.v (.str "ok")]:=by
    unfold xO
    refine vR (g:=zli _ _ _) (h:=zD) ?_
    show sKs 3 _ _=_
    unfold sKs
    have n:kDo 0 2 z4 (.str "ok") (za (zc 1) zj) [.k w h ⟨z,ps⟩,.v a,.no,.no]=some (.str "ok",[.k c f ⟨z,b⟩,.v a,.no,.no]):=zed (ds:=[a]) rfl rfl (by show(noL a&&true)=true;rw[o];rfl) rfl k
    rw[n]
    rfl
   show(match xO [.k w h ⟨z,ps⟩,.v a,.no,.no] with
    | .nx ρ=>(match (ρ:SE)[0]?,vy ρ with
     | some (Sl.k c f p'),some d=>some (d,c,f,p')
     | _,_=>none)
    | _=>none)=_
   rw[m]
   rfl
  .cases e
 .cases e
def V2 (T:Txt P w K mg base ad):xB P w K mg base CX0 12 (ad.f 41) (ad.e 41) (Rw 41).ps (@zrc ⟨K,ad.dk⟩ 2 yE):=by
 letI:KK:=⟨K,ad.dk⟩
 have H_kinds:=YZ T
 have a:∀ j,j∈[0,1,2,3,9,10]->j<13/\zbs K (ziS ad) ad.x_StoneError (clT ad j) j:=by
  intro j c
  simp only[q7,o5,u0J]at c
  rcases c with rfl | rfl | rfl | rfl | rfl | rfl
  .exact⟨by decide,.of T.y_NoWeb⟩
  .exact⟨by decide,.of T.y_NoKind⟩
  .exact⟨by decide,.of T.y_NoHeap⟩
  .exact⟨by decide,.of T.y_NoPlace⟩
  .exact⟨by decide,.of T.y_NoRow⟩
  .exact⟨by decide,.of T.y_NoSteps⟩
 have b:∀ (h:Nat->Option D) j d,zi3 [0,1,2,3,9,10] h j=some d->PySem.W.exmOne K (.ref (clT ad j)) (.ref ad.x_StoneError)=some true:=λh j d e=>by rw[ziO ad j];exact(a _ (zhG e)).2.exm
 have K_Desk_say:=XD T
 refine zrM (zlY (N:=(Rw 41).N) (ps:=(Rw 41).ps) (T.d 41).fn (sc 41) (g:=xO) (fv:=vy) λl A outer s H E k=>?_) W7
 unfold xO vy
 exact(zjb (zlG (i:=2) rfl rfl rfl (sc 41).nd rfl rfl rfl T.g_StoneError (λf W E0 m=>yf) (λf W=>(zG (zpM (i:=3) (sc 41).nd rfl (Or.inl rfl) (zfC T.dkc.cl T.mm_Desk_say (K_Desk_say.mono (by decide)) k T.mb_Desk_say (pv 0) (zb (edv 1) zg))))) (b _) (λok n=>(wO (Y7 (zd2 (E:=λ_ _ _=>False) H_kinds (k.mono (by decide)) rfl (T.d 38).at_ (T.d 38).kp (T.d 38).bd ok (zu (pv 2) yF))))) (zlj (zlM (zdE (ok:=_) (ziO ad) a)))) (zmk (edv 3)))
def yg (w h:D)(a b:zm):Bool:=match b with
 | [row]=>(match xv [row] with
  | some (.tup [.str x,.lst ns])=>if x="back" then !a.isEmpty else if (xW zN x).isSome=true then false else okB w h x ns
  | _=>false)
 | _=>false
def fam (x:Str)(ns:zm):Bool:=match ns with
 | [.int _,.int b]=>(decide (x="tie")||decide (x="cut")||decide (x="put")||decide (x="step"))&&decide (0<=b)
 | [.int a]=>(decide (x="web")&&decide (a=4))||(decide (x="row")&&decide (a=4))||(decide (x="star")&&decide (a=3))||(decide (x="ring")&&decide (a=2))
 | []=>decide (x="back")||decide (x="heap")||decide (x="steps")||decide (x="ties")
 | _=>false
def zmg (h:fam x [.int n]=true):Out s x [.int n]:=by
 unfold fam at h
 simp only[u0Z,j0,j9]at h
 rcases h with ((⟨rfl,rfl⟩ | ⟨rfl,rfl⟩) | ⟨rfl,rfl⟩) | ⟨rfl,rfl⟩
 .exact .inl ⟨by kernel_rfl,⟨4,[],[0,0,0,0]⟩,zab (by decide +kernel),by kernel_rfl⟩
 .exact .inl ⟨by kernel_rfl,⟨4,[(0,1),(1,2),(2,3)],[0,0,0,0]⟩,zab (by decide +kernel),by kernel_rfl⟩
 .exact .inl ⟨by kernel_rfl,⟨4,[(0,1),(0,2),(0,3)],[0,0,0,0]⟩,zab (by decide +kernel),by kernel_rfl⟩
 .exact .inr ⟨by kernel_rfl,1,by kernel_rfl,by decide⟩
def zmL {s:Sta}(A:s.Ok)(h:fam x [.int a,.int b]=true):Out s x [.int a,.int b]:=by
 unfold fam at h
 simp only[u0Z,j0,j9]at h
 obtain⟨h,c⟩:=h
 rcases h with ((rfl | rfl) | rfl) | rfl
 .exact zmH A
 .exact zmw A
 .exact zmG A c
 .exact zjR A
structure znF (r x:Str) (ns:zm):Prop where
 p:xv [.str r]=some (.tup [.str x,.lst ns])
 q:w4 [.str r]=none
 f:fam x ns=true
 b:r="back"↔x="back"
def zpI (d:D):Bool:=match d with
 | .str r=>(match xv [.str r],w4 [.str r] with
  | some (.tup [.str x,.lst ns]),none=>fam x ns&&(decide (r="back") == decide (x="back"))
  | _,_=>false)
 | _=>false
def zi4 {d:D}(h:zpI d=true):∃ r x ns,d=.str r/\znF r x ns:=by
 unfold zpI at h
 split at h
 .rename_i r
  split at h
  .rename_i x ns b a
   rw[j0,u0k]at h
   exact⟨r,x,ns,rfl,⟨b,a,h.1,by have:=h.2;constructor <;> intro z <;> simp_all⟩⟩
  .cases h
 .cases h
def zmY (d:D):Prop:=noL d=true/\x9 d (.str "ok")=some (.bl false)
def zkJ {s:Sta} {ps:zm} (A:s.Ok) (R:znF r x ns) (k:x≠"back") (E:ps.length<1000) :
 (yg s.wd s.d ps [.str r]=true/\∃ f:Sta,f.Ok/\yE s.wd s.d ps [.str r]=some (.str "ok",f.wd,f.d,ps++[s.p])) \/
 (yg s.wd s.d ps [.str r]=false/\∃ d,zmY d/\yJ [.obj s.wd s.d ps,.str r]=some d):=by
 have ask:∀ t:Str,ns=[]->(xW zN x).isSome=true->wy [s.wd,s.d,.str x,.lst []]=some (.str t)->t≠"ok"->yg s.wd s.d ps [.str r]=false/\∃ d,zmY d/\yJ [.obj s.wd s.d ps,.str r]=some d:=λt F i o v=>by
  subst F
  refine⟨?_,.str t,⟨rfl,by rw[yj,t8 v]⟩,?_⟩
  .unfold yg
   dsimp only
   rw[R.p]
   dsimp only
   rw[j6 k,t7 i]
  .obtain⟨z,C⟩:=zpG (ps:=ps) R.p R.q i o
   exact zpe z C
 have g:Out s x ns->(xW zN x).isSome=false->(yg s.wd s.d ps [.str r]=true/\∃ f:Sta,f.Ok/\yE s.wd s.d ps [.str r]=some (.str "ok",f.wd,f.d,ps++[s.p]))\/(yg s.wd s.d ps [.str r]=false/\∃ d,zmY d/\yJ [.obj s.wd s.d ps,.str r]=some d):=λO i=>by
  have p:yg s.wd s.d ps [.str r]=okB s.wd s.d x ns:=by
   unfold yg
   dsimp only
   rw[R.p]
   dsimp only
   rw[j6 k,j6 (by rw[i];exact u7)]
  rcases O with ⟨m,f,A',o⟩ | ⟨m,j,w,u⟩
  .refine .inl ⟨by rw[p,m],f,A',?_⟩
   unfold yE
   dsimp only
   rw[t7 (show noL (D.str r)=true from rfl),zqv R.p i k o (zds _ _) (zaI _) (zds _ _) (zaI _) E]
   rfl
  .refine .inr ⟨by rw[p,m],.int (j%16:Nat),⟨rfl,rfl⟩,zhu (zrX R.p R.q i k w) u⟩
 have c:=R.f
 cases ns with
 | nil =>
  unfold fam at c
  simp only[u0Z,j9]at c
  rcases c with ((rfl | rfl) | rfl) | rfl
  .exact absurd rfl k
  .obtain⟨t,e,n⟩:=zjw A
   exact .inr (ask t rfl (by kernel_rfl) e n)
  .obtain⟨t,e,n⟩:=zgb A
   exact .inr (ask t rfl (by kernel_rfl) e n)
  .obtain⟨t,e,n⟩:=zkg (h:=s.d) A.ok A.few
   exact .inr (ask t rfl (by kernel_rfl) e n)
 | cons l B =>
  cases B with
  | nil =>
   cases l with
   | int n =>
    refine g (zmg c) ?_
    unfold fam at c
    simp only[u0Z,j0,j9]at c
    rcases c with ((⟨rfl,_⟩ | ⟨rfl,_⟩) | ⟨rfl,_⟩) | ⟨rfl,_⟩ <;> kernel_rfl
   | _=>cases c
  | cons q y =>
   cases y with
   | nil =>
    cases l with
    | int a =>
     cases q with
     | int b =>
      refine g (zmL A c) ?_
      unfold fam at c
      simp only[u0Z,j0,j9]at c
      rcases c.1 with ((rfl | rfl) | rfl) | rfl <;> kernel_rfl
     | _=>cases c
    | _=>cases c
   | cons G H=>cases l <;> first | cases c | (cases q <;> cases c)
abbrev VV :=zK (xD false 1 (zo 2 Yb (za (zc 0) (za (eC (.int 0)) zj))))
  (zK (xD false 2 (eFn zcM (za (zh Zm (zh vB (zc 1) (eC (.int 64))) (eC (.int 4))) zj)))
  (zK (xD false 3 (eFn zcM (za (zh Zm (zh vB (zc 1) (eC (.int 256))) (eC (.int 5))) zj)))
  (zK (xD false 4 (xq (yi (za (eC (.str "web 4")) (za (eC (.str "row 4")) (za (zh yK (zh yK (zh yK (eC (.str "tie ")) (zc 2)) (eC (.str " "))) (zc 3)) (za (zh yK (zh yK (zh yK (eC (.str "tie ")) (zc 2)) (eC (.str " "))) (zc 3)) (za (zh yK (zh yK (zh yK (eC (.str "cut ")) (zc 2)) (eC (.str " "))) (zc 3)) (za (eC (.str "heap")) zj)))))))))
  (zK (xD false 4 (zh yK (zc 4) (xq (yi (za (zh yK (zh yK (eC (.str "put ")) (zc 2)) (eC (.str " 3"))) (za (zh yK (zh yK (zh yK (eC (.str "step ")) (zc 2)) (eC (.str " "))) (zc 3)) (za (eC (.str "back")) (za (eC (.str "back")) (za (eC (.str "steps")) (za (zh yK (zh yK (eC (.str "put ")) (zc 2)) (eC (.str " 300"))) zj))))))))))
  (zK (xD false 4 (zh yK (zc 4) (xq (yi (za (eC (.str "star 3")) (za (eC (.str "ring 2")) (za (eC (.str "back")) (za (eC (.str "ties")) zj))))))))
  (yr (zh ixD (zc 4) (zh Zm (zc 1) (eC (.int 16))))))))))
def Z7:=fnD 5 VV
def eR0:zU:=(xq (yi (za (eC (.str "web 4")) (za (eC (.str "row 4")) (za (zh yK (zh yK (zh yK (eC (.str "tie ")) (zc 2)) (eC (.str " "))) (zc 3)) (za (zh yK (zh yK (zh yK (eC (.str "tie ")) (zc 2)) (eC (.str " "))) (zc 3)) (za (zh yK (zh yK (zh yK (eC (.str "cut ")) (zc 2)) (eC (.str " "))) (zc 3)) (za (eC (.str "heap")) zj))))))))
def eR1:zU:=(xq (yi (za (zh yK (zh yK (eC (.str "put ")) (zc 2)) (eC (.str " 3"))) (za (zh yK (zh yK (zh yK (eC (.str "step ")) (zc 2)) (eC (.str " "))) (zc 3)) (za (eC (.str "back")) (za (eC (.str "back")) (za (eC (.str "steps")) (za (zh yK (zh yK (eC (.str "put ")) (zc 2)) (eC (.str " 300"))) zj))))))))
def eR2:zU:=(xq (yi (za (eC (.str "star 3")) (za (eC (.str "ring 2")) (za (eC (.str "back")) (za (eC (.str "ties")) zj))))))
def zo5 (f:zU)(k:Nat)(a b:Int):Bool:=match f [none,none,some (.str (nS a)),some (.str (nS b))] with
 | some (.lst l)=>(l.length == k)&&l.all zpI
 | _=>false
def zji:(List.range 4).all (λa=>(List.range 5).all λb=>zo5 eR0 6 (a:Int) (b:Int)&&zo5 eR1 6 (a:Int) (b:Int)&&zo5 eR2 4 (a:Int) (b:Int))=true:=by kernel_rfl
def V1 {f:zU}{k:Nat}(h:zo5 f k a b=true):∃ l,f [none,none,some (.str (nS a)),some (.str (nS b))]=some (.lst l)/\l.length=k/\l.all zpI=true:=by
 unfold zo5 at h
 split at h
 .rename_i l e
  rw[j0]at h
  exact⟨l,e,u0k.mp h.1,h.2⟩
 .cases h
def zmC {ds:zm}{i:Int}(h0:0<=i)(a:i<(ds.length:Int)):∃ d,L2.atI ds i=some d/\d∈ds:=by
 have e:L2.atI ds i=some (ds[i.toNat]'(by omega)):=zoP h0 (g5 (by omega))
 exact⟨_,e,u0S _⟩
def zix {a b:Int}(h:zc i ρ=some (.int n))(d:0<a)(c:a<1000)(e:0<b):zh Zm (zh vB (zc i) (eC (.int a))) (eC (.int b)) ρ=some (.int (n/a%b)) :=
 zF (x:=.int (n/a)) (y:=.int b) (zF (x:=.int n) (y:=.int a) h rfl (zeB d (by omega))) rfl (by rw[ZV e])
def zqW {a b:zm}(h:a.length+b.length<=1000):yK (.lst a) (.lst b)=some (.lst (a++b)):=ZS h
def zpH (c:Int):∃ r x ns,Z7 [.int c]=some (.str r)/\znF r x ns:=by
 obtain⟨n,F⟩:∃ n,zrF c 0=n:=⟨_,rfl⟩
 obtain⟨a,o⟩:∃ a,n/64%4=a:=⟨_,rfl⟩
 obtain⟨b,q⟩:∃ b,n/256%5=b:=⟨_,rfl⟩
 obtain⟨s,G⟩:=zez (by decide) o
 obtain⟨z,b1⟩:=zez (by decide) q
 have h:=p4.mp (p4.mp zji a.toNat (u0r.mpr (by omega))) b.toNat (u0r.mpr (by omega))
 rw[show((a.toNat:Nat):Int)=a by omega,show((b.toNat:Nat):Int)=b by omega,j0,j0]at h
 obtain⟨f,E,l,A⟩:=V1 h.1.1
 obtain⟨g,B,k,v⟩:=V1 h.1.2
 obtain⟨j,C,p,D⟩:=V1 h.2
 have w:(f++g++j).length=16:=by
  rw[j4,j4,l,k,p]
 have t:(f++g++j).all zpI=true:=by
  rw[List.all_append,List.all_append,A,v,D]
  rfl
 obtain⟨d,e,m⟩:=zmC (ds:=f++g++j) (i:=n%16) (u22 _ (by decide)) (by rw[w];exact u2r _ (by decide))
 obtain⟨r,x,ns,rfl,R⟩:=zi4 (p4.mp t d m)
 refine⟨r,x,ns,?_,R⟩
 have u:Yb [.int c,.int 0]=some (.int n):=by rw[<-F];rfl
 refine Yp (ρ:=[.v (.int c),.no,.no,.no,.no]) rfl ?_
 unfold VV
 refine zw (wg (σ':=[.v (.int c),.v (.int n),.no,.no,.no]) (zq (ds:=[.int c,.int 0]) rfl u)) ?_
 refine zw (wg (σ':=[.v (.int c),.v (.int n),.v (.str (nS a)),.no,.no]) (Xb (ds:=[.int a]) (zf (by rw[zix (i:=1) rfl (by decide) (by decide) (by decide),o]) zJ) (Vh s (by omega)))) ?_
 refine zw (wg (σ':=[.v (.int c),.v (.int n),.v (.str (nS a)),.v (.str (nS b)),.no]) (Xb (ds:=[.int b]) (zf (by rw[zix (i:=1) rfl (by decide) (by decide) (by decide),q]) zJ) (Vh z (by omega)))) ?_
 refine zw (wg (σ':=[.v (.int c),.v (.int n),.v (.str (nS a)),.v (.str (nS b)),.v (.lst f)]) (show eR0 [some (.int c),some (.int n),some (.str (nS a)),some (.str (nS b)),none]=_ from E)) ?_
 refine zw (wg (σ':=[.v (.int c),.v (.int n),.v (.str (nS a)),.v (.str (nS b)),.v (.lst (f++g))]) (zF (x:=.lst f) (y:=.lst g) rfl (show eR1 [some (.int c),some (.int n),some (.str (nS a)),some (.str (nS b)),some (.lst f)]=_ from B) (zqW (by rw[l,k];decide)))) ?_
 refine zw (wg (σ':=[.v (.int c),.v (.int n),.v (.str (nS a)),.v (.str (nS b)),.v (.lst (f++g++j))]) (zF (x:=.lst (f++g)) (y:=.lst j) rfl (show eR2 [some (.int c),some (.int n),some (.str (nS a)),some (.str (nS b)),some (.lst (f++g))]=_ from C) (zqW (by rw[j4,l,k,p];decide)))) ?_
 exact vJ (yd (zF (x:=.lst (f++g++j)) (y:=.int (n%16)) rfl (zF (x:=.int n) (y:=.int 16) rfl rfl (by rw[ZV (by decide)])) e)) rfl
def zcH (T:Txt P w K mg base ad):T.Pr 42 2 1 Z7:=by
 have:=zbE T
 walk_at "p"
abbrev zad :=zK (zpf (zoR neD (kDo 1 2 z4 (.str "ok") (za (eC (.str "back")) zj)) (kEd (eC (.str "ok")))) (yr (eC (.bl false))) zD)
  (zK (zj3 2)
  (sIf (tOf (zh neD (zfz 2 yc (zc 1) (za (eC (.str "shown")) zj)) (zh ixD (zc 2) (eUn ZT (eC (.int 1)))))) (yr (eC (.bl false))) zD))
abbrev zan :=zK (xD false 4 (zo 1 Z7 (za (zc 3) zj)))
  (zK (sKs 5 (zmf 1 yg (za (zc 4) zj) (zqb 1 2 yE (za (zc 4) zj)) (kEd (zo 2 yJ (za (zc 1) (za (zc 4) zj))))))
  (zK (sIf (tOf (zh x9 (zc 4) (eC (.str "back")))) (zK (sIf (yn (tOf (zo 2 vZ (za (zc 5) (za (zh ixD (xq (yi (za (eC (.str "ok")) (za (eC (.int 9)) zj)))) (eFn zqJ (za (zh x9 (eFn Yz (za (zc 2) zj)) (eC (.int 1))) zj))) zj))))) (yr (eC (.bl false))) zD)
  (zeI 2 (zqU zjq (eSl slD (zc 2) wo (xm (eC (.int 1)))) (eSl slD (zc 2) (xm (eC (.int 1))) (xm (eUn ZT (eC (.int 1)))))))) (sIf (tOf (zh x9 (zc 5) (eC (.str "ok")))) (Vm true 2 (zfz 2 yc (zc 1) (za (eC (.str "shown")) zj))) zD))
  (sIf (tOf (zh neD (zfz 2 yc (zc 1) (za (eC (.str "shown")) zj)) (zh ixD (zc 2) (eUn ZT (eC (.int 1)))))) (yr (eC (.bl false))) zD)))
abbrev zkT :=zK (zmV 1)
  (zK (zeI 2 (yi (za (zfz 2 yc (zc 1) (za (eC (.str "shown")) zj)) zj)))
  (zK (XG (iOf (zh yK (zh yK (xq (yi (za (eC (.int 1)) (za (eC (.int 2)) (za (eC (.int 3)) zj))))) (eSl slD (zc 0) wo (xm (eC (.int 24))))) (xq (yi (za (eC (.int 0)) (za (eC (.int 5)) (za (eC (.int 6)) zj))))))) (wc 3) zan)
  (zK (vI Zl (za (zh WT (eFn Yz (za (zc 2) zj)) (eC (.int 1))) zj) (wc 6) zad)
  (sFz 2 (yr (YR (zh x9 (zo 2 yJ (za (zc 1) (za (eC (.str "back")) zj))) (eC (.int 9))) (zh x9 (zfz 2 yc (zc 1) (za (eC (.str "shown")) zj)) (eC (.str "web 1 ; heap 0")))))))))
def zpN:=fnD 7 zkT
def txt (s:Sta):D:=.str (zfm s.m s.ts s.h)
def s0:Sta:=⟨1,[],[0]⟩
def znB:s0.Ok:=zab (by decide +kernel)
def znR:L2.atI (a++[y]) (-1)=some y:=by
 unfold L2.atI L2.ixN
 rw[j4,j6 (by decide),t7 (by show -(((a.length+1:Nat):Nat):Int)<=-1;omega)]
 show(a++[y])[(-1+((a.length+1:Nat):Int)).toNat]?=_
 rw[show(-1+((a.length+1:Nat):Int)).toNat=a.length by omega,o7 (t6 _),Nat.sub_self]
 rfl
def znN {r:zm}:Y1 (x::r) none (some 1)++Y1 (x::r) (some 1) (some (-1))=x::r.dropLast:=by
 have d:Y1 (x::r) none (some 1)=[x]:=zbl (x::r) 1
 have a:Y1 (x::r) (some 1) (some (-1))=r.dropLast:=by
  unfold Y1
  have b:HT.sIx (x::r).length 0 (some 1)=1:=by
   rw[show(some (1:Int))=some ((1:Nat):Int)from rfl,HT.sIx_nat,k7]
   omega
  have c:HT.sIx (x::r).length (x::r).length (some (-1))=r.length:=by
   have:=HT.clip_eq (-1) (x::r).length (x::r).length
   rw[k7]at this ⊢
   rw[t7 (by decide)]at this
   omega
  rw[b,c,u2a,u3b,List.dropLast_eq_take]
 rw[d,a]
 rfl
def zcQ {f:yx}{ρ:SE}(h:f (visG ρ)=some ds)(b:zep ds=true)(a:ρ.set i (.o ds)=ρ':=by rfl):zeI i f ρ=.nx ρ':=by
 unfold zeI
 rw[h]
 dsimp only
 rw[t7 b,a]
def zkI (Ss:List Sta):zep (Ss.map txt)=true:=by
 induction Ss with
 | nil=>rfl
 | cons s r a=>exact a
def sh {s:Sta} (A:s.Ok) (e:zc 1 ρ=some (.obj s.wd s.d ps)):zfz 2 yc (zc 1) (za (eC (.str "shown")) zj) ρ=some (txt s):=by
 unfold zfz
 rw[e,j7]
 show((some [D.str "shown"]).bind λds=>if ds.length+1=2 then yc (.obj s.wd s.d ps::ds)else none)=_
 rw[j7,t7 (show [D.str "shown"].length+1=2 from rfl)]
 exact zhj A
structure zcT (Ss:List Sta) (c:Sta):Prop where
 all:∀ s∈Ss++[c],s.Ok
 first:(Ss++[c]).head?=some s0
def zcT.now {c:Sta}(G:zcT Ss c):c.Ok:=G.all c (o0 _ (j5.mpr rfl))
def zcT.add {s:Sta}(G:zcT Ss c)(A:s.Ok):zcT (Ss++[c]) s:=by
 refine⟨λx a=>?_,?_⟩
 .rcases u0t.mp a with h | h
  .exact G.all x h
  .rw[j5.mp h];exact A
 .have:=G.first
  cases Ss with
  | nil=>exact this
  | cons y r=>exact this
def zcT.less (G:zcT (Ss++[s]) c):zcT Ss s:=by
 refine⟨λx a=>G.all x (u06 _ a),?_⟩
 have:=G.first
 cases Ss with
 | nil=>exact this
 | cons y r=>exact this
def stD (ns:zC)(Ss:List Sta)(c:Sta)(b d a e:Sl):SE:=[.v (.scr ns),.k c.wd c.d ⟨none,Ss.map Sta.p⟩,.o ((Ss++[c]).map txt),b,d,a,e]
def zkV (h:zc 2 ρ=some (.lst ((Ss++[c]).map txt))):zh ixD (zc 2) (eUn ZT (eC (.int 1))) ρ=some (txt c):=by
 refine zF (y:=.int (-1)) h rfl ?_
 rw[r9]
 exact znR
def zg5 (x:Str):neD (.str x) (.str x)=some (.bl false):=by
 show some (D.bl (!decide (x=x)))=_
 rw[q0 rfl]
 rfl
def Vd {d f:Sl} {g:zz} (G:zcT Ss c):sIf (tOf (zh neD (zfz 2 yc (zc 1) (za (eC (.str "shown")) zj)) (zh ixD (zc 2) (eUn ZT (eC (.int 1)))))) g zD (stD ns Ss c a e d f)=.nx (stD ns Ss c a e d f) :=
 (xx (yS (b:=false) (zF (x:=txt c) (y:=txt c) (sh (ps:=Ss.map Sta.p) G.now rfl) (zkV (Ss:=Ss) rfl) (zg5 _)))).trans rfl
def zrV (s:Sta):noL s.d=true:=zaI _
def zrL (s:Sta):noL s.wd=true:=zds _ _
def zfQ {Ss:List Sta} {s c:Sta}:z4 c.wd c.d ((Ss++[s]).map Sta.p) [.str "back"]=some (s.wd,s.d,Ss.map Sta.p):=by
 rw[r9]
 exact zk1 (zrL s) (zrV s)
def znt:vZ [.str "ok",.str "ok"]=some (.bl true):=by kernel_rfl
def zqz:vZ [.int 9,.int 9]=some (.bl true):=by kernel_rfl
def zln {n:Nat} {xs:zm} (h:zc 2 ρ=some (.lst xs)) (b:xs.length=n+1):zh ixD (xq (yi (za (eC (.str "ok")) (za (eC (.int 9)) zj)))) (eFn zqJ (za (zh x9 (eFn Yz (za (zc 2) zj)) (eC (.int 1))) zj)) ρ=some (if n=0 then .int 9 else .str "ok"):=by
 have a:zh x9 (eFn Yz (za (zc 2) zj)) (eC (.int 1)) ρ=some (.bl (decide (n=0))):=by
  refine zF (x:=.int (xs.length:Nat)) (y:=.int 1) (Xb (ds:=[.lst xs]) (zf h zJ) rfl) rfl ?_
  rw[yL,b]
  congr 2
  by_cases z:n=0
  .rw[q0 z,q0 (by omega)]
  .rw[t8 z,t8 (by omega)]
 by_cases z:n=0
 .rw[t7 z]
  rw[q0 z]at a
  exact zF (x:=.lst [.str "ok",.int 9]) (y:=.int 1) rfl (Xb (ds:=[.bl true]) (zf a zJ) rfl) rfl
 .rw[j6 z]
  rw[t8 z]at a
  exact zF (x:=.lst [.str "ok",.int 9]) (y:=.int 0) rfl (Xb (ds:=[.bl false]) (zf a zJ) rfl) rfl
def selT {i:Nat}{c:D->D->zm->zm->Bool}{a:yx}{f g:SE->Option (D × SE)}{w:D}{p:Pst}(e:ρ[i]?=some (.k w h p))(d:a (visG ρ)=some ds)(b:c w h p.l ds=true):zmf i c a f g ρ=f ρ:=by
 unfold zmf
 rw[e]
 dsimp only
 rw[d]
 dsimp only
 rw[t7 b]
def selF {i:Nat}{c:D->D->zm->zm->Bool}{a:yx}{f g:SE->Option (D × SE)}{w:D}{p:Pst}(e:ρ[i]?=some (.k w h p))(d:a (visG ρ)=some ds)(b:c w h p.l ds=false):zmf i c a f g ρ=g ρ:=by
 unfold zmf
 rw[e]
 dsimp only
 rw[d]
 dsimp only
 rw[j6 (by rw[b];exact u7)]
def ziH {i n:Nat}{R:KV}{d w f:D}{ds:zm}{g:yx}{ρ:SE}(e:ρ[i]?=some (.k w h ⟨z,c⟩))(l:g (visG ρ)=some ds)(o:zep ds=true)(k:ds.length+1=n)(m:R w h c ds=some (d,b,f,a))(j:ρ.set i (.k b f ⟨z,a⟩)=ρ':=by rfl):zqb i n R g ρ=some (d,ρ'):=by
 unfold zqb
 rw[e]
 dsimp only
 rw[l,j7,t7 ⟨o,k⟩,m,<- j]
 rfl
def zke {f:SE->Option (D × SE)}{a:SE}{d:D}(h:f ρ=some (d,a))(b:a.set i (.v d)=ρ':=by rfl):sKs i f ρ=.nx ρ':=by
 unfold sKs
 rw[h,<- b]
def zgl {f:zU}{d:D}(h:f (visG ρ)=some d)(a:noL d=true):kEd f ρ=some (d,ρ):=by
 unfold kEd
 rw[vG h a]
 rfl
def zci {r:zm}(h:zc 2 ρ=some (.lst (x::r)))(e:r.length<400):zqU zjq (eSl slD (zc 2) wo (xm (eC (.int 1)))) (eSl slD (zc 2) (xm (eC (.int 1))) (xm (eUn ZT (eC (.int 1))))) ρ=some (x::r.dropLast):=by
 have c:eSl slD (zc 2) wo (xm (eC (.int 1))) ρ=some (.lst (Y1 (x::r) none (some 1))):=zec h rfl rfl rfl
 have a:eSl slD (zc 2) (xm (eC (.int 1))) (xm (eUn ZT (eC (.int 1)))) ρ=some (.lst (Y1 (x::r) (some 1) (some (-1)))):=zec h rfl rfl rfl
 unfold zqU
 rw[c,j7,a,j7]
 show(if lim ((Y1 (x::r) none (some 1)).length+(Y1 (x::r) (some 1) (some (-1))).length)=true then some (Y1 (x::r) none (some 1)++Y1 (x::r) (some 1) (some (-1)))else none)=_
 rw[t7 (vc ?_),znN]
 have d:=zaC (x::r) none (some 1)
 have b:=zaC (x::r) (some 1) (some (-1))
 rw[k7]at d b
 omega
def zmz {Ss:List Sta}{w:Sl}{I:Z4}(G:zcT Ss c)(Q:Ss.length<300)(p:∀ Ss' F w j,zcT Ss' F->Ss'.length<=Ss.length+1->I (stD ns Ss' F (.v (.int z)) w j a)):(zan (stD ns Ss c (.v (.int z)) w j a)).w I b n r:=by
 obtain⟨f,x,S,O,R⟩:=zpH z
 unfold zan
 refine zw (ρ':=stD ns Ss c (.v (.int z)) (.v (.str f)) j a) (wg (zq (ds:=[.int z]) rfl O)) ?_
 have B:(Ss.map Sta.p).length<1000:=by rw[u9];omega
 by_cases E:x="back"
 .have i:f="back":=R.b.mpr E
  subst i
  have o:∀ l:zm,yg c.wd c.d l [.str "back"]=!l.isEmpty:=λl=>by
   unfold yg
   dsimp only
   rw[Zf]
   dsimp only
   rw[t7 rfl]
  rcases List.eq_nil_or_concat Ss with e | ⟨Sp,s,e⟩
  . -- nothing behind
    subst e
    have N:yJ [.obj c.wd c.d [],.str "back"]=some (.int 9):=zhu VJ (by decide)
    refine zw (ρ':=stD ns [] c (.v (.int z)) (.v (.str "back")) (.v (.int 9)) a) (zke ((selF rfl rfl (o [])).trans (zgl (zq (ds:=[.obj c.wd c.d [],.str "back"]) rfl N) rfl))) ?_
    refine zw (ρ':=stD ns [] c (.v (.int z)) (.v (.str "back")) (.v (.int 9)) a) ((Ye (tw true rfl)).trans ((vR ((xx (h:=zD) (xT (b:=true) (yS (zq (ds:=[.int 9,.int 9]) (zf rfl (zf (zln (n:=0) (xs:=[txt c]) rfl rfl) zJ)) zqz)))).trans rfl)).trans (zcQ (zci (x:=txt c) (r:=[]) rfl (by decide)) rfl))) ?_
    exact zcx (Vd G) (p _ _ _ _ G (u1g _))
  .rw[List.concat_eq_append]at e
   subst e
   have C:yE c.wd c.d ((Sp++[s]).map Sta.p) [.str "back"]=some (.str "ok",s.wd,s.d,Sp.map Sta.p):=by
    unfold yE
    dsimp only
    rw[t7 (show noL (D.str "back")=true from rfl),zfQ]
    rfl
   have A:(!((Sp++[s]).map Sta.p).isEmpty)=true:=by
    cases Sp <;> rfl
   obtain⟨y,t,g⟩:∃ y t,((Sp++[s])++[c]).map txt=y::t:=by
    cases Sp with
    | nil=>exact⟨_,_,rfl⟩
    | cons q Sp=>exact⟨_,_,rfl⟩
   have u:t.length=Sp.length+1:=by
    have:=u0x List.length g
    simp only[u9,j4,k7,u1p]at this
    omega
   have m:y::t.dropLast=(Sp++[s]).map txt:=by
    have M:(y::t).dropLast=y::t.dropLast:=List.dropLast_cons_of_ne_nil (λz=>by rw[z]at u;cases u)
    rw[<-M,<- g,r9,show [c].map txt=[txt c]from rfl,u0j]
   have H:∀ j:Sl,zc 2 (visG [.v (.scr ns),.k s.wd s.d ⟨none,Sp.map Sta.p⟩,.o (((Sp++[s])++[c]).map txt),.v (.int z),.v (.str "back"),j,a])=some (.lst (y::t)):=λj=>by rw[g];rfl
   refine zw (ρ':=[.v (.scr ns),.k s.wd s.d ⟨none,Sp.map Sta.p⟩,.o (((Sp++[s])++[c]).map txt),.v (.int z),.v (.str "back"),.v (.str "ok"),a]) (zke ((selT rfl rfl ((o _).trans A)).trans (ziH (ds:=[.str "back"]) rfl rfl rfl rfl C))) ?_
   refine zw (ρ':=stD ns Sp s (.v (.int z)) (.v (.str "back")) (.v (.str "ok")) a) ((Ye (tw true rfl)).trans ((vR ((xx (h:=zD) (xT (b:=true) (yS (zq (ds:=[.str "ok",.str "ok"]) (zf rfl (zf (zln (n:=Sp.length+1) (xs:=y::t) (H _) (by rw[k7,u])) zJ)) znt)))).trans rfl)).trans (zcQ (zci (H _) (by rw[j4]at Q;omega)) (by rw[m];exact zkI _) (by rw[m];rfl)))) ?_
   exact zcx (Vd G.less) (p _ _ _ _ G.less (by rw[j4];omega))
 .have i:f≠"back":=λz=>E (R.b.mp z)
  have J:∀ ρ:SE,zc 4 (visG ρ)=some (.str f)->tOf (zh x9 (zc 4) (eC (.str "back"))) (visG ρ)=some false:=fun ρ e=>tw false e (t8 i)
  rcases zkJ (ps:=Ss.map Sta.p) G.now R E B with ⟨v,k,A',C⟩ | ⟨v,d,m,K⟩
  .have G':=G.add A'
   refine zw (ρ':=[.v (.scr ns),.k k.wd k.d ⟨none,Ss.map Sta.p++[c.p]⟩,.o ((Ss++[c]).map txt),.v (.int z),.v (.str f),.v (.str "ok"),a]) (zke ((selT rfl rfl v).trans (ziH (ds:=[.str f]) rfl rfl rfl rfl C))) ?_
   refine zw (ρ':=stD ns (Ss++[c]) k (.v (.int z)) (.v (.str f)) (.v (.str "ok")) a) ((xx (J _ rfl)).trans ((Ye (tw true rfl)).trans ?_)) ?_
   .have L:(Ss++[c]).map Sta.p=Ss.map Sta.p++[c.p]:=by rw[r9];rfl
    have P:((Ss++[c])++[k]).map txt=(Ss++[c]).map txt++[txt k]:=by rw[r9 (l₁:=Ss++[c])];rfl
    refine(zlN (ds:=(Ss++[c]).map txt) (d:=txt k) (vG (sh (ps:=Ss.map Sta.p++[c.p]) A' rfl) rfl) rfl (by rw[u9,j4];show Ss.length+1<=1000;omega)).trans ?_
    unfold stD
    rw[L,P]
    rfl
   .exact zcx (Vd G') (p _ _ _ _ G' (by rw[j4];exact t6 _))
  .refine zw (ρ':=stD ns Ss c (.v (.int z)) (.v (.str f)) (.v d) a) (zke ((selF rfl rfl v).trans (zgl (zq (ds:=[.obj c.wd c.d (Ss.map Sta.p),.str f]) rfl K) m.1))) ?_
   refine zw (ρ':=stD ns Ss c (.v (.int z)) (.v (.str f)) (.v d) a) ((xx (J _ rfl)).trans ((xx (yS (b:=false) (zF (x:=d) (y:=.str "ok") rfl rfl m.2))).trans rfl)) ?_
   exact zcx (Vd G) (p _ _ _ _ G (u1g _))
def zoQ {f:SE->Option (D × SE)}{g h:zz}(e:f ρ=some (.bl false,ρ')):zpf f g h ρ=h ρ':=by
 unfold zpf
 rw[e]
def zpa {Sp:List Sta}{f g:Sl}{I:Z4}(G:zcT (Sp++[s]) c)(i:I (stD ns Sp s a f e g)):(zad (stD ns (Sp++[s]) c a f e g)).w I b n r:=by
 unfold zad
 have k:kDo 1 2 z4 (.str "ok") (za (eC (.str "back")) zj) (stD ns (Sp++[s]) c a f e g)=some (.str "ok",[.v (.scr ns),.k s.wd s.d ⟨none,Sp.map Sta.p⟩,.o (((Sp++[s])++[c]).map txt),a,f,e,g]):=zed (ds:=[.str "back"]) rfl rfl rfl rfl zfQ
 have l:zoR neD (kDo 1 2 z4 (.str "ok") (za (eC (.str "back")) zj)) (kEd (eC (.str "ok"))) (stD ns (Sp++[s]) c a f e g)=some (.bl false,[.v (.scr ns),.k s.wd s.d ⟨none,Sp.map Sta.p⟩,.o (((Sp++[s])++[c]).map txt),a,f,e,g]):=by
  unfold zoR
  rw[k,j7]
  dsimp only
  rw[zgl (d:=.str "ok") rfl rfl,j7,t7 (show noL (D.str "ok")=true/\noL (D.str "ok")=true from⟨rfl,rfl⟩),zg5,j7,t7 (show noL (D.bl false)=true from rfl)]
 refine zw (ρ':=[.v (.scr ns),.k s.wd s.d ⟨none,Sp.map Sta.p⟩,.o (((Sp++[s])++[c]).map txt),a,f,e,g]) ((zoQ (h:=zD) l).trans rfl) ?_
 refine zw (ρ':=stD ns Sp s a f e g) ?_ (zcx (Vd G.less) i)
 have j:((Sp++[s])++[c]).map txt=(Sp++[s]).map txt++[txt c]:=by rw[r9 (l₁:=Sp++[s])];rfl
 rw[j]
 unfold zj3
 show(match ((Sp++[s]).map txt++[txt c]).getLast? with
  | some _=>Ctl.nx (([.v (.scr ns),.k s.wd s.d ⟨none,Sp.map Sta.p⟩,.o ((Sp++[s]).map txt++[txt c]),a,f,e,g]:SE).set 2 (.o ((Sp++[s]).map txt++[txt c]).dropLast))
  | none=>.no)=_
 rw[u1Z,u0j]
 rfl
def rngE {j:Int}{f:zU}(h:f ρ=some (.int j))(h0:0<=j)(a:j<=999):(za f zj ρ).bind Zl=some (VY 0 j.toNat):=by
 rw[show za f zj ρ=some [.int j]from zf h zJ,j7,ze6 h0 (by omega)]
def zpZ {xs:zm}{j:Int}(h:zc 2 ρ=some (.lst xs))(a:(xs.length:Int)=j+1):zh WT (eFn Yz (za (zc 2) zj)) (eC (.int 1)) ρ=some (.int j):=by
 refine zF (x:=.int (xs.length:Nat)) (y:=.int 1) (Xb (ds:=[.lst xs]) (zf h zJ) rfl) rfl ?_
 show some (D.int ((xs.length:Nat)-1))=_
 rw[show((xs.length:Nat):Int)-1=j by omega]
def zrf:zfm 1 [] [0]="web 1 ; heap 0":=by decide +kernel
def G0:zcT [] s0:=⟨λs a=>by rw[j5.mp a];exact znB,rfl⟩
def zjC (ns:zC)(h:ns.length<=63):zpN [.scr ns]=some (.bl true):=by
 refine Yp (ρ:=[.v (.scr ns),.no,.no,.no,.no,.no,.no]) rfl ?_
 unfold zkT
 refine zw (ρ':=[.v (.scr ns),.k w0 h0 ⟨none,[]⟩,.no,.no,.no,.no,.no]) rfl ?_
 refine zw (ρ':=stD ns [] s0 .no .no .no .no) (zcQ (ds:=[txt s0]) (Z0 (zf (sh (ps:=[]) znB rfl) zJ) (by show 1<=1000;decide)) rfl) ?_
 obtain⟨k,m⟩:∃ k:zC,([1,2,3]++Y1 ns none (some 24))++[0,5,6]=k:=⟨_,rfl⟩
 have r:=zaC ns none (some 24)
 have H:k.length<=69:=by
  rw[<-m,j4,j4]
  show 3+(Y1 ns none (some 24)).length+3<=69
  omega
 refine wH (zks (ds:=k.map .int) (λi ρ=>∃ Ss c g f a,zcT Ss c/\Ss.length<=i/\ρ=stD ns Ss c g f a .no) ?_ ⟨[],s0,_,_,_,G0,t6 _,rfl⟩ ?_ ?_)
 .refine VB (d:=.lst (k.map .int)) (zF (x:=.lst (([1,2,3]++Y1 ns none (some 24)).map D.int)) (y:=.lst [.int 0,.int 5,.int 6]) (zF (x:=.lst [.int 1,.int 2,.int 3]) (y:=.lst ((Y1 ns none (some 24)).map D.int)) rfl rfl ?_) rfl ?_) rfl
  .rw[zqW (by rw[u9];show 3+_<=1000;omega),r9]
   rfl
  .rw[zqW (by rw[u9,j4];show 3+_+3<=1000;omega),<- m,r9 (l₁:=[1,2,3]++Y1 ns none (some 24))]
   rfl
 .rintro i d ρ q ⟨Ss,c,g,f,a,G,p,rfl⟩
  rw[k9]at q
  obtain⟨z,u,rfl⟩:=t4.mp q
  have F:=(j3.mp u).1
  exact⟨stD ns Ss c (.v (.int z)) f a .no,rfl,zmz G (by omega) λSs' v f a G' w=>⟨Ss',v,_,_,_,G',by omega,rfl⟩⟩
 .rintro ρ ⟨Ss,c,g,f,a,G,p,rfl⟩
  rw[u9]at p
  have C:(za (zh WT (eFn Yz (za (zc 2) zj)) (eC (.int 1))) zj (visG (stD ns Ss c g f a .no))).bind Zl=some (VY 0 Ss.length):=by
   obtain⟨j,I⟩:∃ j:Int,(Ss.length:Int)=j:=⟨_,rfl⟩
   rw[rngE (zpZ (xs:=(Ss++[c]).map txt) (j:=j) rfl (by rw[u9,j4];show((Ss.length+1:Nat):Int)=j+1;omega)) (by omega) (by omega),show j.toNat=Ss.length by omega]
  refine wH (zlU (lo:=0) (c:=Ss.length) (λi ρ=>∃ Sp l o,zcT Sp l/\Sp.length+i=Ss.length/\ρ=stD ns Sp l g f a o) C ⟨Ss,c,_,G,rfl,rfl⟩ ?_ ?_)
  .rintro i ρ E ⟨Sp,l,o,Gp,n,rfl⟩
   rcases List.eq_nil_or_concat Sp with e | ⟨Sq,s,e⟩
   .subst e
    have:([]:List Sta).length=0:=rfl
    omega
   .rw[List.concat_eq_append]at e
    subst e
    rw[j4]at n
    have:[s].length=1:=rfl
    exact⟨stD ns (Sq++[s]) l g f a (.v (.int (0+(i:Int)))),rfl,zpa Gp ⟨Sq,s,_,Gp.less,by omega,rfl⟩⟩
  .rintro ρ ⟨Sp,l,o,Gp,n,rfl⟩
   have B:Sp=[]:=u0g.mp (by omega)
   subst B
   have t:l=s0:=o4 Gp.first
   subst t
   have A:yJ [.obj s0.wd s0.d [],.str "back"]=some (.int 9):=zhu VJ (by decide)
   refine zqQ rfl (vJ (d:=.bl true) (yd ?_) rfl)
   refine zpm (b:=true) (c:=true) (zF (x:=.int 9) (y:=.int 9) (zq (ds:=[.obj s0.wd s0.d [],.str "back"]) rfl A) rfl rfl) (zF (x:=txt s0) (y:=.str "web 1 ; heap 0") (sh (ps:=[]) znB rfl) rfl ?_)
   show x9 (.str (zfm 1 [] [0])) (.str "web 1 ; heap 0")=_
   rw[zrf,yj,q0 rfl]
def zqg (T:Txt P w K mg base ad):xB P w K mg base CX0 40 (ad.f 43) (ad.e 43) (Rw 43).ps (zgt K):=by
 letI:KK:=⟨K,ad.dk⟩
 have G__law_same:=zcn T
 have G__law_said:=zcp T
 have V__law_said:=V2 T
 have G__law_row:=zcH T
 have G_Desk_say:=W8 T
 have K_Desk_say:=XD T
 have I_init:=ziY T
 refine(zqp (p:=zpN) (Vo (N:=(Rw 43).N) (ps:=(Rw 43).ps) (T.d 43).fn (sc 43) (g:=zkT) λd A outer s H E c=>?_) zjC).mono (j:=13) (by decide)
 unfold zkT zan zad
 exact(zA (znf (i:=1) T.mkd (I_init.mono (by decide)) c rfl T.g_Desk T.mb_Desk___init__ (sc 43).nd rfl (Or.inl rfl))
  (zA (zgc (i:=2) (sc 43).nd rfl (Or.inl rfl) (vl (zb (VN T.dkc.cl T.mm_Desk_say (G_Desk_say.mono (by decide)) c T.mb_Desk_say (edv 1) (zb (zQ zO) zg)) zg)))
  (zA (zlz u2e rfl (WZ (Vz (Vz (YW (vl (zb (zt zr) (zb (zt zr) (zb (zt zr) zg))))) (YI (edv 0) Vb (Ze (zt zr)))) (YW (vl (zb (zt zr) (zb (zt zr) (zb (zt zr) zg))))))) (Zb (xF (i:=3) (sc 43).nd rfl (Or.inl rfl))) (zA (wJ (m:=false) (i:=4) (sc 43).nd rfl (Or.inl rfl) (zy G__law_row c rfl (T.d 42) (zb (edv 3) zg)))
  (zA (zpM (i:=5) (sc 43).nd rfl (Or.inl rfl) (zpK (zjV (V__law_said.mono (by decide)) c rfl (T.d 41).at_ (T.d 41).kp (T.d 41).bd (pv 1) (zb (edv 4) zg)) (zoY (zy G__law_said c rfl (T.d 41) (zb (edv 1) (zb (edv 4) zg))))))
  (zA (xM (zS (yy c) zZ (z5 _) (edv 4) (zQ zO)) (zA (xM (wl (wD (zy G__law_same c rfl (T.d 40) (zb (edv 5) (zb (yh (YW (vl (zb (zQ zO) (zb (zt zr) zg)))) (vP zf9 zjn rfl (T.z "int" (by decide)) zdJ (zb (Y0 (yy c) zZ (z5 _) (yM yH vX rfl (T.z "len" (by decide)) Yo (zb (edv 2) zg)) (zt zr)) zg)) (λ_ _=>rfl)) zg))))) (zG (y8 (zfa zbm))) zY)
  (zG (zgc (i:=2) (sc 43).nd rfl (Or.inl rfl) (zoE (YI (edv 2) Vb (Ze (zt zr))) (YI (edv 2) (Ze (zt zr)) (Ze (XC (zt zr)))))))) (zG (xM (zS (yy c) zZ (z5 _) (edv 5) (zQ zO)) (zG (zlu (m:=true) (pv 2) (VN T.dkc.cl T.mm_Desk_say (G_Desk_say.mono (by decide)) c T.mb_Desk_say (edv 1) (zb (zQ zO) zg)) (λa b=>W2 p8 u1j u1k Wf a b))) zY)))
  (zG (xM (zS zbK WR (z5 _) (VN T.dkc.cl T.mm_Desk_say (G_Desk_say.mono (by decide)) c T.mb_Desk_say (edv 1) (zb (zQ zO) zg)) (yh (edv 2) (XC (zt zr)) (λ_ _=>rfl))) (zG (y8 (zfa zbm))) zY))))))
  (zA (zeG u2e rfl rfl (T.z "range" (by decide)) (zb (zlJ (yM yH vX rfl (T.z "len" (by decide)) Yo (zb (edv 2) zg)) (zt zr)) zg) (Zb (xF (i:=6) (sc 43).nd rfl (Or.inl rfl))) (zA (zqt (zob zbK WR (z5 _) (zfC T.dkc.cl T.mm_Desk_say (K_Desk_say.mono (by decide)) c T.mb_Desk_say (pv 1) (zb (zQ zO) zg)) (zoY (zQ zO))) (zG (y8 (zfa zbm))) zY)
  (zA (zl6 (i:=2) (pv 2) (λa=>zlw p8 PySem.F.slot_list_pop PySem.F.type_list_pop zgi a))
  (zG (xM (zS zbK WR (z5 _) (VN T.dkc.cl T.mm_Desk_say (G_Desk_say.mono (by decide)) c T.mb_Desk_say (edv 1) (zb (zQ zO) zg)) (yh (edv 2) (XC (zt zr)) (λ_ _=>rfl))) (zG (y8 (zfa zbm))) zY)))))
  (zgY 2 (zG (y8 (zk6 (Y0 (yy c) zZ (z5 _) (zy G__law_said c rfl (T.d 41) (zb (edv 1) (zb (zQ zO) zg))) (zt zr)) (zlc (Y0 (yy c) zZ (z5 _) (VN T.dkc.cl T.mm_Desk_say (G_Desk_say.mono (by decide)) c T.mb_Desk_say (edv 1) (zb (zQ zO) zg)) (zQ zO)))))))))))
end
def all_mk {l:W.OpenLaw} {w:World} {K:zv} {h:Heap} {mg:wn} {fa:Addr} (X:K.In h) (G:h.Ns mainGlobals mg) (hfa:mg "law"=some (.ref fa)) {tk0:Tok} {tk1:Tok} {tk2:Tok}
 {sz0 ep0:Nat} {rr0_0 rr0_1 rr0_2 rr0_3 rr0_4:Addr} {hh0_0 hh0_1 hh0_2 hh0_3 hh0_4:Int} {tt0_0 tu0_0_0 tu0_0_1 tt0_1 tu0_1_0 tu0_1_1 tt0_2 tu0_2_0 tu0_2_1 tt0_3 tu0_3_0 tu0_3_1 tt0_4 tu0_4_0 tu0_4_1:Tok} {nn0_0 nn0_1 nn0_2 nn0_3 nn0_4:Nat} {oo0_0 oo0_1 oo0_2 oo0_3 oo0_4:y6} {ss0_0 ss0_1 ss0_2 ss0_3 ss0_4:Array (Option Value)}
 {iz0 ie0:Nat} {ih0_0 ih0_1 ih0_2 ih0_3 ih0_4 ih0_5 ih0_6 ih0_7 ih0_8 ih0_9 ih0_10:Int} {it0_0 iu0_0 it0_1 iu0_1 it0_2 iu0_2 it0_3 iu0_3 it0_4 iu0_4 it0_5 iu0_5 it0_6 iu0_6 it0_7 iu0_7 it0_8 iu0_8 it0_9 iu0_9 it0_10 iu0_10:Tok}
 (ia0:W.nsIn K mainGlobals "DEEDS"=some (some (.ref iz0))) (ib0:K.lookup iz0=some { cls:=.type "dict",data:=.dict #[{ hash:=ih0_0,key:=.str "web" it0_0,val:=.int 1 iu0_0 },{ hash:=ih0_1,key:=.str "row" it0_1,val:=.int 1 iu0_1 },{ hash:=ih0_2,key:=.str "ring" it0_2,val:=.int 1 iu0_2 },{ hash:=ih0_3,key:=.str "cube" it0_3,val:=.int 1 iu0_3 },{ hash:=ih0_4,key:=.str "full" it0_4,val:=.int 1 iu0_4 },{ hash:=ih0_5,key:=.str "star" it0_5,val:=.int 1 iu0_5 },{ hash:=ih0_6,key:=.str "tie" it0_6,val:=.int 2 iu0_6 },{ hash:=ih0_7,key:=.str "cut" it0_7,val:=.int 2 iu0_7 },{ hash:=ih0_8,key:=.str "put" it0_8,val:=.int 2 iu0_8 },{ hash:=ih0_9,key:=.str "step" it0_9,val:=.int 2 iu0_9 },{ hash:=ih0_10,key:=.str "back" it0_10,val:=.int 0 iu0_10 }] ie0 }) (id0:(iz0 == sysModules)=false)
 {iz1 ie1:Nat} {ih1_0 ih1_1 ih1_2 ih1_3 ih1_4 ih1_5 ih1_6 ih1_7:Int} {it1_0 iu1_0 it1_1 iu1_1 it1_2 iu1_2 it1_3 iu1_3 it1_4 iu1_4 it1_5 iu1_5 it1_6 iu1_6 it1_7 iu1_7:Tok}
 (ia1:W.nsIn K mainGlobals "QUESTIONS"=some (some (.ref iz1))) (ib1:K.lookup iz1=some { cls:=.type "dict",data:=.dict #[{ hash:=ih1_0,key:=.str "heap" it1_0,val:=.int 0 iu1_0 },{ hash:=ih1_1,key:=.str "ties" it1_1,val:=.int 0 iu1_1 },{ hash:=ih1_2,key:=.str "steps" it1_2,val:=.int 0 iu1_2 },{ hash:=ih1_3,key:=.str "far" it1_3,val:=.int 2 iu1_3 },{ hash:=ih1_4,key:=.str "most" it1_4,val:=.int 1 iu1_4 },{ hash:=ih1_5,key:=.str "reached" it1_5,val:=.int 0 iu1_5 },{ hash:=ih1_6,key:=.str "need" it1_6,val:=.int 1 iu1_6 },{ hash:=ih1_7,key:=.str "shown" it1_7,val:=.int 0 iu1_7 }] ie1 }) (id1:(iz1 == sysModules)=false)
 {cD:Addr} (da:W.nsIn K mainGlobals "Desk"=some (some (.ref cD))) (db1:W.plainGet K cD Str.empty=true) (db2:W.hasDictIn K cD=true) (db3:W.plainOver K cD=true) (dc:W.findIn K (.ref cD) "__setattr__"=some (some (.builtin "object.__setattr__"))) (db4:zn2 K cD ["web","heap","past"]=true) (db5:W.makesIn K cD=true) (db6:W.keepIn K (.ref cD)=true)
 {mi0:Addr} {mod0 man0:y6} {msl0:Array (Option Value)} {moc0 mkV0 mdc0 mpm0 mcd0 mct0:Value}
 (ma0:W.findIn K (.ref cD) "__init__"=some (some (.ref mi0))) (ml0:K.lookup mi0=some ⟨moc0,mod0,.func (W.fnOf "__init__" "Desk.__init__" (x8 yA) (ya yA) (zk yA) .none mkV0 mdc0 mpm0 man0 mcd0 mct0),msl0⟩) (mc0:W.codeIn K mcd0 "Desk.__init__"=true) (mk0:W.keepIn K (.ref mi0)=true) (mf0:W.isFn K (.ref mi0)=true)
 {mi1:Addr} {mod1 man1:y6} {msl1:Array (Option Value)} {moc1 mkV1 mdc1 mpm1 mcd1 mct1:Value}
 (ma1:W.findIn K (.ref cD) "say"=some (some (.ref mi1))) (ml1:K.lookup mi1=some ⟨moc1,mod1,.func (W.fnOf "say" "Desk.say" (x8 wx) (ya wx) (zk wx) .none mkV1 mdc1 mpm1 man1 mcd1 mct1),msl1⟩) (mc1:W.codeIn K mcd1 "Desk.say"=true) (mk1:W.keepIn K (.ref mi1)=true) (mf1:W.isFn K (.ref mi1)=true)
 {mi2:Addr} {mod2 man2:y6} {msl2:Array (Option Value)} {moc2 mkV2 mdc2 mpm2 mcd2 mct2:Value}
 (ma2:W.findIn K (.ref cD) "go_on"=some (some (.ref mi2))) (ml2:K.lookup mi2=some ⟨moc2,mod2,.func (W.fnOf "go_on" "Desk.go_on" (x8 xr) (ya xr) (zk xr) .none mkV2 mdc2 mpm2 man2 mcd2 mct2),msl2⟩) (mc2:W.codeIn K mcd2 "Desk.go_on"=true) (mk2:W.keepIn K (.ref mi2)=true) (mf2:W.isFn K (.ref mi2)=true)
 {mi3:Addr} {mod3 man3:y6} {msl3:Array (Option Value)} {moc3 mkV3 mdc3 mpm3 mcd3 mct3:Value}
 (ma3:W.findIn K (.ref cD) "go_back"=some (some (.ref mi3))) (ml3:K.lookup mi3=some ⟨moc3,mod3,.func (W.fnOf "go_back" "Desk.go_back" (x8 yO) (ya yO) (zk yO) .none mkV3 mdc3 mpm3 man3 mcd3 mct3),msl3⟩) (mc3:W.codeIn K mcd3 "Desk.go_back"=true) (mk3:W.keepIn K (.ref mi3)=true) (mf3:W.isFn K (.ref mi3)=true)
 (D:∀ r∈rows,Dx K mg ([]:Vr) r) (Z:∀ x∈zs,W.nsIn K mainGlobals x=some none)
 (gg0:W.nsIn K mainGlobals "MOST_PLACES"=some (some (.int 8 tk0)))
 (gg1:W.nsIn K mainGlobals "MOST_STONES"=some (some (.int 300 tk1)))
 (gg2:W.nsIn K mainGlobals "MOST_FIGURES"=some (some (.int 3 tk2)))
 (sa0:W.nsIn K mainGlobals "SIZES"=some (some (.ref sz0))) (sb0:K.lookup sz0=some { cls:=.type "dict",data:=.dict #[{ hash:=hh0_0,key:=.str "row" tt0_0,val:=.ref rr0_0 },{ hash:=hh0_1,key:=.str "ring" tt0_1,val:=.ref rr0_1 },{ hash:=hh0_2,key:=.str "cube" tt0_2,val:=.ref rr0_2 },{ hash:=hh0_3,key:=.str "full" tt0_3,val:=.ref rr0_3 },{ hash:=hh0_4,key:=.str "star" tt0_4,val:=.ref rr0_4 }] ep0 }) (sd0:(sz0 == sysModules)=false)
 (sc0_0:K.lookup rr0_0=some { cls:=.type "tuple",dict:=oo0_0,data:=.seq #[.int 1 tu0_0_0,.int 8 tu0_0_1] nn0_0,slots:=ss0_0 })
 (sc0_1:K.lookup rr0_1=some { cls:=.type "tuple",dict:=oo0_1,data:=.seq #[.int 3 tu0_1_0,.int 8 tu0_1_1] nn0_1,slots:=ss0_1 })
 (sc0_2:K.lookup rr0_2=some { cls:=.type "tuple",dict:=oo0_2,data:=.seq #[.int 0 tu0_2_0,.int 3 tu0_2_1] nn0_2,slots:=ss0_2 })
 (sc0_3:K.lookup rr0_3=some { cls:=.type "tuple",dict:=oo0_3,data:=.seq #[.int 1 tu0_3_0,.int 8 tu0_3_1] nn0_3,slots:=ss0_3 })
 (sc0_4:K.lookup rr0_4=some { cls:=.type "tuple",dict:=oo0_4,data:=.seq #[.int 1 tu0_4_0,.int 7 tu0_4_1] nn0_4,slots:=ss0_4 })
 {xx0 xx1 xx2 xx3 xx4 xx5 xx6 xx7 xx8 xx9 xx10 xx11 xx12 xx13:Addr}
 (xa0:W.nsIn K mainGlobals "NoWeb"=some (some (.ref xx0)))
 (xa1:W.nsIn K mainGlobals "NoKind"=some (some (.ref xx1)))
 (xa2:W.nsIn K mainGlobals "NoHeap"=some (some (.ref xx2)))
 (xa3:W.nsIn K mainGlobals "NoPlace"=some (some (.ref xx3)))
 (xa4:W.nsIn K mainGlobals "NoNumber"=some (some (.ref xx4)))
 (xa5:W.nsIn K mainGlobals "NoTally"=some (some (.ref xx5)))
 (xa6:W.nsIn K mainGlobals "NotTree"=some (some (.ref xx6)))
 (xa7:W.nsIn K mainGlobals "NotJoined"=some (some (.ref xx7)))
 (xa8:W.nsIn K mainGlobals "NoWeights"=some (some (.ref xx8)))
 (xa9:W.nsIn K mainGlobals "NoRow"=some (some (.ref xx9)))
 (xa10:W.nsIn K mainGlobals "NoSteps"=some (some (.ref xx10)))
 (xa11:W.nsIn K mainGlobals "NoText"=some (some (.ref xx11)))
 (xa12:W.nsIn K mainGlobals "TooGreat"=some (some (.ref xx12)))
 (xa13:W.nsIn K mainGlobals "StoneError"=some (some (.ref xx13)))
 (xc0:vo K [xx0,xx1,xx2,xx3,xx4,xx5,xx6,xx7,xx8,xx9,xx10,xx11,xx12] xx13 xx0 0=true)
 {yi0:Addr} {yod0 yan0:y6} {ysl0:Array (Option Value)} {yoc0 ykV0 ydc0 ypm0 ycd0 yct0:Value}
 (ya0:W.findIn K (.ref xx0) "__init__"=some (some (.ref yi0))) (yl0:K.lookup yi0=some ⟨yoc0,yod0,.func (W.fnOf "__init__" "NoWeb.__init__" (x8 YG) (ya YG) (zk YG) .none ykV0 ydc0 ypm0 yan0 ycd0 yct0),ysl0⟩) (yc0:W.codeIn K ycd0 "NoWeb.__init__"=true) (yk0:W.keepIn K (.ref yi0)=true)
 (ye0:zmA K xx0 yi0=true) (yf0:WE K xx0=true) (yg0:zn2 K xx0 ["at"]=true)
 (xc1:vo K [xx0,xx1,xx2,xx3,xx4,xx5,xx6,xx7,xx8,xx9,xx10,xx11,xx12] xx13 xx1 1=true)
 (xb1:W.excIn K xx1 bmV "ValueError.__new__"=true)
 (xc2:vo K [xx0,xx1,xx2,xx3,xx4,xx5,xx6,xx7,xx8,xx9,xx10,xx11,xx12] xx13 xx2 2=true)
 (xb2:W.excIn K xx2 bmV "ValueError.__new__"=true)
 (xc3:vo K [xx0,xx1,xx2,xx3,xx4,xx5,xx6,xx7,xx8,xx9,xx10,xx11,xx12] xx13 xx3 3=true)
 (xb3:W.excIn K xx3 bmV "ValueError.__new__"=true)
 (xc9:vo K [xx0,xx1,xx2,xx3,xx4,xx5,xx6,xx7,xx8,xx9,xx10,xx11,xx12] xx13 xx9 9=true)
 (xb9:W.excIn K xx9 bmV "ValueError.__new__"=true)
 (xc10:vo K [xx0,xx1,xx2,xx3,xx4,xx5,xx6,xx7,xx8,xx9,xx10,xx11,xx12] xx13 xx10 10=true)
 {yi10:Addr} {yod10 yan10:y6} {ysl10:Array (Option Value)} {yoc10 ykV10 ydc10 ypm10 ycd10 yct10:Value}
 (ya10:W.findIn K (.ref xx10) "__init__"=some (some (.ref yi10))) (yl10:K.lookup yi10=some ⟨yoc10,yod10,.func (W.fnOf "__init__" "NoSteps.__init__" (x8 wY) (ya wY) (zk wY) .none ykV10 ydc10 ypm10 yan10 ycd10 yct10),ysl10⟩) (yc10:W.codeIn K ycd10 "NoSteps.__init__"=true) (yk10:W.keepIn K (.ref yi10)=true)
 (ye10:zmA K xx10 yi10=true) (yf10:WE K xx10=true) (yg10:zn2 K xx10 ["at"]=true)
 : ∃ fd:FuncData,(∀ (s:zn) (v:Value),BindsTo s fd ⟨[v],[]⟩ [("script",v)])/\∀ base:Heap,K.In base->base.Ns mainGlobals mg->xB l.prog w K mg base CX0 40 fa fd ["script"] (zgt K):=by
 have D':∀ i,Dx K mg ([]:Vr) (Rw i):=zdT D (D _ (o8 (i:=43) rfl))
 have e:=hfa.symm.trans (D' 43).choose_spec.choose_spec.1.at_
 cases e
 have FY0:=Xr (st:=YG) yl0 yc0 yk0
 have FY10:=Xr (st:=wY) yl10 yc10 yk10
 have FM0:=Xr (st:=yA) ml0 mc0 mk0
 have FM1:=Xr (st:=wx) ml1 mc1 mk1
 have FM2:=Xr (st:=xr) ml2 mc2 mk2
 have FM3:=Xr (st:=yO) ml3 mc3 mk3
 have T:∀ base:Heap,Txt l.prog w K mg base ⟨λi=>(D' i).choose,λi=>(D' i).choose_spec.choose,iz0,iz1,cD,mi0,_,mi1,_,mi2,_,mi3,_,tk0,tk1,tk2,sz0,xx0,xx1,xx2,xx3,xx4,xx5,xx6,xx7,xx8,xx9,xx10,xx11,xx12,xx13,_,_,_,_⟩:=λbase=>⟨λi=>(D' i).choose_spec.choose_spec.1,λx hx=>W.mg_none_of X G (Z x hx),
  o6 X G ia0,
  λh hK=>⟨id0,_,_,_,hK _ _ ib0,⟨rfl,rfl,rfl⟩,rfl,(.cons rfl (.int _ _) (.cons rfl (.int _ _) (.cons rfl (.int _ _) (.cons rfl (.int _ _) (.cons rfl (.int _ _) (.cons rfl (.int _ _) (.cons rfl (.int _ _) (.cons rfl (.int _ _) (.cons rfl (.int _ _) (.cons rfl (.int _ _) (.cons rfl (.int _ _) .nil)))))))))))⟩,
  o6 X G ia1,
  λh hK=>⟨id1,_,_,_,hK _ _ ib1,⟨rfl,rfl,rfl⟩,rfl,(.cons rfl (.int _ _) (.cons rfl (.int _ _) (.cons rfl (.int _ _) (.cons rfl (.int _ _) (.cons rfl (.int _ _) (.cons rfl (.int _ _) (.cons rfl (.int _ _) (.cons rfl (.int _ _) .nil))))))))⟩,
  o6 X G da,
  ⟨⟨db1,db2,db3,dc⟩,vW db4 _ (by decide),vW db4 _ (by decide),vW db4 _ (by decide)⟩,
  ⟨db5,ma0,mf0,db6⟩,
  FM0,
  FM0.binds (ps:=["self"]) (λ_ _ _ _ _ _ us hl=>by repeat' first | rfl | (exfalso;revert hl;simp;done) | (rcases us with _ | ⟨_,us⟩)),
  FM1,
  FM1.binds (ps:=["self","row"]) (λ_ _ _ _ _ _ us hl=>by repeat' first | rfl | (exfalso;revert hl;simp;done) | (rcases us with _ | ⟨_,us⟩)),
  ⟨ma1,mf1,mk1⟩,
  FM2,
  FM2.binds (ps:=["self","state"]) (λ_ _ _ _ _ _ us hl=>by repeat' first | rfl | (exfalso;revert hl;simp;done) | (rcases us with _ | ⟨_,us⟩)),
  ⟨ma2,mf2,mk2⟩,
  FM3,
  FM3.binds (ps:=["self"]) (λ_ _ _ _ _ _ us hl=>by repeat' first | rfl | (exfalso;revert hl;simp;done) | (rcases us with _ | ⟨_,us⟩)),
  ⟨ma3,mf3,mk3⟩
,
 o6 X G gg0,
 o6 X G gg1,
 o6 X G gg2,
 o6 X G sa0,
 λh hK=>⟨sd0,_,_,_,hK _ _ sb0,⟨rfl,rfl,rfl⟩,rfl,(.cons rfl ⟨_,_,rfl,⟨_,hK _ _ sc0_0,rfl,_,rfl⟩,(.cons (.int _ _) (.cons (.int _ _) .nil))⟩ (.cons rfl ⟨_,_,rfl,⟨_,hK _ _ sc0_1,rfl,_,rfl⟩,(.cons (.int _ _) (.cons (.int _ _) .nil))⟩ (.cons rfl ⟨_,_,rfl,⟨_,hK _ _ sc0_2,rfl,_,rfl⟩,(.cons (.int _ _) (.cons (.int _ _) .nil))⟩ (.cons rfl ⟨_,_,rfl,⟨_,hK _ _ sc0_3,rfl,_,rfl⟩,(.cons (.int _ _) (.cons (.int _ _) .nil))⟩ (.cons rfl ⟨_,_,rfl,⟨_,hK _ _ sc0_4,rfl,_,rfl⟩,(.cons (.int _ _) (.cons (.int _ _) .nil))⟩ .nil)))))⟩,
 o6 X G xa0,
 o6 X G xa1,
 o6 X G xa2,
 o6 X G xa3,
 o6 X G xa4,
 o6 X G xa5,
 o6 X G xa6,
 o6 X G xa7,
 o6 X G xa8,
 o6 X G xa9,
 o6 X G xa10,
 o6 X G xa11,
 o6 X G xa12,
 o6 X G xa13,
 xb1,
 xb2,
 xb3,
 xb9,
 xc0,
 xc1,
 xc2,
 xc3,
 xc9,
 xc10,
 FY0,
 FY0.binds (ps:=["self","at"]) (λ_ _ _ _ _ _ us hl=>by repeat' first | rfl | (exfalso;revert hl;simp;done) | (rcases us with _ | ⟨_,us⟩)),
 ye0,
 yf0,
 yg0,
 FY10,
 FY10.binds (ps:=["self","at"]) (λ_ _ _ _ _ _ us hl=>by repeat' first | rfl | (exfalso;revert hl;simp;done) | (rcases us with _ | ⟨_,us⟩)),
 ye10,
 yf10,
 yg10⟩
 exact⟨_,λs v=>zgq (D' 43).choose_spec.choose_spec.1.fn λ_ _ _ _ _ _=>rfl,λbase _ _=>zqg (T base)⟩
theorem walk {l:W.OpenLaw}{q:zP}{loose:zH}{XP:wn->Heap->Prop}{YP:World->Heap->Prop}{d:DefRec}{K:Params->W.Frag}(hn:l.most=some 63)(hdf:d.params.defaults=[])
 (hY:∀ (w:World) (h:Heap),YP w h->(K w.params).In h)
 (F:∀ (w:World) (mg:wn) (fa:Addr) (h:Heap),(K w.params).In h->h.Ns mainGlobals mg->mg d.name=some (.ref fa) ->
  ∃ fd:FuncData,(∀ (s:zn) (u:Value),BindsTo s fd ⟨[u],[]⟩ [("script",u)])/\∀ base:Heap,(K w.params).In base->base.Ns mainGlobals mg->xB l.prog w (K w.params) mg base CX0 40 fa fd ["script"] (zgt (K w.params))) :
 PySem.W.WalkO q loose XP YP l.row.toRowW d [] (λf vs=>PySem.call f vs) :=
 L2.walk_of (n:=63) (k:=40) (x:="script") (CX:=λ_=>CX0) (sp:=λw=>zgt (K w.params)) hn (by decide) hdf ⟨rfl,by decide,by decide⟩ hY F (λ_ _ a ns hl _ hS=>⟨a,ns,rfl,hS,hl,λ_=>rfl⟩) λ_ _ _ _ _ z=>z
end Mz
open PySem PySem.W PyProof.Rows
namespace PySem.W.Fast
theorem tw968953346611276065:True:=⟨⟩
theorem tw15045540582915776607:True:=⟨⟩
theorem tw13121933521621766707:True:=⟨⟩
theorem tw5404229597823593225:True:=⟨⟩
theorem tw14764333984604726335:True:=⟨⟩
theorem tw3082315690563652924:True:=⟨⟩
theorem tw10678557373832711100:True:=⟨⟩
theorem tw8394471934589966914:True:=⟨⟩
theorem tw10655372724581895378:True:=⟨⟩
theorem tw14435370241043943322:True:=⟨⟩
theorem tw14890779955494771947:True:=⟨⟩
theorem tw6996197250782057721:True:=⟨⟩
theorem tw4139920159942805316:True:=⟨⟩
theorem tw13450581798707836588:True:=⟨⟩
theorem tw6397271096875421631:True:=⟨⟩
theorem tw588618236465012991:True:=⟨⟩
theorem tw6386184113062275296:True:=⟨⟩
theorem tw11564671076118255713:True:=⟨⟩
theorem tw17480287529457455973:True:=⟨⟩
theorem tw1079656439316330607:True:=⟨⟩
theorem tw7732314284750340128:True:=⟨⟩
theorem tw4569959795251371420:True:=⟨⟩
theorem tw5997613704324471580:True:=⟨⟩
theorem tw8087244445887851685:True:=⟨⟩
theorem tw15104735492349545022:True:=⟨⟩
theorem tw16374944540556886933:True:=⟨⟩
theorem tw11755348332500757331:True:=⟨⟩
theorem tw4508492113849247750:True:=⟨⟩
theorem tw14837591054634665289:True:=⟨⟩
theorem tw5896821125059162908:True:=⟨⟩
theorem tw17671849168577415884:True:=⟨⟩
theorem tw4467787329547040138:True:=⟨⟩
theorem tw8231993347788277282:True:=⟨⟩
theorem tw4685907075013153177:True:=⟨⟩
theorem tw16388269671681554077:True:=⟨⟩
theorem tw3316332329720346027:True:=⟨⟩
theorem tw13650378530735887094:True:=⟨⟩
theorem tw11423154652350495416:True:=⟨⟩
theorem tw10098467245658565144:True:=⟨⟩
theorem tw6050051787145804215:True:=⟨⟩
theorem tw11992098773569508002:True:=⟨⟩
theorem tw3132049347749092164:True:=⟨⟩
theorem tw15893420609339503136:True:=⟨⟩
theorem tw11543482679955393621:True:=⟨⟩
theorem tw16908219322854550349:True:=⟨⟩
theorem tw14106403347124631594:True:=⟨⟩
theorem tw488538003632760567:True:=⟨⟩
theorem tw16771749600832158515:True:=⟨⟩
theorem tw17685332262713890296:True:=⟨⟩
theorem tw14462207956645319727:True:=⟨⟩
theorem tw11130693727988012909:True:=⟨⟩
theorem tw8405364502572651450:True:=⟨⟩
theorem tw11326214663274028186:True:=⟨⟩
theorem tw13904877186086781405:True:=⟨⟩
theorem tw9889480624778507001:True:=⟨⟩
theorem tw15427943224718525634:True:=⟨⟩
theorem tw17174025125443379482:True:=⟨⟩
theorem tw5270128733676803021:True:=⟨⟩
theorem tw17033195499836052793:True:=⟨⟩
theorem tw16435803564803845559:True:=⟨⟩
theorem tw11984858632121875991:True:=⟨⟩
theorem tw14791690166175152086:True:=⟨⟩
theorem tw2168880740956320936:True:=⟨⟩
theorem tw12458140496699369655:True:=⟨⟩
theorem tw13852160369395557830:True:=⟨⟩
theorem tw17350909172093473254:True:=⟨⟩
theorem tw10881161593292387804:True:=⟨⟩
theorem tw3153196143369967603:True:=⟨⟩
theorem tw9941265168523508613:True:=⟨⟩
theorem tw10217430045182885772:True:=⟨⟩
theorem tw11073884928407093061:True:=⟨⟩
theorem tw1960946958518741447:True:=⟨⟩
theorem tw6965481720019298265:True:=⟨⟩
theorem tw9234143405140748005:True:=⟨⟩
theorem tw2914831959797738764:True:=⟨⟩
theorem tw2897197782533647422:True:=⟨⟩
theorem tw13771379000715806371:True:=⟨⟩
theorem tw14841847934718552190:True:=⟨⟩
theorem tw12704181259316182314:True:=⟨⟩
theorem tw3592621282701703138:True:=⟨⟩
theorem tw6292153112199154464:True:=⟨⟩
theorem tw2377643209605259512:True:=⟨⟩
theorem tw14569459088970916107:True:=⟨⟩
theorem tw10641422063337566949:True:=⟨⟩
theorem tw4764386809284356267:True:=⟨⟩
theorem tw11219431718871828380:True:=⟨⟩
theorem tw1975528507156015520:True:=⟨⟩
theorem tw8942633402155490301:True:=⟨⟩
theorem tw9591340116012840031:True:=⟨⟩
theorem tw1795671127091922043:True:=⟨⟩
theorem tw14830089493350537689:True:=⟨⟩
theorem tw10697157404814374237:True:=⟨⟩
theorem tw6421575277171226013:True:=⟨⟩
theorem tw44601258232061741:True:=⟨⟩
theorem tw16573657924796222909:True:=⟨⟩
theorem tw236000032685940195:True:=⟨⟩
theorem tw7956886618833370338:True:=⟨⟩
theorem tw12350560318556508953:True:=⟨⟩
theorem tw9644015838604367387:True:=⟨⟩
theorem tw5036669897972854287:True:=⟨⟩
theorem tw14849782827878592930:True:=⟨⟩
theorem tw14576263431385835836:True:=⟨⟩
theorem tw11112212460551807294:True:=⟨⟩
theorem tw16090743795814921300:True:=⟨⟩
theorem tw4878131086161175708:True:=⟨⟩
theorem tw9385654861256349304:True:=⟨⟩
theorem tw9894522702241318401:True:=⟨⟩
theorem tw8150241467673018611:True:=⟨⟩
theorem tw14245937696641964019:True:=⟨⟩
theorem tw6407710049902023634:True:=⟨⟩
theorem tw4581277399779838232:True:=⟨⟩
theorem tw209111667169034430:True:=⟨⟩
theorem tw14249779945587843331:True:=⟨⟩
theorem tw5229705418126888441:True:=⟨⟩
theorem tw13026980161283003620:True:=⟨⟩
theorem tw12214075686226497693:True:=⟨⟩
theorem tw16282232308135186020:True:=⟨⟩
theorem tw2411051496276541758:True:=⟨⟩
theorem tw16709743344486885512:True:=⟨⟩
theorem tw16258282685843221979:True:=⟨⟩
theorem tw7370456508770341905:True:=⟨⟩
theorem tw17542253857005288062:True:=⟨⟩
theorem tw10344129110705038313:True:=⟨⟩
theorem tw11942344100454775619:True:=⟨⟩
theorem tw12310337210419274872:True:=⟨⟩
theorem tw344283740788733097:True:=⟨⟩
theorem tw7110124563627328064:True:=⟨⟩
theorem tw14309289685136690426:True:=⟨⟩
theorem tw17777225599769317832:True:=⟨⟩
theorem tw1060356507489901016:True:=⟨⟩
theorem tw12815773284612513729:True:=⟨⟩
theorem tw14257412371168271495:True:=⟨⟩
theorem tw15284310743335942006:True:=⟨⟩
theorem tw10636100198529227800:True:=⟨⟩
theorem tw11325128959190573585:True:=⟨⟩
theorem tw16789382680171672598:True:=⟨⟩
theorem tw5219557975703465370:True:=⟨⟩
theorem tw6822723002230007907:True:=⟨⟩
theorem tw12460126111220812105:True:=⟨⟩
theorem tw8437074062321090698:True:=⟨⟩
theorem tw11059752724430020152:True:=⟨⟩
theorem tw4923269122874236924:True:=⟨⟩
theorem tw6648501193167940482:True:=⟨⟩
theorem tw12611562710841740161:True:=⟨⟩
theorem tw14119788194492165758:True:=⟨⟩
theorem tw2092717579563025577:True:=⟨⟩
theorem tw16817840857867537067:True:=⟨⟩
theorem tw12776468496911216993:True:=⟨⟩
theorem tw9958056624144791801:True:=⟨⟩
theorem tw1532753455990736317:True:=⟨⟩
theorem tw13216180525190691063:True:=⟨⟩
theorem tw14154976735260699432:True:=⟨⟩
theorem tw14202648539745254387:True:=⟨⟩
theorem tw17742222295694138573:True:=⟨⟩
theorem tw13577212216954254010:True:=⟨⟩
theorem tw4318805638591258291:True:=⟨⟩
theorem tw14970522758630295468:True:=⟨⟩
theorem tw8413429342110152691:True:=⟨⟩
theorem tw7379659386458148881:True:=⟨⟩
theorem tw9569019833004354954:True:=⟨⟩
theorem tw17301213532410111109:True:=⟨⟩
theorem tw17758259597706234456:True:=⟨⟩
theorem tw10181075109634009684:True:=⟨⟩
theorem tw18377737245791077026:True:=⟨⟩
theorem tw9705489200548472239:True:=⟨⟩
theorem tw11404778286859047645:True:=⟨⟩
theorem tw6978913658735865465:True:=⟨⟩
theorem tw1605835084625981420:True:=⟨⟩
theorem tw7993350802004979160:True:=⟨⟩
theorem tw9388759725745436357:True:=⟨⟩
theorem tw16133083470144612326:True:=⟨⟩
theorem tw15089828390916083003:True:=⟨⟩
theorem tw8353842484085463944:True:=⟨⟩
theorem tw12960958116423692323:True:=⟨⟩
theorem tw6715688710245087402:True:=⟨⟩
theorem tw17494164220667012879:True:=⟨⟩
theorem tw13135561984994633317:True:=⟨⟩
theorem tw10386554704012835925:True:=⟨⟩
theorem tw10672897098173089206:True:=⟨⟩
theorem tw7469859907992766996:True:=⟨⟩
theorem tw3797185524866908915:True:=⟨⟩
theorem tw17430089174585758858:True:=⟨⟩
theorem tw9622128051685835371:True:=⟨⟩
theorem tw12217897958605277674:True:=⟨⟩
theorem tw14113818591425658884:True:=⟨⟩
theorem tw7304836644676528073:True:=⟨⟩
theorem tw5796635590169066344:True:=⟨⟩
theorem tw12927529075676680994:True:=⟨⟩
theorem tw2530226184510163044:True:=⟨⟩
theorem tw476535580510957007:True:=⟨⟩
theorem tw497895587518756696:True:=⟨⟩
theorem tw12659222602040076378:True:=⟨⟩
theorem tw6209571377480453:True:=⟨⟩
theorem tw17869524200308453818:True:=⟨⟩
theorem tw4848367449809377438:True:=⟨⟩
theorem tw12744348150540925564:True:=⟨⟩
theorem tw1545137391314491933:True:=⟨⟩
theorem tw7105957276100115459:True:=⟨⟩
theorem tw16001510701330780940:True:=⟨⟩
theorem tw2640286526976386878:True:=⟨⟩
theorem tw15459660945131043880:True:=⟨⟩
theorem tw13658736081335942757:True:=⟨⟩
theorem tw12143604971666964906:True:=⟨⟩
theorem tw14566444119938681798:True:=⟨⟩
theorem tw7743884622266128693:True:=⟨⟩
theorem tw2250870461038074253:True:=⟨⟩
theorem tw15917891972277774414:True:=⟨⟩
theorem tw405469856545346739:True:=⟨⟩
theorem tw1493845828293997795:True:=⟨⟩
theorem tw8308800979735050433:True:=⟨⟩
theorem tw2401598744944357804:True:=⟨⟩
theorem tw12566061473543072804:True:=⟨⟩
theorem tw15434690441534431554:True:=⟨⟩
theorem tw1647948851618544922:True:=⟨⟩
theorem tw11968921442206874797:True:=⟨⟩
theorem tw11662204440154810714:True:=⟨⟩
theorem tw14609159431639095114:True:=⟨⟩
theorem tw751756228984082314:True:=⟨⟩
theorem tw16597780360307129425:True:=⟨⟩
theorem tw13351030318708164212:True:=⟨⟩
theorem tw9181042635725753242:True:=⟨⟩
theorem tw3330792458946089806:True:=⟨⟩
theorem tw9185301516938392571:True:=⟨⟩
theorem tw5024237321806090767:True:=⟨⟩
theorem tw6366128012814665281:True:=⟨⟩
theorem tw13986109845259596051:True:=⟨⟩
theorem tw96707814074509331:True:=⟨⟩
theorem tw12981743763976804886:True:=⟨⟩
theorem tw8809481968123792334:True:=⟨⟩
theorem tw10425083800504907887:True:=⟨⟩
theorem tw17276385107496373372:True:=⟨⟩
theorem tw13303595037357775562:True:=⟨⟩
theorem tw18137377889260862595:True:=⟨⟩
theorem tw6161874275533396618:True:=⟨⟩
theorem tw1350420829392179700:True:=⟨⟩
theorem tw8304185220072550817:True:=⟨⟩
theorem tw13018086086351680770:True:=⟨⟩
theorem tw4530271903243890343:True:=⟨⟩
theorem tw6504622536525117993:True:=⟨⟩
theorem tw9240592189821268624:True:=⟨⟩
theorem tw1358252083834929938:True:=⟨⟩
theorem tw15985919742190761685:True:=⟨⟩
theorem tw12808079520136529240:True:=⟨⟩
theorem tw1148015235023056724:True:=⟨⟩
theorem tw5549159866212483888:True:=⟨⟩
theorem tw16218928229659703240:True:=⟨⟩
theorem tw1196554696852448250:True:=⟨⟩
theorem tw9847821882264621771:True:=⟨⟩
theorem tw619147161045769378:True:=⟨⟩
theorem tw914852669920805174:True:=⟨⟩
theorem tw14603646764238492856:True:=⟨⟩
theorem tw8034889321474676837:True:=⟨⟩
theorem tw8232961171491983753:True:=⟨⟩
theorem tw11521128015618202644:True:=⟨⟩
theorem tw409886897471336230:True:=⟨⟩
theorem tw1612068196601252674:True:=⟨⟩
theorem tw6330938577965808080:True:=⟨⟩
theorem tw7417947894279609337:True:=⟨⟩
theorem tw4913997267360373590:True:=⟨⟩
theorem tw16101713087858814372:True:=⟨⟩
theorem tw4336129798756152304:True:=⟨⟩
theorem tw14022673154304666221:True:=⟨⟩
theorem tw2025731808161278651:True:=⟨⟩
theorem tw14292822659374350474:True:=⟨⟩
theorem tw13847080707286600495:True:=⟨⟩
theorem tw13364707814987307876:True:=⟨⟩
theorem tw4412674329423209979:True:=⟨⟩
theorem tw502236706941269519:True:=⟨⟩
theorem tw9394371652090749748:True:=⟨⟩
theorem tw6844864194666108684:True:=⟨⟩
theorem tw13535933938638160371:True:=⟨⟩
theorem tw6017030519604067940:True:=⟨⟩
theorem tw16043685866938589516:True:=⟨⟩
theorem tw11234278554321991515:True:=⟨⟩
theorem tw7560042576483931475:True:=⟨⟩
theorem tw15495153694723332515:True:=⟨⟩
theorem tw16866652394512428884:True:=⟨⟩
theorem tw12253139810554099314:True:=⟨⟩
theorem tw18260934705232364990:True:=⟨⟩
theorem tw17085708996611114095:True:=⟨⟩
theorem tw7743219080761972441:True:=⟨⟩
theorem tw8511696023472426043:True:=⟨⟩
theorem tw15708063723839392839:True:=⟨⟩
theorem tw8718290196449594411:True:=⟨⟩
theorem tw11423013302907997695:True:=⟨⟩
theorem tw11379007078851229115:True:=⟨⟩
theorem tw10434262555052972393:True:=⟨⟩
theorem tw14269785266310881688:True:=⟨⟩
theorem tw17346727672269014391:True:=⟨⟩
theorem tw1272110086156802380:True:=⟨⟩
theorem tw17498584689679954506:True:=⟨⟩
theorem tw8801974063912354971:True:=⟨⟩
theorem tw16196594564490737662:True:=⟨⟩
theorem tw4408881605606705305:True:=⟨⟩
theorem tw13412952566615276714:True:=⟨⟩
theorem tw7895578991035227279:True:=⟨⟩
theorem tw9628731131564290863:True:=⟨⟩
theorem tw3705926374650180532:True:=⟨⟩
theorem tw14165942098392881959:True:=⟨⟩
theorem tw16788803592717387632:True:=⟨⟩
theorem tw6986600475188621860:True:=⟨⟩
theorem tw17386621370293582479:True:=⟨⟩
theorem tw8894772355678256987:True:=⟨⟩
theorem tw10351780657266665391:True:=⟨⟩
theorem tw461190850306984473:True:=⟨⟩
theorem tw6939001890660492862:True:=⟨⟩
theorem tw16010679115065661888:True:=⟨⟩
theorem tw10531014883657464370:True:=⟨⟩
theorem tw13856579322729604605:True:=⟨⟩
theorem tw7431928001941101130:True:=⟨⟩
theorem tw16425857721518237420:True:=⟨⟩
theorem tw14342641882918204227:True:=⟨⟩
theorem tw12792911415131863072:True:=⟨⟩
theorem tw11791025340418634141:True:=⟨⟩
theorem tw9629587608502187489:True:=⟨⟩
theorem tw13479389783955816635:True:=⟨⟩
theorem tw9120424240509941973:True:=⟨⟩
theorem tw5070315228396819906:True:=⟨⟩
theorem tw2080205515334563314:True:=⟨⟩
theorem tw9155055503870692893:True:=⟨⟩
theorem tw145592068068320053:True:=⟨⟩
theorem tw11569075388065237900:True:=⟨⟩
theorem tw3388019944519268393:True:=⟨⟩
theorem tw807225209043847817:True:=⟨⟩
theorem tw4288965967812012311:True:=⟨⟩
theorem tw3207894040286375816:True:=⟨⟩
theorem tw12249134224464486277:True:=⟨⟩
theorem tw7645436655660037528:True:=⟨⟩
theorem tw17754401141050729955:True:=⟨⟩
theorem tw2979310612808070920:True:=⟨⟩
theorem tw8993454174821057010:True:=⟨⟩
theorem tw9325184892507277902:True:=⟨⟩
theorem tw6155425164152371871:True:=⟨⟩
theorem tw1681204274875759105:True:=⟨⟩
theorem tw7497419335681870697:True:=⟨⟩
theorem tw4031592241495695302:True:=⟨⟩
theorem tw14553834745116546782:True:=⟨⟩
theorem tw7104772880939828399:True:=⟨⟩
theorem tw1542952695705601130:True:=⟨⟩
theorem tw8446706212825263968:True:=⟨⟩
theorem tw7251597308583470949:True:=⟨⟩
theorem tw12322645384073516547:True:=⟨⟩
theorem tw6794334579263804529:True:=⟨⟩
theorem tw6234315549881696916:True:=⟨⟩
theorem tw7303860490238513342:True:=⟨⟩
theorem tw9664932549066697998:True:=⟨⟩
theorem tw8818562596391930700:True:=⟨⟩
theorem tw18302223182034704591:True:=⟨⟩
theorem tw10976767364842856660:True:=⟨⟩
theorem tw17211364622968205239:True:=⟨⟩
theorem tw5959095392320187047:True:=⟨⟩
theorem tw18018698142393048071:True:=⟨⟩
theorem tw1189914943458246402:True:=⟨⟩
theorem tw17098090847439172213:True:=⟨⟩
theorem tw3587531634769690996:True:=⟨⟩
theorem tw17901178780349996735:True:=⟨⟩
theorem tw1749427099400217758:True:=⟨⟩
theorem tw8794497327872052311:True:=⟨⟩
theorem tw10394888587250963408:True:=⟨⟩
theorem tw9014033199686586474:True:=⟨⟩
theorem tw1991826937026449581:True:=⟨⟩
theorem tw14373648308746186781:True:=⟨⟩
theorem tw292626856599768646:True:=⟨⟩
theorem tw7745842167137109959:True:=⟨⟩
theorem tw17755468475019255594:True:=⟨⟩
theorem tw10230707939436522066:True:=⟨⟩
theorem tw11084307112959713548:True:=⟨⟩
theorem tw9951300690035139679:True:=⟨⟩
theorem tw11060509692321342727:True:=⟨⟩
theorem tw17764818642396764361:True:=⟨⟩
theorem tw8278120003452817648:True:=⟨⟩
theorem tw16485974939489008640:True:=⟨⟩
theorem tw892775349377009066:True:=⟨⟩
theorem tw18167363536003404971:True:=⟨⟩
theorem tw3770104976035460061:True:=⟨⟩
theorem tw2057297513276595458:True:=⟨⟩
theorem tw446062782274798461:True:=⟨⟩
theorem tw14626343292125518241:True:=⟨⟩
theorem tw6420651444108653632:True:=⟨⟩
theorem tw1269955526559726720:True:=⟨⟩
theorem tw383239099612663007:True:=⟨⟩
theorem tw13189732700940236914:True:=⟨⟩
theorem tw8790370145891003501:True:=⟨⟩
theorem tw3217209103332765802:True:=⟨⟩
theorem tw3590172115655259044:True:=⟨⟩
theorem tw12688702936580907637:True:=⟨⟩
theorem tw17993015956367231782:True:=⟨⟩
theorem tw14240022564903598815:True:=⟨⟩
theorem tw12539018603413778900:True:=⟨⟩
theorem tw12815514796459541820:True:=⟨⟩
theorem tw9189292841663548611:True:=⟨⟩
theorem tw17278255377237733546:True:=⟨⟩
theorem tw10418354924683470247:True:=⟨⟩
theorem tw16128858120307127858:True:=⟨⟩
theorem tw14070879927119084734:True:=⟨⟩
theorem tw8504649459822149997:True:=⟨⟩
theorem tw9921569388650804863:True:=⟨⟩
theorem tw12046650354588633266:True:=⟨⟩
theorem tw1885310878690473802:True:=⟨⟩
theorem tw8909850749806363280:True:=⟨⟩
theorem tw4176426903099935997:True:=⟨⟩
theorem tw17796089836433560999:True:=⟨⟩
theorem tw4181607546631439906:True:=⟨⟩
theorem tw3452771680179661763:True:=⟨⟩
theorem tw4936831380658649092:True:=⟨⟩
theorem tw3773642900233472694:True:=⟨⟩
theorem tw14380113631522171825:True:=⟨⟩
theorem tw5530163013120802336:True:=⟨⟩
theorem tw3818238401107015701:True:=⟨⟩
theorem tw8738617905412529634:True:=⟨⟩
theorem tw1177831261733618159:True:=⟨⟩
theorem tw16552065203024648767:True:=⟨⟩
theorem tw14236649376550023954:True:=⟨⟩
theorem tw7850360154883662749:True:=⟨⟩
theorem tw11035804223540892945:True:=⟨⟩
theorem tw12053834393216437290:True:=⟨⟩
theorem tw13044131605918232997:True:=⟨⟩
theorem tw11714807072589808085:True:=⟨⟩
theorem tw7306106638174671340:True:=⟨⟩
theorem tw3135642488067269474:True:=⟨⟩
theorem tw1075030972901615521:True:=⟨⟩
theorem tw10818787548389975030:True:=⟨⟩
theorem tw18249198939370529806:True:=⟨⟩
theorem tw13909093610876455462:True:=⟨⟩
theorem tw6970432262427081777:True:=⟨⟩
theorem tw12835179571712355743:True:=⟨⟩
theorem tw6954376126488054315:True:=⟨⟩
theorem tw7840787136812431017:True:=⟨⟩
theorem tw7285635818653198934:True:=⟨⟩
theorem tw6444452227329465735:True:=⟨⟩
theorem tw10232426093542108362:True:=⟨⟩
theorem tw9791649637379396781:True:=⟨⟩
theorem tw2377476794054615790:True:=⟨⟩
theorem tw413137255950390053:True:=⟨⟩
theorem tw9024248674640967348:True:=⟨⟩
theorem tw583519299830975544:True:=⟨⟩
theorem tw15209025052589679350:True:=⟨⟩
theorem tw6313877593417317160:True:=⟨⟩
theorem tw7863887070686061683:True:=⟨⟩
theorem tw13199552361869098029:True:=⟨⟩
theorem tw9533651827733974988:True:=⟨⟩
theorem tw6196031363282203064:True:=⟨⟩
theorem tw465142766169632165:True:=⟨⟩
theorem tw7147130557820785599:True:=⟨⟩
theorem tw9824985815672756536:True:=⟨⟩
theorem tw16860027037529275019:True:=⟨⟩
theorem tw3232856376282934703:True:=⟨⟩
theorem tw8165963539011213433:True:=⟨⟩
theorem tw7353182756879230461:True:=⟨⟩
theorem tw15606853876807605692:True:=⟨⟩
theorem tw12165433080304035169:True:=⟨⟩
theorem tw735066463677820364:True:=⟨⟩
theorem tw9639039621112448234:True:=⟨⟩
theorem tw15215275266861563100:True:=⟨⟩
theorem tw4329234025227082979:True:=⟨⟩
theorem tw183954063520681463:True:=⟨⟩
theorem tw13435426345336490469:True:=⟨⟩
theorem tw6791439349836479541:True:=⟨⟩
theorem tw15701290052087125180:True:=⟨⟩
theorem tw13596815170816888916:True:=⟨⟩
theorem tw18433690457537008299:True:=⟨⟩
theorem tw1675725450003339959:True:=⟨⟩
theorem tw18140233756957582926:True:=⟨⟩
theorem tw14272502698377983234:True:=⟨⟩
theorem tw6419389300805228569:True:=⟨⟩
theorem tw17063286348819199389:True:=⟨⟩
theorem tw10457122549037644036:True:=⟨⟩
theorem tw6533488417792839851:True:=⟨⟩
theorem tw10541108184855890251:True:=⟨⟩
theorem tw17861143333837131935:True:=⟨⟩
theorem tw7934482353696474322:True:=⟨⟩
theorem tw8760249196908239437:True:=⟨⟩
theorem tw6805449416445917641:True:=⟨⟩
theorem tw13056150093135640745:True:=⟨⟩
theorem tw4216098486702342568:True:=⟨⟩
theorem tw14734959832066308419:True:=⟨⟩
theorem tw11205519475491244791:True:=⟨⟩
theorem tw14250161693795868912:True:=⟨⟩
theorem tw13427801097906335986:True:=⟨⟩
theorem tw13121652787720885459:True:=⟨⟩
theorem tw9694943724075535746:True:=⟨⟩
theorem tw12826781965909730491:True:=⟨⟩
theorem tw17158077715071517662:True:=⟨⟩
theorem tw8575879770764510147:True:=⟨⟩
theorem tw9038170644817681824:True:=⟨⟩
theorem tw993636446158885076:True:=⟨⟩
theorem tw16661678227380731494:True:=⟨⟩
theorem tw14601996911837827150:True:=⟨⟩
theorem tw13036891123561867337:True:=⟨⟩
theorem tw8714388436788550457:True:=⟨⟩
theorem tw15828457089213338781:True:=⟨⟩
theorem tw3928987249161609363:True:=⟨⟩
end PySem.W.Fast
set_option maxRecDepth 100000 in
set_option maxHeartbeats 0 in
theorem PySem.Challenge.cw_twoforone_k94_whole_desk_led_back_holds : PySem.Challenge.rw_twoforone_k94_whole_desk_led_back.Holds := by
  w_on;o_law;k_head;(case hw=>w_witness2)
  k_fill
  refine Mz.walk (l:=PySem.Challenge.rw_twoforone_k94_whole_desk_led_back) rfl rfl (fun w h Y=>PySem.W.kIn_of Y) ?F
  case F =>
    intro w mg fa h KX G hmg
    refine' Mz.all_mk KX G hmg ?ia0 ?ib0 ?id0 ?ia1 ?ib1 ?id1 ?da ?db1 ?db2 ?db3 ?dc ?db4 ?db5 ?db6 ?ma0 ?ml0 ?mc0 ?mk0 ?mf0 ?ma1 ?ml1 ?mc1 ?mk1 ?mf1 ?ma2 ?ml2 ?mc2 ?mk2 ?mf2 ?ma3 ?ml3 ?mc3 ?mk3 ?mf3 ?D ?Z ?gg0 ?gg1 ?gg2 ?sa0 ?sb0 ?sd0 ?sc0_0 ?sc0_1 ?sc0_2 ?sc0_3 ?sc0_4 ?xa0 ?xa1 ?xa2 ?xa3 ?xa4 ?xa5 ?xa6 ?xa7 ?xa8 ?xa9 ?xa10 ?xa11 ?xa12 ?xa13 ?xc0 ?ya0 ?yl0 ?yc0 ?yk0 ?ye0 ?yf0 ?yg0 ?xc1 ?xb1 ?xc2 ?xb2 ?xc3 ?xb3 ?xc9 ?xb9 ?xc10 ?ya10 ?yl10 ?yc10 ?yk10 ?ye10 ?yf10 ?yg10
    case ia0=>k_is
    case ib0=>k_is
    case id0=>decide
    case ia1=>k_is
    case ib1=>k_is
    case id1=>decide
    case da=>k_is
    case db1=>kernel_rfl
    case db2=>kernel_rfl
    case db3=>kernel_rfl
    case dc=>k_is
    case db4=>kernel_rfl
    case db5=>kernel_rfl
    case db6=>kernel_rfl
    case ma0=>k_is
    case ml0=>k_is
    case mc0=>k_is
    case mk0=>k_is
    case mf0=>k_is
    case ma1=>k_is
    case ml1=>k_is
    case mc1=>k_is
    case mk1=>k_is
    case mf1=>k_is
    case ma2=>k_is
    case ml2=>k_is
    case mc2=>k_is
    case mk2=>k_is
    case mf2=>k_is
    case ma3=>k_is
    case ml3=>k_is
    case mc3=>k_is
    case mk3=>k_is
    case mf3=>k_is
    case D =>
      repeat
        refine' Dl.Dx_cons (Dl.mkX KX G ?_ ?_ ?_ ?_ ?_ ?_) ?_
        any_goals k_is
        · intro _ _ _ _ _ _ us hl
          repeat' first | rfl | (exfalso;revert hl;simp;done) | (rcases us with _ | ⟨_,us⟩)
        · first | exact .inl rfl | exact .inr ⟨_,rfl,rfl⟩
      exact fun _ h=>nomatch h
    case Z =>
      repeat
        refine' Dl.Z_cons ?_ ?_
        · k_is
      exact fun _ h=>nomatch h
    case gg0 | gg1 | gg2 | sa0 | sb0=>k_is
    case sd0=>decide
    case sc0_0 | sc0_1 | sc0_2 | sc0_3 | sc0_4 | xa0 | xa1 | xa2 | xa3 | xa4 | xa5 | xa6 | xa7 | xa8 | xa9 | xa10 | xa11 | xa12 | xa13=>k_is
    case xc0=>kernel_rfl
    case ya0 | yl0 | yc0 | yk0=>k_is
    case ye0 | yf0 | yg0 | xc1 | xb1 | xc2 | xb2 | xc3 | xb3 | xc9 | xb9 | xc10=>kernel_rfl
    case ya10 | yl10 | yc10 | yk10=>k_is
    case ye10 | yf10 | yg10=>kernel_rfl
