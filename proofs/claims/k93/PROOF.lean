import PyProof.Rows.All
import Wide.All
import OpenK.AllK
import Wide.FinOn
import Lean
import PyProof.EqAt
import PyProof.EqKinds
import PyProof.TupleCall
import PyProof.NeKinds
import KE.KIntText
import PySem.Challenge.RW_twoforone_k93_desk_asked
set_option bootstrap.genMatcherCode false
set_option compiler.extract_closed false
set_option Elab.async false
set_option linter.all false
set_option maxRecDepth 100000
set_option maxHeartbeats 4000000
open Array renaming getElem?_eq_none->Q1Q,toList->Q2H
open Array.Perm renaming refl->Q2P
open Bool renaming or_false->Q2n
open False renaming elim->Q0o
open ForInStep renaming yield->Q0T
open Int.ofNat renaming inj->Q2o
open List renaming replicate->Q0a,range->Q0g,zipWith->Q0M,lookup->Q0W,foldl->Q1D,length_singleton->Q1X,any_map->Q2J,map_nil->Q2K
open List.Pairwise renaming nil->Q2B
open Nat renaming one_pos->Q1J
open Option renaming bind->Q1k
open Or renaming inl->Q0n,inr->Q2L
open Prod renaming fst->Q2O
open PyProof.Rows renaming envOfC->Q0p,arrOf->Q0s,seqObj->Q0x,SortedToK->Q0y,sortedHeap->Q0N,IntsAre->Q0R,seqObj->Q1a,NonIncK->Q1j,SortSt->Q1l,AllBare->Q1y,pendingOf->Q1G,SortKind->Q1M,KK_mirror_equal->Q1W,listItems_at->Q13,envOfC->Q19,gt_int->Q2g,mirror_perm->Q2j,pairsOf->Q2k,wpS_reverse->Q2m,failedOf->Q2x
open PyProof.Rows.KTD renaming datumAt->Q0V,TextTab->Q1E,TextTab->Q2d,Dat->Q2Q
open PyProof.Rows.KeyOrd renaming kle_antisymm->Q2e
open PySem renaming starEach->Q0c,wpAny->Q0d,Value->Q0e,mainGlobals->Q0h,model->Q0i,bootBuiltins->Q0j,World->Q0k,compareOp->Q0l,foldedSetIterable->Q0m,swapsWith->Q0q,Shared->Q0u,backTo->Q0v,sysModules->Q0B,attributeBase->Q0F,binaryOp->Q0O,cellsFrom->Q0P,assignEach->Q0Q,relabel->Q0S,behindInMarks->Q0Z,argBest->Q00,codeAny->Q05,keywordEach->Q06,DictEntry->Q07,IsPair->Q08,holding->Q1d,sliceBounds->Q1e,letOwnedTupleGo->Q1n,pyNext->Q1o,tupleKind->Q1p,wpAny_letOwnedTupleGo_enum->Q1v,wpAny_newFunctionEnv_cells->Q1w,firstArgMember->Q1z,newFunctionEnv->Q1A,closureFor->Q1F,rawInt->Q1H,FuncData->Q1I,backToKw->Q1N,noFill_tuple_add->Q1O,wpAny_isInstance->Q1P,BindsTo->Q1T,PassesOwn->Q1Y,getMethod->Q12,wpAny_dictEpoch->Q14,Keyword->Q2f,Value->Q2h,standAt->Q2l,IsPart->Q2p,frameOf->Q2r,assign->Q2v,compPost->Q2w,seqItems?->Q2y,Addr->Q2C,callerA->Q2E,getItem->Q2F,Within->Q2M
open PySem.Around renaming under->Q2G
open PySem.Builtin.Builtins renaming bindParams->Q1h
open PySem.Builtin.Dict renaming showsAll->Q1U
open PySem.Builtin.Dict_items renaming ownsTuple->Q1f
open PySem.Builtin.List renaming listTooLong->Q0I,listItems->Q09,listExtendWith->Q1i,listSameRef->Q1B
open PySem.Builtin.Slice renaming slicePlaces->Q0G,sliceAdjust->Q01,sliceApplied->Q1q
open PySem.Builtin.SmallTypes renaming nextOf->Q0r,ownedTupleIsFree->Q0w,ownedTupleHandOut->Q02
open PySem.Builtin.Str renaming occurrences->Q0C,partsBetween->Q1C,strKind->Q2b
open PySem.Builtin.Tuple renaming tupleExact->Q0J,tupleIsExact->Q1r,tupleItemsOf->Q1s,tupleTooMany->Q1t
open PySem.Calls renaming Name_function_global->Q1u
open PySem.Code renaming isFrame->Q2I
open PySem.EntryCells renaming newEntry->Q2c
open PySem.F renaming slot_list_count->Q1K,slot_list_index->Q1L,slot_dict_iter->Q1R
open PySem.Heap renaming SameBut->Q0U,FlyingW->Q1x,IsTuple->Q1V
open PySem.Heap.IsList renaming push->Q2N
open PySem.Heap.IsTuple renaming push->Q2A
open PySem.Obj renaming mapSeq->Q0t,mapFields->Q2q
open PySem.SeqAt renaming EqAt->Q1b
open PySem.SeqAt.EqAt renaming int_str->Q2s,str_int->Q2t
open PySem.Shared renaming heap->Q1c
open PySem.Str renaming ofString->Q0b,join->Q1g
open PySem.StrLaws renaming join_length_le->Q1S
open PySem.Value renaming ref->Q0f,none->Q0z,type->Q0A,bool->Q0K,int->Q03,notImplemented->Q17,str->Q2u
open PySem.W renaming findIn->Q0E,keepIn->Q0H,nsIn->Q0L,emptyDict->Q0X,kitOne->Q0Y,instObj->Q1m,fnOf->Q1Z,hideAll->Q10,fnOf->Q11,codeIn->Q15,plainGet->Q16,exmOne->Q18,findIn->Q2a,hasDictIn->Q2i,specialIn->Q2z
open Sum renaming inl->Q04,inr->Q2D
open Sum.inl renaming inj->Q2R
open True renaming intro->Q0D
local macro_rules|`(⇑$a)=>`($(a).heap.objs.size)
local macro_rules|`(↥$a)=>`($(a).length)
local macro_rules|`($a≈$b)=>`($a=some $b)
local macro_rules|`(⋯)=>`(by decide)
local macro_rules|`(∅)=>`(by omega)
def Ik:=@PySem.Around.under_plainId
def nu:=@Array.getElem?_eq_getElem
def CV:=@Array.getElem?_eq_some_iff
def Io:=@Array.getElem?_toList
def i8:=@Array.length_toList
def R8:=@Array.perm_iff_toList_perm
def k9:=@Bool.and_eq_true
def qx:=@Bool.and_false
def Bs:=@Bool.and_true
def qY:=@Bool.eq_iff_iff
def qP:=@Bool.false_eq_true
def u7:=@Bool.false_ne_true
def Jf:=@Bool.not_eq_true'
def HS:=@Bool.or_eq_true
def Ji:=@PySem.Calls.callWith_builtin
def Jg:=@PySem.Calls.call_function_entry
def Ij:=@PySem.Calls.evalArgs_plain
def IW:=@PySem.Calls.spliced_cons
def IV:=@PySem.F.args_str_split_2
def IK:=@PySem.F.args_tuple_mul_2
def Je:=@PySem.F.entry_str_split
def Jd:=@PySem.F.entry_tuple_mul
def qJ:=@PySem.F.plain_max_loop
def BZ:=@PySem.F.slot_int_rmul
def CT:=@PySem.F.slot_tuple_iterator_next
def qI:=@PySem.F.slot_tuple_mul
def BX:=@PySem.F.slot_zip_next
def Cw:=@PySem.Heap.SameBut.update
def u6:=@PySem.Heap.get?_push_of_some
def j6:=@PySem.Heap.get?_push_size
def g6:=@PySem.Heap.get?_update_other
def i6:=@PySem.Heap.get?_update_self
def j4:=@PySem.Heap.lt_size
def s0:=@PySem.Heap.size_push
def Cm:=@Int.emod_lt_of_pos
def mX:=@Int.emod_nonneg
def i9:=@Int.eq_ofNat_of_zero_le
def R7:=@Int.fdiv_eq_ediv_of_nonneg
def fH:=@Int.le_refl
def qC:=@Int.le_trans
def jy:=@Int.toNat_natCast
def rD:=@Int.toNat_of_nonneg
def gb:=@Int.zero_add
def CP:=@PyProof.Rows.KeyOrd.kle_of_klt
def jw:=@PyProof.Rows.KeyOrd.kle_refl
def BK:=@PyProof.Rows.KeyOrd.kle_trans
def Sd:=@List.Pairwise.imp_of_mem
def Jm:=@List.Perm.eq_of_pairwise
def Ig:=@List.Perm.refl
def qu:=@List.all_cons
def l5:=@List.all_eq_true
def mR:=@List.all_map
def qt:=@List.any_cons
def qM:=@List.append_assoc
def p7:=@List.append_nil
def jz:=@List.cons.inj
def BJ:=@List.cons_ne_nil
def By:=@List.countP_cons
def Im:=@List.countP_le_length
def CQ:=@List.drop_eq_getElem_cons
def Bx:=@List.drop_length
def R9:=@List.eq_of_mem_replicate
def Bw:=@List.ext_getElem
def CN:=@List.ext_getElem?
def Jc:=@List.filterMap_cons
def mW:=@List.find?_cons
def kI:=@List.flatten_cons
def mV:=@List.forIn_cons
def mU:=@List.forIn_nil
def p5:=@List.getD_eq_getElem?_getD
def l0:=@List.getElem?_append_left
def p6:=@List.getElem?_append_right
def h7:=@List.getElem?_cons_succ
def j7:=@List.getElem?_eq_getElem
def kh:=@List.getElem?_eq_none
def t8:=@List.getElem?_eq_some_iff
def q4:=@List.getElem?_map
def Cv:=@List.getElem?_range
def p8:=@List.getElem?_replicate
def fY:=@List.getElem?_set
def u9:=@List.getElem?_set_ne
def o4:=@List.getElem?_set_self
def Sg:=@List.getElem?_zip_eq_some
def Bv:=@List.getElem_map
def mZ:=@List.getElem_mem
def kW:=@List.getElem_of_mem
def j9:=@List.length_append
def g5:=@List.length_cons
def qH:=@List.length_drop
def nq:=@List.length_eq_zero_iff
def Cg:=@List.length_filter_le
def u5:=@List.length_map
def BW:=@List.length_nil
def kE:=@List.length_range
def jt:=@List.length_replicate
def qX:=@List.length_set
def fW:=@List.length_take
def r8:=@List.map_append
def qQ:=@List.map_congr_left
def n0:=@List.map_cons
def Cu:=@List.map_eq_nil_iff
def ql:=@List.map_id
def l4:=@List.map_map
def Br:=@List.map_set
def o0:=@List.mem_append
def rC:=@List.mem_append_left
def r9:=@List.mem_append_right
def t9:=@List.mem_cons
def r6:=@List.mem_cons_of_mem
def o5:=@List.mem_cons_self
def eU:=@List.mem_filter
def Iz:=@List.mem_filterMap
def g9:=@List.mem_map
def k6:=@List.mem_of_getElem?
def p4:=@List.mem_range
def t7:=@List.mem_singleton
def Jb:=@List.mergeSort_perm
def HR:=@List.nil_append
def CK:=@List.nodup_append
def iQ:=@List.nodup_cons
def jY:=@List.nodup_nil
def g8:=@List.not_mem_nil
def qW:=@List.of_mem_zip
def kO:=@List.pairwise_cons
def CJ:=@List.pairwise_map
def Jk:=@List.pairwise_mergeSort
def Ih:=@List.range_succ
def l7:=@List.replicate_succ
def j0:=@List.size_toArray
def BV:=@List.sum_append
def nj:=@List.sum_cons
def qL:=@List.take_add_one
def iK:=@List.take_length
def Jq:=@List.take_of_length_le
def CG:=@List.take_sublist
def Cd:=@List.take_succ
def Ie:=@List.take_zero
def HY:=@List.zipIdx_cons
def Iw:=@List.zip_cons_cons
def Cr:=@Nat.add_le_add_left
def Cq:=@Nat.add_left_cancel
def iJ:=@Nat.le_add_right
def qU:=@Nat.le_antisymm
def i7:=@Nat.le_of_lt
def i4:=@Nat.le_of_lt_succ
def jx:=@Nat.le_of_not_lt
def t6:=@Nat.le_refl
def Ce:=@Nat.le_sub_one_of_lt
def eX:=@Nat.le_succ
def Ib:=@Nat.le_succ_of_le
def k8:=@Nat.le_trans
def dW:=@Nat.lt_irrefl
def l6:=@Nat.lt_of_le_of_lt
def qO:=@Nat.lt_of_le_of_ne
def q5:=@Nat.lt_of_lt_of_le
def qK:=@Nat.lt_succ_of_lt
def mY:=@Nat.lt_succ_self
def km:=@Nat.min_eq_left
def HX:=@Nat.min_eq_right
def HW:=@Nat.min_le_right
def qz:=@Nat.mul_comm
def iR:=@Nat.ne_of_gt
def r4:=@Nat.ne_of_lt
def Ii:=@Nat.sub_le_sub_right
def Bu:=@Nat.sub_self
def Bt:=@Nat.sub_zero
def qG:=@Nat.succ_le_succ
def i3:=@Nat.zero_add
def cO:=@Nat.zero_le
def Ia:=@Nat.zero_lt_of_lt
def bh:=@Ne.symm
def Ck:=@PySem.Obj.data_mapFields
def u4:=@Option.bind_eq_some_iff
def q7:=@Option.bind_some
def R6:=@Option.isSome_iff_exists
def nG:=@Option.isSome_map
def u8:=@Option.map_eq_some_iff
def g0:=@Option.some.inj
def qp:=@PySem.Paired.length
def gF:=@PySem.PassesOwn.never
def gD:=@Prod.ext
def rA:=@PyProof.Rows.callWith_type1
def i5:=@PyProof.Rows.slot_tuple_getitem
def Sh:=@PySem.F.args_dict_keyiterator_next_1
def Jl:=@PySem.F.args_tuple_add_2
def Ss:=@PySem.F.entry_dict_keyiterator_next
def Jj:=@PySem.F.entry_tuple_add
def Jh:=@PySem.F.excBase_ValueError
def kj:=@PySem.F.plainAttrs_list
def ju:=@PySem.F.plainAttrs_str
def rB:=@PySem.F.slot_dict_keyiterator_next
def Dd:=@PySem.F.slot_list_append
def nD:=@PySem.F.slot_str_join
def Jp:=@PySem.F.slot_tuple_add
def Dc:=@PySem.F.type_list_append
def nC:=@PySem.F.type_str_join
def Cj:=@PySem.W.callWith_K
def Ci:=@PySem.W.cellsFrom_some
def Iv:=@PySem.W.codeRec_of
def Cp:=@PySem.W.hideAll_get
def eQ:=@PySem.W.kia_one
def Cz:=@PySem.W.kitx_dict
def p0:=@PySem.W.mg_of
def Ja:=@PySem.W.plainGet_of
def i0:=@PySem.mem_of_lookup
def Iu:=@PySem.SeqAt.EqAt.int_int
def Ir:=@PySem.SeqAt.EqAt.of_refs
def jZ:=@PySem.StrLaws.glued_eq_join
def l8:=@beq_eq_false_iff_ne
def fJ:=@beq_iff_eq
def qF:=@beq_self_eq_true
def eV:=@PySem.call_meets
def BR:=@PySem.codeAny_builtin
def Il:=@PySem.codeAny_call_function
def mQ:=@PySem.codeAny_mono
def bJ:=@congrArg
def qZ:=@decide_eq_decide
def r0:=@decide_eq_false
def h8:=@decide_eq_false_iff_not
def j3:=@decide_eq_true
def k7:=@decide_eq_true_eq
def gC:=@if_false
def j5:=@if_neg
def t5:=@if_pos
def dD:=@if_true
def Cy:=@not_false_eq_true
def fV:=@not_or
def j8:=@of_decide_eq_true
def cP:=@or_false
def qy:=@PyProof.Rows.pairsOf_size
def ni:=@PySem.plainId_quiet
def fZ:=@PySem.sizeLine_eq
def Ip:=@PySem.tupleKind_room_in1
def qm:=@PySem.typeIs_int
def mL:=@PySem.typeIs_str
def kJ:=@PySem.wpAny_Call_Name_kw
def Jo:=@PySem.wpAny_Call_method_late
def jr:=@PySem.wpAny_attempt
def u3:=@PySem.wpAny_bind
def mK:=@PySem.wpAny_call
def p9:=@PySem.wpAny_callSpecial?_slot
def fG:=@PySem.wpAny_call_entry
def BP:=@PySem.wpAny_dictEntries
def qT:=@PySem.wpAny_execs_nil
def dj:=@PySem.wpAny_field
def h9:=@PySem.wpAny_holding
def jX:=@PySem.wpAny_letGo
def nA:=@PySem.wpAny_loadPart'
def cG:=@PySem.wpAny_mono
def l9:=@PySem.wpAny_newObj_type
def kY:=@PySem.wpAny_passesOwn
def t4:=@PySem.wpAny_pure
def BL:=@PySem.wpAny_pyIter_enum
def nF:=@PySem.wpAny_pyIter_list
def iM:=@PySem.wpAny_pyIter_tuple
def iI:=@PySem.wpAny_rule
def gG:=@PySem.wpAny_seqItems
def Ca:=@PySem.wpAny_setField
def qN:=@PySem.wpAny_setField_rec
def fX:=@PySem.wpAny_truthy_bool
def qw:=@PySem.wpAny_tryCatch
def CW:=@PySem.wpAny_typeNameOfWhole_keyiter
def CZ:=@PySem.wpAny_typeNameOf_keyiter
def qD:=@PySem.wpAny_typeOf
def qR:=@PySem.wpAny_updateSeq
def bz:=@PyProof.Rows.wpS_bind
def mO:=@PyProof.Rows.wpS_forRange
def bQ:=@PyProof.Rows.wpS_pure
noncomputable section
abbrev yM:=Q2h->PySem.Shared->Prop
abbrev xz:=List (Q2C × PySem.Obj)
abbrev wA:=PySem.Str->Option Q2h
abbrev vJ:=List (Option Int)
abbrev Zg:=List (PySem.Str × Q2C)
abbrev ZG:=List (List Int)
abbrev wc:=Array Q2h
abbrev zr:=List Int
abbrev zC:=List Q2h
abbrev zF:=List PySem.Str
abbrev Yy:=List Nat
abbrev y0:=List PySem.Expr
abbrev vu:=List PySem.Stmt
abbrev xt:=List Q2C
abbrev y1:=Option Q2C
abbrev yl:=Option Int
abbrev zA:=PySem.W.Frag
abbrev vv:=PySem.FuncData
abbrev zO:=PySem.Program
abbrev zm:=PySem.Shared
abbrev zP:=PySem.Around
namespace L2
open PySem PySem.Spec PyProof.Rows
abbrev aJ:=Sum Int Str
def lQ:aJ->Q0e->Bool
 |.inl k,v=>Value.isInt k v
 |.inr x,v=>Value.isStrOf x v
def JH (w:Q0k):aJ->Int
 |.inl k=>hashInt k
 |.inr x=>hashStr w x
def yC:∀ {k:aJ} {v:Q0e},lQ k v=true->(∃ i t,k=Q04 i/\v=Q03 i t)\/(∃ x t,k=Q2D x/\v=Q2u x t)
 |.inl i,v,h=>by
  obtain⟨t,e⟩:=Value.isInt_shape (k:=i) (v:=v) h
  exact .inl ⟨i,t,rfl,e⟩
 |.inr x,v,h=>by
  obtain⟨t,e⟩:=Value.isStrOf_shape (x:=x) (v:=v) h
  exact .inr ⟨x,t,rfl,e⟩
def zhF (i:Int)(t:Tok):lQ (.inl i) (.int i t)=true:=by simp[lQ,Value.isInt]
def zhG (x:Str)(t:Tok):lQ (.inr x) (.str x t)=true:=by simp[lQ,Value.isStrOf]
def zpI (a b:Int):decide ((Q04 a:aJ)=Q04 b)=(a == b):=by
 by_cases e:a=b
 .subst e;simp
 .have h:¬ (Q04 a:aJ)=Q04 b:=λq=>e (Q2R q)
  rw[r0 h]
  exact(l8.mpr e).symm
def zpo (a b:Str):decide ((Q2D a:aJ)=Q2D b)=decide (a=b):=by
 by_cases e:a=b
 .subst e;simp
 .have h:¬ (Q2D a:aJ)=Q2D b:=λq=>e (Sum.inr.inj q)
  rw[r0 h,r0 e]
def zpM (a:Int)(b:Str):decide ((Q04 a:aJ)=Q2D b)=false:=r0 (λq=>nomatch q)
def zqd (a:Str)(b:Int):decide ((Q2D a:aJ)=Q04 b)=false:=r0 (λq=>nomatch q)
def xf (prog:zO)(w:Q0k):PySem.KeyKind prog w aJ where
 is:=lQ
 hash:=JH w
 inj:=λv a b ha hb=>by
  rcases yC ha with ⟨i,t,rfl,rfl⟩|⟨x,t,rfl,rfl⟩
  .rcases yC hb with ⟨j,u,rfl,e⟩|⟨y,u,rfl,e⟩
   .injection e with e1 _;rw[e1]
   .exact nomatch e
  .rcases yC hb with ⟨j,u,rfl,e⟩|⟨y,u,rfl,e⟩
   .exact nomatch e
   .injection e with e1 _;rw[e1]
 byValue:=λk v h=>by
  rcases yC h with ⟨i,t,rfl,rfl⟩|⟨x,t,rfl,rfl⟩ <;> rfl
 pyHash:=λhv h=>by
  rcases yC hv with ⟨i,t,rfl,rfl⟩|⟨x,t,rfl,rfl⟩
  .exact wpAny_pyHash_int h
  .exact wpAny_pyHash_str h
 eqBool:=λhu hv h=>by
  rcases yC hu with ⟨i,t,rfl,rfl⟩|⟨x,t,rfl,rfl⟩
  .rcases yC hv with ⟨j,u,rfl,rfl⟩|⟨y,u,rfl,rfl⟩
   .rw[zpI]at h;exact wpAny_eqBool_int h
   .rw[zpM]at h;exact Q2s i t y u _ _ _ _ h
  .rcases yC hv with ⟨j,u,rfl,rfl⟩|⟨y,u,rfl,rfl⟩
   .rw[zqd]at h;exact Q2t x t j u _ _ _ _ h
   .rw[zpo]at h;exact wpAny_eqBool_str h
 «strs»:=λk x t v h=>by
  rcases yC h with ⟨i,u,rfl,e⟩|⟨y,u,rfl,e⟩
  .exact nomatch e
  .injection e with e1 _
   subst e1
   cases v <;> rfl
def zd2 (a:zO)(w:Q0k)(i:Int)(t:Tok):(xf a w).is (.inl i) (.int i t)=true:=zhF i t
def zer (a:zO)(w:Q0k)(x:Str)(t:Tok):(xf a w).is (.inr x) (.str x t)=true:=zhG x t
inductive V where
 |non|bl (b:Bool)|int (i:Int)|str (x:Str)|byt (b:Array UInt8)|flt (b:UInt64)|ref (a:Addr)|ty (n:String)
 deriving DecidableEq
abbrev VV:=List (List aJ × V)
abbrev zD:=List V
def y6:V->Q0e->Prop
 |.non,u=>u=Q0z
 |.bl b,u=>u=Q0K b
 |.int i,u=>∃ t,u=Q03 i t
 |.str x,u=>∃ t,u=Q2u x t
 |.byt b,u=>∃ t,u=Value.bytes b t
 |.flt b,u=>∃ t,u=Value.float b t
 |.ref a,u=>u=Q0f a
 |.ty n,u=>u=Q0A n
abbrev yy:zD->zC->Prop:=Paired y6
def yy.length {a:zD}{b:zC}(r:yy a b):↥a=↥b:=qp r
def yy.get:∀ {a:zD} {b:zC} {i:Nat} {x:V},yy a b->a[i]?≈x->∃ u,b[i]?≈u/\y6 x u
 |_,_,_,_,.nil,e=>by simp at e
 |_,_,0,_,.cons r _,e=>by simp at e;subst e;exact⟨_,rfl,r⟩
 |_,_,i+1,x,.cons _ t,e=>by
  obtain⟨u,d,c⟩:=yy.get (i:=i) (x:=x) t (by simpa using e)
  exact⟨u,by simpa using d,c⟩
def yy.set (r:y6 x u):∀ {a:zD} {b:zC} (i:Nat),yy a b->yy (a.set i x) (b.set i u)
 |_,_,_,.nil=>.nil
 |_,_,0,.cons _ t=>.cons r t
 |_,_,i+1,.cons q t=>.cons q (yy.set r i t)
def yy.append:∀ {b a:zD} {d c:zC},yy b d->yy a c->yy (b++a) (d++c):=by
 intro b a d c h s
 induction h with
 |nil=>exact s
 |cons r t e=>exact .cons r e
def yy.take:∀ {a:zD} {b:zC} (n:Nat),yy a b->yy (a.take n) (b.take n)
 |_,_,0,_=>.nil
 |_,_,_+1,.nil=>.nil
 |_,_,n+1,.cons r t=>.cons r (yy.take n t)
def yy.drop:∀ {a:zD} {b:zC} (n:Nat),yy a b->yy (a.drop n) (b.drop n)
 |_,_,0,r=>r
 |_,_,_+1,.nil=>.nil
 |_,_,n+1,.cons _ t=>yy.drop n t
def dU:Option V->Option Q0e->Prop
 |some v,some u=>y6 v u
 |none,none=>True
 |_,_=>False
def KV {κ:Type}:List (κ × V)->List (κ × Q0e)->Prop:=Paired λ(p:κ × V) (q:κ × Q0e)=>p.1=q.1/\y6 p.2 q.2
def kV:aJ->V
 |.inl i=>.int i
 |.inr x=>.str x
inductive HO where
 |lst (xs:zD)
 |tup (xs:zD)
 |dK (kvs:List (aJ × V))|dT (kvs:VV)
 |set (S:Int->Bool) (n:Nat)
 |ins (C dx:Addr) (fs:List (Str × V))
 |own (x:Addr)
 |xd (fs:List (Str × V))
 |met (f x:Addr)
 |rng (lo hi:Int)
 |frz (o:Obj) (u:HO)
 |tbl (ps:wc)
 |ext (φ:Heap->Prop)
abbrev Hp:=Addr->Option HO
def aA (H:Hp)(a:Addr)(o:HO):Hp:=λb=>if b=a then some o else H b
def zn:aA H a o a≈o:=by unfold aA;rw[t5 rfl]
def zj {H:Hp}(h:b≠a):aA H a o b=H b:=by unfold aA;rw[j5 h]
def G5:aA (aA H a o) a u=aA H a u:=by
 funext b;unfold aA;split <;> rfl
def uV {H:Hp}(h:H a≈o)(c:H b≈u)(d:o≠u):a≠b:=by
 intro e;subst e;rw[h]at c;exact d (g0 c)
def zf {H:Hp}(h:H a≈o)(c:H b=none):a≠b:=by
 intro e;subst e;rw[h]at c;cases c
section
variable (P:zO)(w:Q0k)
def yU (H:Hp)(h:Heap)(a:Addr):HO->Prop
 | .lst d=>↥d<=sizeLine/\∃ (b:zC) (n:Nat),yy d b/\h.get? a≈{ cls:=.type "list",data:=.seq b.toArray n }
 |.tup d=>↥d<=sizeLine/\∃ b:zC,yy d b/\IsTup h a b.toArray
 |.dK c=>↥c<=sizeLine/\(a == Q0B)=false/\∃ j,KV c j/\h.DictOf (xf P w) a j
 |.dT c=>↥c<=sizeLine/\(a == Q0B)=false/\∃ d:List (List aJ × Addr × Q0e),
  Paired (λ(p:List aJ × V) (q:List aJ × Addr × Q0e)=>p.1=q.1/\H q.2.1≈(.tup (p.1.map kV))/\y6 p.2 q.2.2) c d /\
  ∃ o m r,h.get? a≈o/\o.ExactDict/\o.data=.dict m r/\m.toList=d.map (entryOfKey (Q1p (xf P w)))/\(d.map (·.1)).Nodup
 |.set S n=>h.SetOf (intKind P w) a S n
 |.ins C i g=>H i≈(.own a)/\↥g<=1000/\i≠a/\h.get? a≈(Q1m C i) /\
  ∃ e,h.Ns1 i e/\(∀ f,dU (g.lookup f) (e f))/\Q2M e (g.map (·.1))
 |.own _=>∃ o,h.get? a≈o
 |.xd g=>∃ e,h.Ns1 a e/\∀ f,dU (g.lookup f) (e f)
 | .rng z s=>∃ t u v,h.get? a≈{ cls:=.type "range",data:=.fields #[.int z t,.int s u,.int 1 v] }
 |.frz o u=>h.get? a≈o/\yU H h a u
 |.tbl y=>h.get? a≈{ cls:=.none,data:=.fields y }
 |.met f x=>h.get? a≈(W.methodObj (.ref f) (.ref x))
 |.ext φ=>φ h/\(∃ o,h.get? a≈o)/\∀ l k:Heap,φ l->(∀ o,l.get? a≈o->k.get? a≈o)->φ k
def aW (H:Hp)(h:Heap):Prop:=∀ a o,H a≈o->yU P w H h a o
end
section
variable {P:zO}{w:Q0k}{H H':Hp}{h h':Heap}{a:Addr}{o:HO}
def yU.lt (x:yU P w H h a o):a<h.objs.size:=by
 cases o with
 |lst d=>obtain⟨_,_,_,_,e⟩:=x;exact j4 e
 |tup d=>obtain⟨_,_,_,p⟩:=x;exact p.lt
 |dK b=>obtain⟨_,_,_,_,o,_,_,e,_⟩:=x;exact j4 e
 |dT b=>obtain⟨_,_,_,_,o,_,_,e,_⟩:=x;exact j4 e
 |set S n=>obtain⟨o,_,_,_,e,_⟩:=x;exact j4 e
 |ins C l c=>obtain⟨_,_,_,e,_⟩:=x;exact j4 e
 |own y=>obtain⟨_,e⟩:=x;exact j4 e
 |xd c=>obtain⟨_,⟨_,_,_,e,_⟩,_⟩:=x;exact j4 e
 |rng k g=>obtain⟨_,_,_,e⟩:=x;exact j4 e
 |frz i u=>obtain⟨e,_⟩:=x;exact j4 e
 |tbl j=>exact j4 (show h.get? a≈_ from x)
 |met f y=>exact j4 (show h.get? a≈_ from x)
 |ext φ=>obtain⟨_,⟨_,e⟩,_⟩:=x;exact j4 e
def Paired.mapP {α β:Type}{F G:α->β->Prop}:∀ {d:List α} {c:List β},Paired F d c->(∀ a b,F a b->G a b)->Paired G d c:=by
 intro g i h f
 induction h with
 |nil=>exact .nil
 |cons r t e=>exact .cons (f _ _ r) e
def yU.stay (x:yU P w H h a o)(k:∀ b u,(b=a\/H b≈(.own a))->h.get? b≈u->h'.get? b≈u)
 (K:∀ b,H b≈(.own a)->H' b≈(.own a)) (G:∀ b m,H b≈(.tup m)->H' b≈(.tup m)):yU P w H' h' a o:=by
 induction o with
 |lst m=>obtain⟨z,l,n,r,e⟩:=x;exact⟨z,l,n,r,k _ _ (.inl rfl) e⟩
 |tup m=>obtain⟨z,l,r,g,e,c⟩:=x;exact⟨z,l,r,g,k _ _ (.inl rfl) e,c⟩
 |dK s=>obtain⟨z,y,J,r,g,j,i,e,c⟩:=x;exact⟨z,y,J,r,g,j,i,k _ _ (.inl rfl) e,c⟩
 |dT s =>
  obtain⟨z,y,m,r,g,j,i,e,c⟩:=x
  exact⟨z,y,m,Paired.mapP r λp q z=>⟨z.1,G _ _ z.2.1,z.2.2⟩,g,j,i,k _ _ (.inl rfl) e,c⟩
 |set S n=>obtain⟨g,j,i,t,e,c⟩:=x;exact⟨g,j,i,t,k _ _ (.inl rfl) e,c⟩
 |ins C N L =>
  obtain⟨d,z,I,e,A,⟨B,j,i,F,c⟩,r⟩:=x
  exact⟨K _ d,z,I,k _ _ (.inl rfl) e,A,⟨B,j,i,k _ _ (.inr d) F,c⟩,r⟩
 |own y=>obtain⟨g,e⟩:=x;exact⟨g,k _ _ (.inl rfl) e⟩
 |xd L=>obtain⟨A,⟨B,j,i,e,c⟩,r⟩:=x;exact⟨A,⟨B,j,i,k _ _ (.inl rfl) e,c⟩,r⟩
 |rng Q O=>obtain⟨t,u,v,e⟩:=x;exact⟨t,u,v,k _ _ (.inl rfl) e⟩
 |frz g u M=>obtain⟨e,q⟩:=x;exact⟨k _ _ (.inl rfl) e,M q⟩
 |tbl E =>
  have e:h.get? a≈{ cls:=.none,data:=.fields E }:=x
  show h'.get? a≈{ cls:=.none,data:=.fields E }
  exact k a _ (.inl rfl) e
 |met f y =>
  have e:h.get? a≈(W.methodObj (.ref f) (.ref y)):=x
  show h'.get? a≈(W.methodObj (.ref f) (.ref y))
  exact k a _ (.inl rfl) e
 |ext φ=>obtain⟨p,⟨o,e⟩,D⟩:=x;exact⟨D _ _ p λo q=>k _ _ (.inl rfl) q,⟨o,k _ _ (.inl rfl) e⟩,D⟩
def aW.lt (x:aW P w H h)(e:H a≈o):a<h.objs.size:=(x a o e).lt
def aW.fresh (x:aW P w H h)(e:h.objs.size<=a):H a=none:=by
 cases q:H a with
 |none=>rfl
 |some u=>exact absurd (q5 (x.lt q) e) (dW _)
def aW.kept (x:aW P w H h)(k:∀ b u,h.get? b≈u->h'.get? b≈u):aW P w H h':=λa o e =>
 (x a o e).stay (λb u _ q=>k b u q) (λ_ q=>q) λ_ _ q=>q
def aW.laid (x:aW P w H h)(k:∀ b u,h.get? b≈u->h'.get? b≈u)(i:h.objs.size<=a)(d:yU P w (aA H a o) h' a o):aW P w (aA H a o) h':=λb u e=>by
 have f:=x.fresh i
 by_cases g:b=a
 .subst g;rw[zn]at e;cases e;exact d
 .rw[zj g]at e
  exact(x b u e).stay (λc v _ q=>k c v q) (λc q=>by rw[zj (zf q f)];exact q) λc j q=>by rw[zj (zf q f)];exact q
end
def Rd (H:Hp)(a:Addr)(u:HO):Prop:=H a≈u\/∃ o,H a≈(.frz o u)
def Rd.ok {w:Q0k}(r:Rd H a u)(x:aW P w H h):yU P w H h a u:=by
 rcases r with r|⟨o,r⟩
 .exact x a u r
 .obtain⟨_,q⟩:=x a _ r
  exact q
def nR:Option HO->Prop
 |some (.lst _)=>True
 |some (.dK _)=>True
 |some (.dT _)=>True
 |some (.set _ _)=>True
 |some (.ins _ _ _)=>True
 |some (.ext _)=>True
 |_=>False
section
variable {P:zO}{w:Q0k}{H:Hp}{h h':Heap}{x e:Addr}{o':HO}
def aW.write (ok:aW P w H h)(g:nR (H x))(o:e=x\/H e≈(.own x))(k:∀ b u,b≠e->h.get? b≈u->h'.get? b≈u)(m:∃ u,h'.get? e≈u)
 (n:yU P w (aA H x o') h' x o'):aW P w (aA H x o') h':=λb u q=>by
 have d:∀ c y,H c≈(.own y)->c≠x:=λc y r z=>by subst z;rw[r]at g;exact g
 have f:∀ c l,H c≈(.tup l)->c≠x:=λc l r z=>by subst z;rw[r]at g;exact g
 by_cases j:b=x
 .subst j;rw[zn]at q;cases q;exact n
 .rw[zj j]at q
  by_cases a:b=e
  .have p:H b≈(.own x):=by
    rcases o with z|z
    .exact absurd (a.trans z) j
    .rw[a];exact z
   rw[q]at p;cases p
   obtain⟨v,s⟩:=m
   exact⟨v,by rw[a];exact s⟩
  .refine(ok b u q).stay (λc v i r=>k c v ?_ r) (λc r=>by rw[zj (d c b r)];exact r) λc l r=>by rw[zj (f c l r)];exact r
   rcases i with rfl|i
   .exact a
   .rintro rfl
    rcases o with z|z
    .exact d c b i z
    .rw[i]at z;cases z;exact j rfl
end
structure Un (fs ex:xt) (H H':Hp) (h h':Heap):Prop where
 keep:∀ b o,h.get? b≈o->H b=none->b∉fs->b∉ex->h'.get? b≈o
 slot:∀ b o,h.get? b≈o->H b=none->b∈fs->b∉ex->∃ sl,h'.get? b≈{ o with slots:=sl }
 free:∀ b o,h.get? b≈o->H b=none->b∉ex->H' b=none
 there:∀ b o,h.get? b≈o->b∉ex->∃ o',h'.get? b≈o'
 tups:∀ b xs,H b≈(.tup xs)->H' b≈(.tup xs)
 frzs:∀ b o u,H b≈(.frz o u)->H' b≈(.frz o u)
 tbls:∀ b ps,H b≈(.tbl ps)->∃ more,H' b≈(.tbl (ps++more))
section
variable {fs fs' ex ex':xt}{H H1 H2:Hp}{h h1 h2 h':Heap}{a x e:Addr}{o:HO}
def Un.any (u:Un fs ex H H1 h h1){a:Obj}(q:h.get? b≈a)(n:H b=none)(d:b∉ex):∃ e,h1.get? b≈{ a with slots:=e }:=by
 by_cases c:b∈fs
 .exact u.slot b a q n c d
 .exact⟨a.slots,u.keep b a q n c d⟩
def Un.kept (k:∀ b u,h.get? b≈u->h'.get? b≈u):Un fs ex H H h h' :=
 ⟨λb a q _ _ _=>k b a q,λb a q _ _ _=>⟨a.slots,k b a q⟩,λ_ _ _ n _=>n,λb a q _=>⟨a,k b a q⟩,λ_ _ q=>q,λ_ _ _ q=>q,λ_ c q=>⟨#[],by rw[q];simp⟩⟩
def Un.refl:Un fs ex H H h h:=Un.kept λ_ _ q=>q
def Un.laid (k:∀ b u,h.get? b≈u->h'.get? b≈u)(hp:h.objs.size<=a)(hn:H a=none):Un fs ex H (aA H a o) h h' where
 keep:=λb u q _ _ _=>k b u q
 slot:=λb u q _ _ _=>⟨u.slots,k b u q⟩
 free:=λb u q n _=>by rw[zj (r4 (q5 (j4 q) hp))];exact n
 there:=λb u q _=>⟨u,k b u q⟩
 tups:=λb xs q=>by rw[zj (zf q hn)];exact q
 frzs:=λb u xs q=>by rw[zj (zf q hn)];exact q
 tbls:=λb ps q=>⟨#[],by rw[zj (zf q hn),q];simp⟩
def Un.write (c:nR (H x))(j:e=x\/H e≈(.own x))(k:∀ b u,b≠e->h.get? b≈u->h'.get? b≈u)(f:∃ u,h'.get? e≈u):Un fs ex H (aA H x o) h h':=by
 have i:∀ b,H b=none->b≠x:=λb n z=>by subst z;rw[n]at c;exact c
 have g:∀ b,H b=none->b≠e:=λb n z=>by
  subst z
  rcases j with r|r
  .exact i b n r
  .rw[n]at r;cases r
 have d:∀ b u,H b≈u->¬ nR (some u)->b≠x:=λb u q m z=>by subst z;rw[q]at c;exact m c
 refine⟨λb u q n _ _=>k b u (g b n) q,λb u q n _ _=>⟨u.slots,k b u (g b n) q⟩,λb u q n _=>by rw[zj (i b n)];exact n,λb u q _=>?_,
  λb l q=>by rw[zj (d b _ q λz=>z)];exact q,λb u l q=>by rw[zj (d b _ q λz=>z)];exact q,λb p q=>⟨#[],by rw[zj (d b _ q λz=>z),q];simp⟩⟩
 by_cases a:b=e
 .subst a;exact f
 .exact⟨u,k b u a q⟩
end
def De (h:Heap)(H:Hp):xt:=(Q0g h.objs.size).filter λa=>(H a).isSome
def ig (h:Heap)(H:Hp):Heap:=W.hideAll h (De h H)
def zhq (h:Heap)(H:Hp):(ig h H).objs.size=h.objs.size:=W.hideAll_size _ _
def zls {h:Heap}{H:Hp}(e:h.get? b≈o)(n:H b=none):(ig h H).get? b≈o :=
 Cp _ e λa=>by
  have q:(H b).isSome=true:=(eU.mp a).2
  rw[n]at q;simp at q
def znI {h:Heap}{H:Hp}(e:(ig h H).get? b≈o):h.get? b≈o/\H b=none:=by
 have a:h.get? b≈o:=W.of_hideAll (De h H) e
 refine⟨a,?_⟩
 cases q:H b with
 |none=>rfl
 |some x =>
  have c:b∈De h H:=eU.mpr ⟨p4.mpr (j4 a),by simp[q]⟩
  have z:(ig h H).get? b=none:=W.hideAll_none (De h H) c
  rw[z]at e;cases e
def zne (g h:Heap)(L:Addr):xz:=(Q0g h.objs.size).filterMap λa=>if a=L\/(g.get? a).isSome then none else (h.get? a).map λo=>(a,o)
def rest (g h:Heap)(L d:Addr):xz:=(zne g h L).filter λp=>decide (p.1≠d)
structure Mod (K:zA) (mg:wA) (base:Heap):Prop where
 kin:K.In base
 glob:base.Ns Q0h mg
 blt:∃ mb,base.Ns builtinsNs mb/\∀ x:Str,x≠"__name__"->mb x=Q0j x
 nolimit:base.NoLimit
structure Cx where
 prog:Program
 w:Q0k
 K:W.Frag
 mg:wA
 base:Heap
 A:Around
 N:zF
 s₀:Q0u
 H₀:Hp
 env:Env
 outer:List Env
 stack:List Env
 ex:xt
 fn:Str->Bool
 calm:Bool
 pn:xz
 xe:yM
def bM (l:List Env):xt:=l.filterMap (·.frame)
abbrev Cx.fs (X:Cx):xt:=bM X.outer
def bR (sc:Scope)(x:Str):Prop:=sc.names.lookup x≈.local\/sc.names.lookup x≈.cell\/sc.names.lookup x≈.free
def eF (sc:Scope)(x:Str):Prop:=sc.names.lookup x≈.local\/sc.names.lookup x≈.cell
def JZ (env:Env)(h:Heap)(m:wA)(x:Str)(u:Q0e):Prop :=
 (env.kindOf x≈.local/\m x≈u)\/((env.kindOf x≈.cell\/env.kindOf x≈.free)/\∃ c,env.cells.lookup x≈c/\h.IsCell c (some u))
structure Cx.Ok (X:Cx):Prop where
 mod:Mod X.K X.mg X.base
 kind:X.env.scope.kind=.function
 glob:X.env.globals=Q0h
 blt:X.env.builtins=builtinsNs
 above:⇑X.s₀<=X.env.locals
 inj:∀ x y c,X.env.cells.lookup x≈c->X.env.cells.lookup y≈c->x=y
 has:∀ x,(X.env.kindOf x≈.cell\/X.env.kindOf x≈.free)->∃ c,X.env.cells.lookup x≈c
 cab:∀ x c,X.fn x=true->X.env.cells.lookup x≈c->⇑X.s₀<=c
 hd:X.calm=true->X.A.handled=none
 frames:X.A.frames≈X.stack
 stk:X.stack=X.outer\/(X.stack=X.env::X.outer/\X.env.frame≈X.env.locals)
 exf:∀ b∈X.ex,b≠X.env.locals/\∀ x c,X.env.cells.lookup x≈c->c≠b
 bs:∀ b o,X.base.get? b≈o->X.s₀.heap.get? b≈o/\X.H₀ b=none
 bsz:X.base.objs.size<=⇑X.s₀
 noex:∀ b o,X.base.get? b≈o->b∉X.ex
 exfs:∀ b∈X.ex,b∉X.fs
 funs:X.s₀.heap.FunFrames X.base X.outer
 frf:∀ b∈X.fs,X.H₀ b=none
structure aj (X:Cx) (pins:xz) (σ:List (Option V)) (H:Hp) (s:zm):Prop where
 ok:X.Ok
 os:s.os=X.s₀.os
 bare:Q1y s.gens
 base:Un X.fs X.ex X.H₀ H X.s₀.heap s.heap
 loc:∃ m,s.heap.Ns X.env.locals m/\∀ (i:Nat) (x:Str) (v:V),X.N[i]?≈x->σ[i]?≈(some v)->bR X.env.scope x->∃ u,y6 v u/\JZ X.env s.heap m x u
 cell:∀ x c,X.env.cells.lookup x≈c->∃ v,s.heap.IsCell c v
 free:H X.env.locals=none
 freeC:∀ x c,X.env.cells.lookup x≈c->H c=none
 pin:∀ p∈X.pn++pins,s.heap.get? p.1≈p.2/\H p.1=none/\p.1≠X.env.locals/\p.1∉X.fs/\∀ v,p.2.data≠.cell v
 hok:aW X.prog X.w H s.heap
 len:σ.length=X.N.length
section
variable {X:Cx}{pins:xz}{σ:List (Option V)}{H H':Hp}{s:zm}{h':Heap}
def Cx.Ok.nofr (ok:X.Ok)(e:X.base.get? b≈o):b∉X.fs:=λa=>by
 have:=(ok.funs.mem a).1
 rw[e]at this;cases this
def aj.bs (I:aj X pins σ H s):∀ b o,X.base.get? b≈o->s.heap.get? b≈o/\H b=none:=λb o e =>
 ⟨I.base.keep b o (I.ok.bs b o e).1 (I.ok.bs b o e).2 (I.ok.nofr e) (I.ok.noex b o e),I.base.free b o (I.ok.bs b o e).1 (I.ok.bs b o e).2 (I.ok.noex b o e)⟩
def aj.bk (I:aj X pins σ H s):∀ b o,X.base.get? b≈o->s.heap.get? b≈o:=λb o e=>(I.bs b o e).1
def aj.mod (I:aj X pins σ H s):Mod X.K X.mg X.base:=I.ok.mod
def aj.kIn (I:aj X pins σ H s):X.K.In s.heap:=I.ok.mod.kin.keeps I.bk
def aj.lt (I:aj X pins σ H s):X.env.locals<⇑s:=let ⟨_,hn,_⟩:=I.loc;hn.lt
def aj.sz (I:aj X pins σ H s):⇑X.s₀<=⇑s:=k8 I.ok.above (i7 I.lt)
def aj.nofs (I:aj X pins σ H s)(h:⇑s<=a):a∉X.fs:=λb=>by
 obtain⟨_,o,c,_⟩:=I.ok.funs.mem b
 exact absurd (q5 (j4 c) (k8 I.sz h)) (dW _)
def aj.cne (I:aj X pins σ H s):∀ x c,X.env.cells.lookup x≈c->c≠X.env.locals:=λx c e z=>by
 obtain⟨v,o,d,f⟩:=I.cell x c e
 obtain⟨m,⟨g,i,h,a,b,_⟩,_⟩:=I.loc
 rw[z,a]at d;cases d;rw[b]at f;cases f
def aj.funs (I:aj X pins σ H s):s.heap.FunFrames X.base X.outer:=by
 have a:∀ (l:List Env),(∀ b∈bM l,b∈X.fs)->X.s₀.heap.FunFrames X.base l->s.heap.FunFrames X.base l:=by
  intro l
  induction l with
  |nil=>intro _ _;trivial
  |cons env r p =>
   intro g k
   obtain⟨h,⟨L,o,d,i,n,j⟩,m⟩:=k
   have c:L∈X.fs:=g L (by unfold bM;rw[Jc,d];exact o5)
   obtain⟨q,e⟩:=I.base.slot L o n (I.ok.frf L c) c λz=>I.ok.exfs L z c
   exact⟨h,⟨L,_,d,i,e,j⟩,p (λb f=>g b (by unfold bM;rw[Jc,d];exact r6 _ f)) m⟩
 exact a X.outer (λ_ f=>f) I.ok.funs
def aj.stack (I:aj X pins σ H s):s.heap.FunFrames X.base X.stack:=by
 rcases I.ok.stk with e|⟨e,a⟩
 .rw[e];exact I.funs
 .rw[e]
  obtain⟨m,b,_⟩:=I.loc
  refine .cons (by rw[I.ok.kind];decide) a b ?_ I.funs
  exact Heap.get?_none_of_le (k8 I.ok.bsz I.ok.above)
def aj.stkSub (I:aj X pins σ H s):∀ b∈bM X.stack,b∈X.env.locals::X.fs:=λb a=>by
 rcases I.ok.stk with e|⟨e,c⟩
 .rw[e]at a;exact r6 _ a
 .rw[e]at a
  unfold bM at a
  rw[Jc,c]at a
  exact a
def aj.stkFree (I:aj X pins σ H s):∀ b∈bM X.stack,H b=none:=λb a=>by
 rcases t9.mp (I.stkSub b a)with e|a
 .rw[e];exact I.free
 .obtain⟨_,o,c,_⟩:=I.ok.funs.mem a
  exact I.base.free b o c (I.ok.frf b a) λz=>I.ok.exfs b z a
def aj.step {g':Array GenState}{t':Nat}{d':Drawn}{ch:xt}(I:aj X pins σ H s)
 (h:∀ b∈ch,(b∈X.ex\/⇑X.s₀<=b)/\b≠X.env.locals/\(∀ x c,X.env.cells.lookup x≈c->c≠b)/\∀ p∈X.pn++pins,p.1≠b)
 (keep:∀ b o,b≠X.env.locals->b∉X.fs->b∉ch->s.heap.get? b≈o->H b=none->h'.get? b≈o)
 (A:∀ b o,b≠X.env.locals->b∈X.fs->b∉ch->s.heap.get? b≈o->H b=none->∃ Q,h'.get? b≈{ o with slots:=Q }) (f:∀ b o,b∉ch->s.heap.get? b≈o->H b=none->H' b=none)
 (B:∀ b o,b∉ch->s.heap.get? b≈o->∃ J,h'.get? b≈J)
 (M:∀ b y,H b≈(.tup y)->H' b≈(.tup y)) (L:∀ b o u,H b≈(.frz o u)->H' b≈(.frz o u)) (F:∀ b N,H b≈(.tbl N)->∃ K,H' b≈(.tbl (N++K)))
 (ns:∀ m,s.heap.Ns X.env.locals m->h'.Ns X.env.locals m) (P:aW X.prog X.w H' h') (hg:Q1y g') :
 aj X pins σ H' { s with heap:=h',gens:=g',drawn:=d',toks:=t' }:=by
 have G:∀ b o,X.s₀.heap.get? b≈o->b≠X.env.locals:=λb o e=>r4 (q5 (j4 e) I.ok.above)
 have w:∀ b o,X.s₀.heap.get? b≈o->b∉X.ex->b∉ch:=λb o e a C=>by
  rcases(h b C).1 with z|z
  .exact a z
  .exact absurd (q5 (j4 e) z) (dW _)
 have j:∀ x c,X.env.cells.lookup x≈c->∀ v,s.heap.IsCell c v->h'.IsCell c v:=λx c e v ⟨o,D,R⟩=>by
  have g:c∉ch:=λz=>(h c z).2.2.1 x c e rfl
  by_cases U:c∈X.fs
  .obtain⟨Q,q⟩:=A c o (I.cne x c e) U g D (I.freeC x c e)
   exact⟨_,q,R⟩
  .exact⟨o,keep c o (I.cne x c e) U g D (I.freeC x c e),R⟩
 refine⟨I.ok,I.os,hg,⟨λb o e n C a=>?_,λb o e n C a=>?_,λb o e n a=>?_,λb o e a=>?_,λb y e=>M b y (I.base.tups b y e),λb o y e=>L b o y (I.base.frzs b o y e),λb N e=>?_⟩,?_,λx c e=>?_,?_,λx c e=>?_,λp T=>?_,P,I.len⟩
 .exact keep b o (G b o e) C (w b o e a) (I.base.keep b o e n C a) (I.base.free b o e n a)
 .obtain⟨Q,t⟩:=I.base.slot b o e n C a
  obtain⟨O,E⟩:=A b _ (G b o e) C (w b o e a) t (I.base.free b o e n a)
  exact⟨O,E⟩
 .obtain⟨J,t⟩:=I.base.there b o e a
  exact f b J (w b o e a) t (I.base.free b o e n a)
 .obtain⟨J,t⟩:=I.base.there b o e a
  exact B b J (w b o e a) t
 .obtain⟨m1,t⟩:=I.base.tbls b N e
  obtain⟨Z,E⟩:=F b _ t
  exact⟨m1++Z,by rw[E,Array.append_assoc]⟩
 .obtain⟨m,Y,W⟩:=I.loc
  refine⟨m,ns m Y,λi x v t E e3=>?_⟩
  obtain⟨u,r,l⟩:=W i x v t E e3
  refine⟨u,r,?_⟩
  rcases l with l|⟨k,c,e,z⟩
  .exact .inl l
  .exact .inr ⟨k,c,e,j x c e _ z⟩
 .obtain⟨v,z⟩:=I.cell x c e
  exact⟨v,j x c e v z⟩
 .obtain⟨m,⟨o,_,_,D,_⟩,_⟩:=I.loc
  exact f _ o (λz=>(h _ z).2.1 rfl) D I.free
 .obtain⟨v,o,D,R⟩:=I.cell x c e
  exact f c o (λz=>(h c z).2.2.1 x c e rfl) D (I.freeC x c e)
 .obtain⟨e,n,S,V,d⟩:=I.pin p T
  have g:p.1∉ch:=λz=>(h p.1 z).2.2.2 p T rfl
  exact⟨keep p.1 p.2 S V g e n,f p.1 p.2 g e n,S,V,d⟩
def aj.un {t':Nat}(I:aj X pins σ H s)(u:Un X.fs [] H H' s.heap h')(g:aW X.prog X.w H' h'):aj X pins σ H' { s with heap:=h',toks:=t' }:=by
 obtain⟨m,⟨o,t,q,h,r⟩,_⟩:=id I.loc
 obtain⟨v,i⟩:=u.any h I.free (by simp)
 exact I.step (g':=s.gens) (d':=s.drawn) (ch:=[]) (λ_ z=>nomatch z) (λb o _ f _ e n=>u.keep b o e n f (by simp)) (λb o _ f _ e n=>u.slot b o e n f (by simp)) (λb o _ e n=>u.free b o e n (by simp)) (λb o _ e=>u.there b o e (by simp)) u.tups u.frzs u.tbls (λp j=>by
  obtain⟨l,c,d,a,k⟩:=j
  rw[h]at a;cases a
  exact⟨_,c,d,i,k⟩) g I.bare
def aj.call {t':Nat}(I:aj X pins σ H s)(u:Un (bM X.stack) ch H H' s.heap h')(h:aW X.prog X.w H' h')(v:Q1y g')(d:∀ b∈ch,(b∈X.ex\/⇑X.s₀<=b)/\b≠X.env.locals/\(∀ x c,X.env.cells.lookup x≈c->c≠b)/\∀ p∈X.pn++pins,p.1≠b) :
 aj X pins σ H' { s with heap:=h',gens:=g',drawn:=d',toks:=t' }:=by
 obtain⟨m,⟨o,C,w,k,r⟩,_⟩:=id I.loc
 obtain⟨y,j⟩:=u.any k I.free λz=>(d _ z).2.1 rfl
 exact I.step (ch:=ch) d (λb o j q a e n=>u.keep b o e n (λz=>(t9.mp (I.stkSub b z)).elim j q) a) (λb o _ _ a e n=>u.any e n a) (λb o a e n=>u.free b o e n a) (λb o a e=>u.there b o e a) u.tups u.frzs u.tbls (λB t=>by
  obtain⟨A,g,i,f,l⟩:=t
  rw[k]at f;cases f
  exact⟨_,g,i,j,l⟩) h v
def aj.turned {t':Nat}(I:aj X pins σ H s)(k:∀ b o,b≠a->s.heap.get? b≈o->h'.get? b≈o)(y:H a=none)(g:a≠X.env.locals)(l:a∈X.ex\/⇑X.s₀<=a)(i:∀ x c,X.env.cells.lookup x≈c->c≠a)(h:∀ p∈X.pn++pins,p.1≠a):aj X pins σ H { s with heap:=h',toks:=t' }:=by
 have f:∀ b u,H b≈u->b≠a:=λb u e z=>by rw[z,y]at e;cases e
 refine I.step (g':=s.gens) (d':=s.drawn) (ch:=[a]) (λb w=>?_) (λb o _ _ d e _=>k b o (λz=>d (by simp[z])) e) (λb o _ _ d e _=>⟨o.slots,k b o (λz=>d (by simp[z])) e⟩) (λ_ _ _ _ n=>n)
  (λb o d e=>⟨o,k b o (λz=>d (by simp[z])) e⟩) (λ_ _ e=>e) (λ_ _ _ e=>e) (λb C e=>⟨#[],by rw[e];simp⟩) (λm A=>?_) (λb u e=>?_) I.bare
 .have e:b=a:=by simpa using w
  subst e
  exact⟨l,g,i,h⟩
 .obtain⟨o,B,t,j,r⟩:=A
  exact⟨o,B,t,k _ o (bh g) j,r⟩
 .refine(I.hok b u e).stay (λc v d q=>k c v ?_ q) (λ_ q=>q) λ_ _ q=>q
  rcases d with z|z
  .rw[z];exact f b u e
  .exact f c _ z
def aj.tok (I:aj X pins σ H s)(t:Nat):aj X pins σ H { s with toks:=t }:=I.un (h':=s.heap) (t':=t) Un.refl I.hok
def aj.kept {t':Nat}(I:aj X pins σ H s)(k:∀ b u,s.heap.get? b≈u->h'.get? b≈u):aj X pins σ H { s with heap:=h',toks:=t' }:=I.un (Un.kept k) (I.hok.kept k)
def aj.laid {t':Nat}(I:aj X pins σ H s)(k:∀ b u,s.heap.get? b≈u->h'.get? b≈u)(c:⇑s<=a)(d:yU X.prog X.w (aA H a o) h' a o) :
 aj X pins σ (aA H a o) { s with heap:=h',toks:=t' }:=I.un (Un.laid k c (I.hok.fresh c)) (I.hok.laid k c d)
def aj.write {t':Nat}(I:aj X pins σ H s)(d:nR (H x))(f:e=x\/H e≈(.own x))(k:∀ b u,b≠e->s.heap.get? b≈u->h'.get? b≈u)(a:∃ u,h'.get? e≈u)(c:yU X.prog X.w (aA H x o) h' x o):aj X pins σ (aA H x o) { s with heap:=h',toks:=t' }:=I.un (Un.write d f k a) (I.hok.write d f k a c)
def aj.weak {a:List (Option V)}(I:aj X pins σ H s)(d:↥a=σ.length)(w:∀ (i:Nat) v,a[i]?≈(some v)->σ[i]?≈(some v)):aj X pins a H s :=
 ⟨I.ok,I.os,I.bare,I.base,let ⟨m,hn,hl'⟩:=I.loc;⟨m,hn,λi x v e b c=>hl' i x v e (w i v b) c⟩,I.cell,I.free,I.freeC,I.pin,I.hok,d.trans I.len⟩
def aj.pins_of (I:aj X pins σ H s)(h:∀ p∈a,s.heap.get? p.1≈p.2/\H p.1=none/\p.1≠X.env.locals/\p.1∉X.fs/\∀ v,p.2.data≠.cell v):aj X a σ H s :=
 ⟨I.ok,I.os,I.bare,I.base,I.loc,I.cell,I.free,I.freeC,λp b=>(o0.mp b).elim (λz=>I.pin p (rC _ z)) (h p),I.hok,I.len⟩
def Hw {N:zF}(d:N.Nodup){i j:Nat}(a:N[i]?≈x)(b:N[j]?≈x):i=j:=by
 obtain⟨g,e⟩:=t8.mp a
 obtain⟨f,c⟩:=t8.mp b
 exact(List.getElem_inj d).mp (e.trans c.symm)
def zh0 {i:Nat}{Q:Unit->Q0u->Prop}(I:aj X pins σ H s)(hN:X.N.Nodup)(R:X.N[i]?≈x)(w:eF X.env.scope x)(r:y6 v u)(h:∀ s',aj X pins (σ.set i (some v)) H s'->(∃ a,Q0U a s.heap s'.heap/\(a=X.env.locals\/X.env.cells.lookup x≈a))->Q () s')(hf:X.fn x=true\/X.env.scope.names.lookup x≈.local:=by first|exact .inl rfl|exact .inr rfl|assumption):Q0d M A (storeName X.env x u) Q E s:=by
 obtain⟨m,hn,hl⟩:=id I.loc
 have P:(X.env.scope.kind == .class||(X.env.scope.kind == .module&&X.env.locals != X.env.globals))=false:=by rw[I.ok.kind];rfl
 have O:i<σ.length:=by rw[I.len];exact(t8.mp R).1
 have G:=I.cne
 have g:∀ {a:Addr} {h':Heap},(∃ o,s.heap.get? a≈o/\H a=none)->Q0U a s.heap h'->aW X.prog X.w H h':=λ{a h'} ha f b ob e=>by
  obtain⟨_,_,B⟩:=ha
  refine(I.hok b ob e).stay (λc W t q=>(f.2 c ?_).trans q) (λ_ q=>q) λ_ _ q=>q
  rintro rfl
  rcases t with rfl|t
  .rw[B]at e;cases e
  .rw[B]at t;cases t
 rcases w with D|D
 .refine wpAny_storeName_local D hn (λh' a0 f=>?_) P
  obtain⟨oL,_,_,Z,_⟩:=id hn
  refine h _ ⟨I.ok,I.os,I.bare,⟨λb o e n J w=>?_,λb o e n J w=>?_,I.base.free,λb o e w=>?_,I.base.tups,I.base.frzs,I.base.tbls⟩,⟨_,a0,λj y v' l C e3=>?_⟩,λy c e=>?_,I.free,I.freeC,λp hp=>?_,g ⟨oL,Z,I.free⟩ f,by simpa using I.len⟩ ⟨_,f,.inl rfl⟩
  .exact(f.2 b (r4 (q5 (j4 e) I.ok.above))).trans (I.base.keep b o e n J w)
  .obtain⟨sl,l⟩:=I.base.slot b o e n J w
   exact⟨sl,(f.2 b (r4 (q5 (j4 e) I.ok.above))).trans l⟩
  .obtain⟨o',l⟩:=I.base.there b o e w
   exact⟨o',(f.2 b (r4 (q5 (j4 e) I.ok.above))).trans l⟩
  .by_cases F:j=i
   .subst F
    rw[R]at l;cases l
    rw[o4 O]at C
    cases C
    exact⟨u,r,.inl ⟨D,by simp⟩⟩
   .rw[u9 (bh F)]at C
    obtain⟨u',r',q⟩:=hl j y v' l C e3
    refine⟨u',r',?_⟩
    rcases q with ⟨k,e⟩|⟨k,c,e,z⟩
    .refine .inl ⟨k,?_⟩
     have:y≠x:=λe=>F (Hw hN l (e ▸ R))
     simp[this,e]
    .exact .inr ⟨k,c,e,z.sameBut f (G y c e)⟩
  .obtain⟨W,z⟩:=I.cell y c e
   exact⟨W,z.sameBut f (G y c e)⟩
  .obtain⟨e,n,U,nf,d⟩:=I.pin p hp
   exact⟨(f.2 p.1 U).trans e,n,U,nf,d⟩
 .have K:X.fn x=true:=by
   rcases hf with z|z
   .exact z
   .rw[z]at D;cases D
  obtain⟨c,t⟩:=I.ok.has x (.inl D)
  obtain⟨W,z⟩:=I.cell x c t
  refine wpAny_storeName_cell I.ok.kind D t z (λh' T f=>?_)
  obtain⟨oc,N,S⟩:=id z
  refine h { s with heap:=h' } ⟨I.ok,I.os,I.bare,⟨λb o e n J w=>?_,λb o e n J w=>?_,I.base.free,λb o e w=>?_,I.base.tups,I.base.frzs,I.base.tbls⟩,⟨m,hn.sameBut f (bh (G x c t)),λj y v' l C e3=>?_⟩,λy Y e=>?_,I.free,I.freeC,λp hp=>?_,g ⟨oc,N,I.freeC x c t⟩ f,by simpa using I.len⟩ ⟨c,f,.inr t⟩
  .exact(f.2 b (r4 (q5 (j4 e) (I.ok.cab x c K t)))).trans (I.base.keep b o e n J w)
  .obtain⟨sl,l⟩:=I.base.slot b o e n J w
   exact⟨sl,(f.2 b (r4 (q5 (j4 e) (I.ok.cab x c K t)))).trans l⟩
  .obtain⟨o',l⟩:=I.base.there b o e w
   exact⟨o',(f.2 b (r4 (q5 (j4 e) (I.ok.cab x c K t)))).trans l⟩
  .by_cases F:j=i
   .subst F
    rw[R]at l;cases l
    rw[o4 O]at C
    cases C
    exact⟨u,r,.inr ⟨.inl D,c,t,T⟩⟩
   .rw[u9 (bh F)]at C
    obtain⟨u',r',q⟩:=hl j y v' l C e3
    refine⟨u',r',?_⟩
    rcases q with q|⟨k,Y,e,z'⟩
    .exact .inl q
    .refine .inr ⟨k,Y,e,z'.sameBut f ?_⟩
     rintro rfl
     exact F (Hw hN l (I.ok.inj _ _ _ e t ▸ R))
  .by_cases L:Y=c
   .subst L;exact⟨_,T⟩
   .obtain⟨w2,z2⟩:=I.cell y Y e
    exact⟨w2,z2.sameBut f L⟩
  .obtain⟨e,n,U,nf,d⟩:=I.pin p hp
   refine⟨(f.2 p.1 ?_).trans e,n,U,nf,d⟩
   intro q
   rw[q,N]at e
   have q':oc=p.2:=g0 e
   exact d W (by rw[<-q'];exact S)
def HD {i:Nat}{Q:Unit->Q0u->Prop}(I:aj X pins σ H s)(c:X.N.Nodup)(b:X.N[i]?≈x)(e:eF X.env.scope x)(r:y6 v u)(h:∀ a,aj X pins (σ.set i (some v)) H a->Q () a)(d:X.fn x=true\/X.env.scope.names.lookup x≈.local:=by first|exact .inl rfl|exact .inr rfl|assumption):Q0d M A (storeName X.env x u) Q E s :=
 zh0 I c b e r (λa I' _=>h a I') d
def aj.call' {s':zm}(I:aj X pins σ H s)(i:s'.os=s.os)(u:Un (bM X.stack) ch H H' s.heap s'.heap)(d:aW X.prog X.w H' s'.heap)(j:Q1y s'.gens)(a:∀ b∈ch,(b∈X.ex\/⇑X.s₀<=b)/\b≠X.env.locals/\(∀ x c,X.env.cells.lookup x≈c->c≠b)/\∀ p∈X.pn++pins,p.1≠b):aj X pins σ H' s':=by
 obtain⟨h',h,g,f,k⟩:=s'
 have e:k=s.os:=i
 subst e
 exact I.call (g':=h) (t':=f) (d':=g) u d j a
end
abbrev XK:=Q0e->y1->Hp->Prop
abbrev St:=List (Option V)
abbrev wS:=St->Hp->Prop
abbrev VK:=V->Hp->Prop
abbrev jT:=List V->Hp->VK->Prop
abbrev TE:=St->Hp->VK->Prop
abbrev TT:=St->Hp->(Bool->Hp->Prop)->Prop
abbrev TA:=St->Hp->(zD->Hp->Prop)->Prop
structure cj where
 nx:wS
 rt:VK
 bk:wS:=λ_ _=>False
 ct:wS:=λ_ _=>False
abbrev TS:=cj->St->Hp->Prop
def EP (X:Cx)(a:xz)(σ:St)(Q:VK)(u:Q0e)(b:zm):Prop:=∃ v H',aj X a σ H' b/\y6 v u/\Q v H'
def TP (X:Cx)(a:xz)(σ:St)(Q:Bool->Hp->Prop)(b:Bool)(c:zm):Prop:=∃ H',aj X a σ H' c/\Q b H'
def AP (X:Cx)(a:xz)(σ:St)(Q:zD->Hp->Prop)(d:zC)(c:zm):Prop:=∃ b H',aj X a σ H' c/\yy b d/\Q b H'
def SP (X:Cx)(a:xz)(D:cj)(f:Flow)(c:zm):Prop :=
 match f with
 |.next=>∃ b H',aj X a b H' c/\D.nx b H'
 |.brk=>∃ b H',aj X a b H' c/\D.bk b H'
 |.cont=>∃ b H',aj X a b H' c/\D.ct b H'
 |.ret u=>∃ v b H',aj X a b H' c/\y6 v u/\D.rt v H'
def PE (X:Cx)(e:Expr)(t:TE):Prop :=
 ∀ (a:xz) (s:zm) (σ:St) (H:Hp) (Q:VK),aj X a σ H s->t σ H Q->Q0d (Q0i X.prog X.w) X.A (eval e X.env) (EP X a σ Q) X.xe s
def PT (X:Cx)(e:Expr)(t:TT):Prop :=
 ∀ (a:xz) (s:zm) (σ:St) (H:Hp) (Q:Bool->Hp->Prop),aj X a σ H s->t σ H Q->Q0d (Q0i X.prog X.w) X.A (isTrue e X.env (eval e X.env)) (TP X a σ Q) X.xe s
def PW (X:Cx)(e:Expr)(t:TT):Prop :=
 ∀ (b:Sem Q0e) (a:xz) (s:zm) (σ:St) (H:Hp) (Q:Bool->Hp->Prop),aj X a σ H s->t σ H Q->Q0d (Q0i X.prog X.w) X.A (isTrue e X.env b) (TP X a σ Q) X.xe s
def PW.pt {t:TT}(h:PW X e t):PT X e t:=h _
def PA (X:Cx)(c:y0)(t:TA):Prop :=
 ∀ (b:Pos) (a:xz) (s:zm) (σ:St) (H:Hp) (Q:zD->Hp->Prop),aj X a σ H s->t σ H Q->Q0d (Q0i X.prog X.w) X.A (spliced (Q0v b (Q0c c X.env))) (AP X a σ Q) X.xe s
def PS (X:Cx)(b:Stmt)(t:TS):Prop :=
 ∀ (a:xz) (s:zm) (σ:St) (H:Hp) (D:cj),aj X a σ H s->t D σ H->Q0d (Q0i X.prog X.w) X.A (exec b X.env) (SP X a D) X.xe s
def bH (X:Cx)(b:vu)(t:TS):Prop :=
 ∀ (a:xz) (s:zm) (σ:St) (H:Hp) (D:cj),aj X a σ H s->t D σ H->Q0d (Q0i X.prog X.w) X.A (execs b X.env) (SP X a D) X.xe s
def aG {α:Type}{t:Sem α}{Q Q':α->Q0u->Prop}(h:Q0d M A t Q E s)(b:∀ a s,Q a s->Q' a s):Q0d M A t Q' E s:=cG h b λ_ _ x=>x
section
variable {X:Cx}
def Wd (i:Nat):TE:=fun σ H Q=>∃ v,σ[i]?≈(some v)/\Q v H
def tC (v:V):TE:=λ_ H Q=>Q v H
def zpz {i:Nat} {g:Pos} (q:X.N[i]?≈x) (t:bR X.env.scope x) (f:(x == ("__debug__":Str))=false:=by decide) (j:(x == ("__classdict__":Str))=false:=by decide):PE X (.Name x g) (Wd i):=by
 intro d s σ H Q I h
 obtain⟨v,e,h⟩:=h
 obtain⟨m,n,o⟩:=I.loc
 obtain⟨u,r,l⟩:=o i x v q e t
 have fin:EP X d σ Q u s:=⟨v,H,I,r,h⟩
 rcases l with ⟨b,p⟩|⟨b,c,k,a⟩
 .exact wpAny_Name (wpAny_loadName_local I.ok.kind b n p fin) f
 .rcases b with b|b
  .exact wpAny_Name (wpAny_loadName_cell I.ok.kind b k a fin) f
  .exact wpAny_Name (wpAny_loadName_free I.ok.kind b k a fin j) f
def zE {i j pos}:PE X (.Constant (.int i) j pos) (tC (.int i)):=λ_ _ _ H _ I h=>wpAny_Constant_int ⟨.int i,H,I.tok _,⟨_,rfl⟩,h⟩
def Vn {b j pos}:PE X (.Constant (.bool b) j pos) (tC (.bl b)):=λ_ _ _ H _ I h=>Constant_bool ⟨.bl b,H,I,rfl,h⟩
def Wh {j pos}:PE X (.Constant .none j pos) (tC .non):=λ_ _ _ H _ I h=>Constant_none ⟨.non,H,I,rfl,h⟩
def zI {x j pos}:PE X (.Constant (.str x) j pos) (tC (.str x)):=λ_ _ _ H _ I h=>Calls.Constant_str ⟨.str x,H,I.tok _,⟨_,rfl⟩,h⟩
def Gl (X:Cx)(x:Str):Prop:=X.env.kindOf x≈.globalImplicit
def YH {Q:yM} (I:aj X a σ H s) (e:Gl X x) (c:X.mg x≈u) (h:Q u s) (d:(x == ("__debug__":Str))=false:=by decide):Q0d (Q0i X.prog X.w) X.A (eval (.Name x b) X.env) Q E s :=
 Q1u I.ok.kind e (Calls.loadGlobal_global (by rw[I.ok.glob];exact I.mod.glob.keeps I.bk) c h) d
def Wn {Q:yM} (I:aj X a σ H s) (i:Gl X x) (g:X.mg x=none) (j:Q0j x≈u) (h:Q u s) (c:x≠"__name__":=by decide) (d:(x == ("__debug__":Str))=false:=by decide):Q0d (Q0i X.prog X.w) X.A (eval (.Name x b) X.env) Q E s:=by
 obtain⟨k,f,e⟩:=I.mod.blt
 exact Q1u I.ok.kind i (Calls.loadGlobal_builtin (by rw[I.ok.glob];exact I.mod.glob.keeps I.bk) g (by rw[I.ok.blt];exact f.keeps I.bk) ((e x c).trans j) h) d
def yD (d:Gl X x) (b:X.mg x≈u) (r:y6 v u) (c:(x == ("__debug__":Str))=false:=by decide):PE X (.Name x a) (tC v) :=
 λ_ _ _ H _ I h=>YH I d b ⟨v,H,I,r,h⟩ c
def ZP (e:Gl X x) (b:X.mg x=none) (f:Q0j x≈u) (r:y6 v u) (c:x≠"__name__":=by decide) (d:(x == ("__debug__":Str))=false:=by decide):PE X (.Name x a) (tC v) :=
 λ_ _ _ H _ I h=>Wn I e b f ⟨v,H,I,r,h⟩ c d
variable {a b:Expr}{ta tb:TE}{pos:Pos}
def tB (t:TE):TT:=fun σ H Q=>t σ H λx H1=>∃ c,x=.bl c/\Q c H1
def Mu {e:Expr}{t:TE}(h:PE X e t)(f:∀ a,isTrue e X.env a=(do let v<-a;Q2l e.pos;Q1d [v] (truthy v)):=by intro _;rfl):PT X e (tB t):=by
 intro b s σ H Q I hw
 refine isTrue_plain (aG (h b s σ H _ I hw) λv i hh9=>?_) (f _)
 obtain⟨x,H1,I1,c,g⟩:=hh9
 obtain⟨d,rfl,q⟩:=g
 cases c
 exact fX ⟨H1,I1,q⟩
variable {tA tB':TT}{rest:y0}
def Jw (t u:TT):TT:=fun σ H Q=>t σ H λc H1=>if c then u σ H1 Q else Q false H1
def Sw (t u:TT):TT:=fun σ H Q=>t σ H λc H1=>if c then Q true H1 else u σ H1 Q
def rF (t:TT):TT:=fun σ H Q=>t σ H λc H1=>Q (!c) H1
def znm (d:PT X a tA):PW X (.BoolOp .And [a] pos) tA:=by
 intro g b s σ H Q I h
 refine isTrue_and (aG (d b s σ H Q I h) λc f e=>?_)
 cases c with
 |true=>exact isTrue_and_nil e
 |false=>exact e
def Lj (d:PT X a tA):PW X (.BoolOp .Or [a] pos) tA:=by
 intro g b s σ H Q I h
 refine isTrue_or (aG (d b s σ H Q I h) λc f e=>?_)
 cases c with
 |false=>exact isTrue_or_nil e
 |true=>exact e
def zqs (f:PT X a tA)(j:PW X (.BoolOp .And (b::rest) pos) tB'):PW X (.BoolOp .And (a::b::rest) pos) (Jw tA tB'):=by
 intro i d s σ H Q I h
 refine isTrue_and (aG (f d s σ H _ I h) λc g hh9=>?_)
 obtain⟨H1,I1,e⟩:=hh9
 cases c with
 |true=>exact j i d g σ H1 Q I1 e
 |false=>exact⟨H1,I1,e⟩
def Km (f:PT X a tA)(j:PW X (.BoolOp .Or (b::rest) pos) tB'):PW X (.BoolOp .Or (a::b::rest) pos) (Sw tA tB'):=by
 intro i d s σ H Q I h
 refine isTrue_or (aG (f d s σ H _ I h) λc g hh9=>?_)
 obtain⟨H1,I1,e⟩:=hh9
 cases c with
 |true=>exact⟨H1,I1,e⟩
 |false=>exact j i d g σ H1 Q I1 e
def Mq (d:PT X a tA):PT X (.UnaryOp .Not a pos) (rF tA):=by
 intro b s σ H Q I h
 exact isTrue_not (d b s σ H (λc H1=>Q (!c) H1) I h)
def Ue (ta tb:TE):TE:=fun σ H Q=>ta σ H λx H1=>∃ c,x=.bl c/\if c then tb σ H1 Q else Q (.bl false) H1
def Th (ta:TE):TE:=fun σ H Q=>ta σ H λx H1=>∃ c,x=.bl c/\Q (.bl (!c)) H1
def zqZ {op}{t:TE}(h:PE X a t):PE X (.BoolOp op [a] pos) t:=λb s σ H Q I hw=>BoolOp_one (h b s σ H Q I hw)
def zqa (f:PE X a ta)(j:PE X (.BoolOp .And (b::rest) pos) tb):PE X (.BoolOp .And (a::b::rest) pos) (Ue ta tb):=by
 intro d s σ H Q I h
 refine BoolOp_and (aG (f d s σ H _ I h) λv g hh9=>?_)
 obtain⟨x,H1,I1,i,e⟩:=hh9
 obtain⟨c,rfl,e⟩:=e
 cases i
 refine fX ?_
 cases c with
 |true=>exact j d g σ H1 Q I1 e
 |false=>exact⟨.bl false,H1,I1,rfl,e⟩
def zpu (e:PE X a ta):PE X (.UnaryOp .Not a pos) (Th ta):=by
 intro b s σ H Q I h
 refine UnaryOp_ (aG (e b s σ H _ I h) λv g hh9=>?_)
 obtain⟨x,H1,I1,f,d⟩:=hh9
 obtain⟨c,rfl,d⟩:=d
 cases f
 exact not_of (fX ⟨.bl (!c),H1,I1,rfl,d⟩)
def tIf (t:TT)(ta tb:TE):TE:=fun σ H Q=>t σ H λc H1=>if c then ta σ H1 Q else tb σ H1 Q
def zlK (k:PT X c tA)(i:PE X a ta)(j:PE X b tb):PE X (.IfExp c a b pos) (tIf tA ta tb):=by
 intro e s σ H Q I h
 refine wpAny_IfExp (aG (k e s σ H _ I h) λd f hh9=>?_)
 obtain⟨H1,I1,g⟩:=hh9
 cases d with
 |true=>exact i e f σ H1 Q I1 g
 |false=>exact j e f σ H1 Q I1 g
end
def aN (K:zA)(H:Hp)(a:Addr)(c:zD):Prop :=
 Rd H a (.lst c) \/
  ∃ (o:Obj) (b:wc) (n:Nat),K.lookup a≈o/\o.cls=.type "list"/\o.dict=none/\o.data=.seq b n/\b.size<=sizeLine/\yy c b.toList
def aM (K:zA)(H:Hp)(a:Addr)(c:zD):Prop :=
 Rd H a (.tup c) \/
  ∃ (o:Obj) (b:wc) (n:Nat),K.lookup a≈o/\o.cls=.type "tuple"/\o.data=.seq b n/\b.size<=sizeLine/\yy c b.toList
def JW:Q0e->Option V
 |.none=>some .non
 |.bool b=>some (.bl b)
 |.int i _=>some (.int i)
 |.str x _=>some (.str x)
 |.bytes b _=>some (.byt b)
 |.float b _=>some (.flt b)
 |.ref a=>some (.ref a)
 |.type n=>some (.ty n)
 |_=>none
def y6.abs (r:y6 x u):JW u≈x:=by
 cases x with
 |non=>cases r;rfl
 |bl _=>cases r;rfl
 |int _=>obtain⟨t,rfl⟩:=r;rfl
 |str _=>obtain⟨t,rfl⟩:=r;rfl
 |byt _=>obtain⟨t,rfl⟩:=r;rfl
 |flt _=>obtain⟨t,rfl⟩:=r;rfl
 |ref _=>cases r;rfl
 |ty _=>cases r;rfl
def y6.inj (r:y6 x u)(q:y6 y u):x=y:=g0 (r.abs.symm.trans q.abs)
def yy.inj:∀ {c a:zD} {d:zC},yy c d->yy a d->c=a:=by
 intro c a d h
 induction h generalizing a with
 |nil=>intro b;cases b;rfl
 |cons r t f=>intro b;cases b with|cons e g=>rw[r.inj e,f g]
section
variable {X:Cx}{pins:xz}{σ:St}{H:Hp}{s:zm}{a:Addr}{xs ys:zD}
def aN.of {K:zA}(h:H a≈(.lst xs)):aN K H a xs:=.inl (.inl h)
def aM.of {K:zA}(h:H a≈(.tup xs)):aM K H a xs:=.inl (.inl h)
def aj.list (I:aj X pins σ H s)(h:aN X.K H a xs):∃ b:zC,yy xs b/\PlainL s.heap a b.toArray/\↥xs<=sizeLine:=by
 rcases h with h|⟨o,b,n,c,g,d,f,i,r⟩
 .obtain⟨z,b,n,r,e⟩:=h.ok I.hok
  exact⟨b,r,⟨_,n,e,rfl,rfl,rfl⟩,z⟩
 .refine⟨b.toList,r,⟨o,n,I.kIn a o c,g,d,by simpa using f⟩,?_⟩
  have e:=↥r
  simp only[i8]at e
  omega
def aj.tuple (I:aj X pins σ H s)(h:aM X.K H a xs):∃ b:zC,yy xs b/\IsTup s.heap a b.toArray/\↥xs<=sizeLine:=by
 rcases h with h|⟨o,b,n,c,f,d,g,r⟩
 .obtain⟨z,b,r,p⟩:=h.ok I.hok
  exact⟨b,r,p,z⟩
 .refine⟨b.toList,r,⟨o,I.kIn a o c,f,n,by simpa using d⟩,?_⟩
  have e:=↥r
  simp only[i8]at e
  omega
def aj.list_inj (I:aj X pins σ H s)(h:aN X.K H a xs)(i:aN X.K H a ys):xs=ys:=by
 obtain⟨c,r,⟨o,n,e,_,_,d⟩,_⟩:=I.list h
 obtain⟨b,j,⟨k,l,f,_,_,g⟩,_⟩:=I.list i
 rw[e]at f;cases f
 rw[d]at g
 injection g with d1 _
 have:c=b:=by simpa using bJ Q2H d1
 subst this
 exact r.inj j
def aj.tuple_inj (I:aj X pins σ H s)(h:aM X.K H a xs)(i:aM X.K H a ys):xs=ys:=by
 obtain⟨c,r,⟨o,e,_,n,d⟩,_⟩:=I.tuple h
 obtain⟨b,j,⟨k,f,_,l,g⟩,_⟩:=I.tuple i
 rw[e]at f;cases f
 rw[d]at g
 injection g with d1 _
 have:c=b:=by simpa using bJ Q2H d1
 subst this
 exact r.inj j
end
abbrev Cx.wish (X:Cx)(E:yM):Cx:={ X with xe:=E }
abbrev Cx.nox (X:Cx):Cx:=X.wish λ_ _=>False
def Cx.Ok.wish {X:Cx}(ok:X.Ok)(E:yM):(X.wish E).Ok :=
 ⟨ok.mod,ok.kind,ok.glob,ok.blt,ok.above,ok.inj,ok.has,ok.cab,ok.hd,ok.frames,ok.stk,ok.exf,ok.bs,ok.bsz,ok.noex,ok.exfs,ok.funs,ok.frf⟩
def Cx.Ok.unwish {X:Cx}(ok:(X.wish E).Ok):X.Ok :=
 ⟨ok.mod,ok.kind,ok.glob,ok.blt,ok.above,ok.inj,ok.has,ok.cab,ok.hd,ok.frames,ok.stk,ok.exf,ok.bs,ok.bsz,ok.noex,ok.exfs,ok.funs,ok.frf⟩
section
variable {X:Cx}{pins:xz}{σ:St}{H:Hp}{s:zm}{E:yM}
def aj.wish (I:aj X pins σ H s)(E:yM):aj (X.wish E) pins σ H s:=⟨I.ok.wish E,I.os,I.bare,I.base,I.loc,I.cell,I.free,I.freeC,I.pin,I.hok,I.len⟩
def aj.unwish (I:aj (X.wish E) pins σ H s):aj X pins σ H s:=⟨I.ok.unwish,I.os,I.bare,I.base,I.loc,I.cell,I.free,I.freeC,I.pin,I.hok,I.len⟩
def SP.unwish {D:cj}{f:Flow}(h:SP (X.wish E) pins D f b):SP X pins D f b:=by
 cases f with
 |next=>obtain⟨a,H',I,q⟩:=h;exact⟨a,H',I.unwish,q⟩
 |brk=>obtain⟨a,H',I,q⟩:=h;exact⟨a,H',I.unwish,q⟩
 |cont=>obtain⟨a,H',I,q⟩:=h;exact⟨a,H',I.unwish,q⟩
 |ret u=>obtain⟨v,a,H',I,r,q⟩:=h;exact⟨v,a,H',I.unwish,r,q⟩
def bH.nox {t:TS}(h:bH X.nox a t):bH X a t:=λpins s σ H D I hw =>
 cG (h pins s σ H D (I.wish _) hw) (λ_ _ q=>q.unwish) λ_ _ z=>Q0o z
end
section
variable {X:Cx}{st:Stmt}{rest:vu}{t u:TS}{e:Expr}{te:TE}{pos:Pos}
def Kq:TS:=λD σ H=>D.nx σ H
def ul (t u:TS):TS:=λD σ H=>t { D with nx:=u D } σ H
def Og:bH X [] Kq:=λ_ _ σ H _ I h=>qT ⟨σ,H,I,h⟩
def xy (c:PS X st t)(b:bH X rest u):bH X (st::rest) (ul t u):=by
 intro a s σ H D I h
 refine wpAny_execs_cons (aG (c a s σ H { D with nx:=u D } I h) λf d q=>?_)
 cases f with
 |next =>
  obtain⟨e,H',I',q⟩:=q
  exact b a d e H' D I' q
 |ret v=>exact q
 |brk=>exact q
 |cont=>exact q
def Yf (b:PS X st t):bH X [st] t:=by
 intro a s σ H D I h
 refine wpAny_execs_cons (aG (b a s σ H D I h) λf c q=>?_)
 cases f with
 |next=>exact qT q
 |ret v=>exact q
 |brk=>exact q
 |cont=>exact q
def aj.quiet (I:aj X a σ H s):interactive X.env=false:=by simp[interactive,I.ok.kind]
def T8 (te:TE):TS:=λD σ H=>te σ H λ_ H1=>D.nx σ H1
def XH (b:PE X e te)(d:Q0q e none pos.line X.env=pure false:=by rfl):PS X (.Expr e pos) (T8 te):=by
 intro a s σ H D I h
 exact wpAny_Expr_any (aG (b a s σ H _ I h) λv f ⟨x,H1,I1,g,c⟩=>⟨σ,H1,I1,c⟩) I.quiet d
def Eb (te:TE):TS:=λD σ H=>te σ H D.rt
def XY (c:PE X e te):PS X (.Return (some e) pos) (Eb te):=by
 intro a s σ H D I h
 exact wpAny_Return_some (aG (c a s σ H _ I h) λv f ⟨x,H1,I1,b,d⟩=>⟨x,σ,H1,I1,b,d⟩)
def rG (c:TT)(t u:TS):TS:=λD σ H=>c σ H λb H1=>if b then t D σ H1 else u D σ H1
def Ep {g:TT}(k:PT X c g)(j:bH X a t)(l:bH X b u):PS X (.If c a b pos) (rG g t u):=by
 intro e s σ H D I h
 refine wpAny_If (aG (k e s σ H _ I h) λd f hh9=>?_)
 obtain⟨H1,I1,i⟩:=hh9
 cases d with
 |true=>exact j e f σ H1 D I1 i
 |false=>exact l e f σ H1 D I1 i
def Nf:TS:=λ_ _ _=>False
def QM:PS X st Nf:=λ_ _ _ _ _ _ h=>h.elim
def zh7:bH X a Nf:=λ_ _ _ _ _ _ h=>h.elim
end
abbrev TG:=V->St->Hp->wS->Prop
abbrev lu:=zD->St->Hp->wS->Prop
def PG (X:Cx)(a:Expr)(t:TG):Prop :=
 ∀ (b:xz) (s:zm) (σ:St) (H:Hp) (v:V) (u:Q0e) (Q:wS),aj X b σ H s->y6 v u->t v σ H Q ->
  Q0d (Q0i X.prog X.w) X.A (Q2v a X.env u) (λ_ d=>∃ c H',aj X b c H' d/\Q c H') X.xe s
def tD (X:Cx)(f:y0)(t:lu):Prop :=
 ∀ (a:xz) (s:zm) (σ:St) (H:Hp) (c:zD) (d:zC) (Q:wS),aj X a σ H s->yy c d->t c σ H Q ->
  Q0d (Q0i X.prog X.w) X.A (assignInOrder ((Q0Q f X.env).map (·.2)) d) (λ_ e=>∃ b H',aj X a b H' e/\Q b H') X.xe s
abbrev DW:=V->V->V->Hp->(Hp->Prop)->Prop
def tu (X:Cx)(t:DW):Prop :=
 ∀ (a:xz) (s:zm) (σ:St) (H:Hp) (o i v:V) (b c u:Q0e) (Q:Hp->Prop),aj X a σ H s->y6 o b->y6 i c->y6 v u->t o i v H Q ->
  Q0d (Q0i X.prog X.w) X.A (setItem b c u) (λ_ d=>∃ H',aj X a σ H' d/\Q H') X.xe s
section
variable {X:Cx}{pos:Pos}
def Zi (i:Nat):TG:=λv σ H Q=>Q (σ.set i (some v)) H
def zT {i:Nat}(e:X.N.Nodup)(b:X.N[i]?≈x)(d:eF X.env.scope x)(c:X.fn x=true\/X.env.scope.names.lookup x≈.local:=by first|exact .inl rfl|exact .inr rfl|assumption):PG X (.Name x pos) (Zi i):=by
 intro a s σ H v u Q I r h
 exact wpAny_assign_Name (HD I e b d r (λf I'=>⟨_,H,I',h⟩) c)
def tU:lu:=λa σ H Q=>a=[]/\Q σ H
def jQ (t:TG)(u:lu):lu:=λb σ H Q=>∃ v r,b=v::r/\t v σ H λa H'=>u r a H' Q
def Bo:tD X [] tU:=by
 intro a s σ H b c Q I r h
 obtain⟨e,h⟩:=h
 subst e
 cases r
 exact assignInOrder_nil ⟨σ,H,I,h⟩
def Yb {t:TG}(j:PG X e t)(g:tD X b u)(f:(Q0Q (e::b) X.env).map (·.2)=Q2v e X.env::(Q0Q b X.env).map (·.2):=by rfl):tD X (e::b) (jQ t u):=by
 intro a s σ H m o Q I r h
 obtain⟨v,n,l,h⟩:=h
 subst l
 cases r with
 |cons r i =>
  rw[f]
  refine assignInOrder_cons (aG (j a s σ H _ _ _ I r h) λ_ d hh9=>?_)
  obtain⟨c,H1,I1,k⟩:=hh9
  exact g a d c H1 _ _ Q I1 i k
def ue (K:zA)(n:Nat)(t:lu):TG:=λv σ H Q=>∃ a b,v=.ref a/\aM K H a b/\↥b=n/\t b σ H Q
def uW {k:Nat}{t:lu}{n:Nat}(q:X.calm=true)(h:tD X d t)(l:(Q0Q d X.env).length=n:=by rfl)(f:(Q0Q d X.env).findIdx? (·.1)=none:=by rfl):PG X (.Tuple d k pos) (ue X.K n t):=by
 intro c s σ H v u Q I r hw
 obtain⟨a,z,y,w,m,hw⟩:=hw
 subst y
 cases r
 obtain⟨i,g,j,A⟩:=I.tuple w
 refine assign_Tuple_tuple (I.ok.hd q) j (by simp[l,<- m,↥g]) f λx p=>?_
 have I1:aj X c σ H { s with heap:=x }:=I.kept (t':=s.toks) λb o e=>p b o (r4 (j4 e)) e
 exact h c _ σ H z _ Q I1 (by simpa using g) hw
def JP (b a:TE)(t:DW):TG:=λv σ H Q=>b σ H λo H1=>a σ H1 λi H2=>t o i v H2 λH3=>Q σ H3
def zqH {t:DW}(g:PE X o d)(k:PE X i e)(p:tu X t) (l:∀ v,Q2v (.Subscript o i pos) X.env v=(do
 let b<-Q1d [v] (eval o X.env)
 let c<-Q1d [v,b] (eval i X.env)
 Q2l pos
 Q1d [v,b,c] (setItem b c v)
 release [v,b,c] []):=by intro _;rfl):PG X (.Subscript o i pos) (JP d e t):=by
 intro a s σ H v u Q I r h
 rw[l]
 refine u3 (h9 (aG (g a s σ H _ I h) λb m hh9=>?_))
 obtain⟨x,H1,I1,n,z⟩:=hh9
 refine u3 (h9 (aG (k a m σ H1 _ I1 z) λc q hh9=>?_))
 obtain⟨y,H2,I2,f,j⟩:=hh9
 refine u3 (wpAny_standAt (u3 (h9 (aG (p a q σ H2 x y v b c u _ I2 n f r j) λ_ A hh9=>?_))))
 obtain⟨H3,I3,w⟩:=hh9
 exact wpAny_release ⟨σ,H3,I3,w⟩
def lF (a:TE)(g:TG):TS:=λD σ H=>a σ H λx H1=>g x σ H1 D.nx
def zpK {g:TG}(i:PE X e c)(m:PG X b g)(j:swapsWithSole [b] e pos.line X.env=pure false:=by rfl)(hw:swappedStores [b] e X.env=pure none:=by rfl)(k:(Q0Q [b] X.env).map (·.2)=[Q2v b X.env]:=by rfl):PS X (.Assign [b] e pos) (lF c g):=by
 intro a s σ H D I h
 refine wpAny_Assign_stores (aG (i a s σ H _ I h) λv d hh9=>?_) j hw
 obtain⟨x,H1,I1,f,l⟩:=hh9
 rw[k]
 exact aG (m a d σ H1 x v _ I1 f l) λ_ n q=>q
def YE {i:Nat}(m:X.N.Nodup)(d:X.N[i]?≈x)(l:eF X.env.scope x)(g:PE X e c)(j:Q0q e (some (.Name x a)) pos.line X.env=pure false:=by rfl)(k:X.fn x=true\/X.env.scope.names.lookup x≈.local:=by first|exact .inl rfl|exact .inr rfl|assumption) :
 PS X (.Assign [.Name x a] e pos) (lF c (Zi i)):=by
 intro b s σ H D I h
 refine wpAny_Assign_Name (aG (g b s σ H _ I h) λv o hh9=>?_) j
 obtain⟨y,H1,I1,f,n⟩:=hh9
 exact HD I1 m d l f (λp I2=>⟨_,H1,I2,n⟩) k
def Uz (c:TT)(e:TS):TS:=λD σ H=>∃ W:Nat->St->Hp->Prop,(∃ m,W m σ H)/\∀ m σ H,W m σ H ->
 c σ H λb H1=>if b then ∃ N:wS,(∀ a H',N a H'->∃ d,d<m/\W d a H')/\e { D with nx:=N,ct:=N,bk:=D.nx } σ H1 else D.nx σ H1
def zlP {t:TS}(q:Q1Y (Q0i X.prog X.w) X.A X.env X.xe)(A:PT X c p)(x:bH X d t):PS X (.While c d [] pos) (Uz p t):=by
 intro a s σ H D I h
 obtain⟨W,⟨y,w0⟩,turn⟩:=h
 refine wpAny_While (codeAny_whileLoop (λn C=>∃ r H',aj X a r H' C/\W n r H') ?_ y ⟨σ,H,I,w0⟩)
 rintro n z ⟨g,H1,I1,w⟩
 refine kY q (aG (A a z g H1 _ I1 (turn n g H1 w)) λb B hh9=>?_)
 obtain⟨H2,I2,i⟩:=hh9
 cases b with
 |true =>
  obtain⟨N,u,i⟩:=i
  rw[t5 rfl]
  refine kY q (aG (x a B g H2 _ I2 i) λf E j=>?_)
  cases f with
  |next =>
   obtain⟨e,H3,I3,k⟩:=j
   obtain⟨l,m,o⟩:=u e H3 k
   exact⟨l,m,e,H3,I3,o⟩
  |cont =>
   obtain⟨e,H3,I3,k⟩:=j
   obtain⟨l,m,o⟩:=u e H3 k
   exact⟨l,m,e,H3,I3,o⟩
  |brk=>exact j
  |ret v=>exact j
 |false =>
  rw[j5 u7]
  exact qT ⟨g,H2,I2,i⟩
end
structure It where
 go:Nat->Hp->Prop
 yld:Nat->Hp->V->Hp->Prop
 stop:Nat->Hp->Prop
def cZ (X:Cx)(a:xz)(H:Hp)(b:Addr):Prop :=
 H b=none/\b≠X.env.locals/\b∉X.fs/\(b∈X.ex\/⇑X.s₀<=b)/\(∀ x c,X.env.cells.lookup x≈c->c≠b)/\∀ p∈X.pn++a,p.1≠b
def aj.fpOk {H':Hp}{s:zm}(I:aj X a σ H s)(d:⇑s<=b)(g:H' b=none):cZ X a H' b:=by
 refine⟨g,iR (q5 I.lt d),I.nofs d,.inr (k8 I.sz d),λx c e z=>?_,λp f z=>?_⟩
 .obtain⟨v,q⟩:=I.cell x c e
  exact absurd (q5 q.lt (by rw[z];exact d)) (dW _)
 .exact absurd (q5 (j4 (I.pin p f).1) (by rw[z];exact d)) (dW _)
structure gQ (P:zO) (w:Q0k) (K:zA) (tg:Expr) (J:It) (fp:xt) (it:Addr) (tn:Nat->Heap->Prop):Prop where
 mem:it∈fp
 obj:∀ i h,tn i h->∀ b∈fp,∃ o,h.get? b≈o/\∀ v,o.data≠.cell v
 keep:∀ i h h',tn i h->(∀ b∈fp,∀ o,h.get? b≈o->h'.get? b≈o)->tn i h'
 item:∀ (X:Cx),X.prog=P->X.w=w->X.K=K->X.calm=true->∀ (i:Nat) (pins:xz) (s:zm) (σ:St) (H:Hp) (E:yM),aj X pins σ H s->(∀ b∈fp,cZ X pins H b)->tn i s.heap->J.go i H ->
  Q0d (Q0i P w) X.A (Q1o (.ref it)) (λr s1=>∃ u,r≈u /\
   Q0d (Q0i P w) X.A (Q1n tg (.ref it) u) (λ_ s2=>∃ x H',aj X pins σ H' s2/\y6 x u/\J.yld i H x H'/\tn (i+1) s2.heap/\∀ b∈fp,H' b=none) E s1) E s
 done:∀ (X:Cx),X.prog=P->X.w=w->X.K=K->X.calm=true->∀ (i:Nat) (pins:xz) (s:zm) (σ:St) (H:Hp) (E:yM),aj X pins σ H s->(∀ b∈fp,cZ X pins H b)->tn i s.heap->J.stop i H ->
  Q0d (Q0i P w) X.A (Q1o (.ref it)) (λr s1=>r=none/\aj X pins σ H s1) E s
 self:∀ (A:zP) (i:Nat) (s:zm) (Q:yM) (E:yM),tn i s.heap->Q (.ref it) s->Q0d (Q0i P w) A (pyIter (.ref it)) Q E s
abbrev TI:=St->Hp->(It->Hp->Prop)->Prop
def S6 (X:Cx)(a:xz)(σ:St)(h:Expr)(R:It->Hp->Prop)(c:Q0e)(g:zm):Prop :=
 ∃ (f:Addr) (e:xt) (d:Nat->Heap->Prop) (J:It) (H':Hp),c=.ref f/\aj X a σ H' g/\gQ X.prog X.w X.K h J e f d/\d 0 g.heap/\(∀ b∈e,cZ X a H' b)/\R J H'
def PI (X:Cx)(e b:Expr)(d:TI):Prop :=
 ∀ (a:xz) (s:zm) (σ:St) (H:Hp) (R:It->Hp->Prop),aj X a σ H s->d σ H R ->
  Q0d (Q0i X.prog X.w) X.A (eval b X.env) (λv c=>Q0d (Q0i X.prog X.w) X.A (pyIter v) (S6 X a σ e R) X.xe c) X.xe s
theorem pC {s:zm} {o:Obj} {Q:Unit→Q0u→Prop} (ho:s.heap.get? it≈o) (hc:o.cls=.type n) (hd:o.data=.fields vs) (hn:["enumerate","zip","dict_itemiterator","dict_reverseitemiterator","odict_iterator","itertools.zip_longest","itertools.pairwise"].contains n=false) (hQ:Q () s):Q0d M A (Q1n tg (.ref it) u) Q E s:=by
  unfold Q1n
  cases tg <;> first
    |exact t4 hQ
    | (cases u <;> first
        |exact t4 hQ
        | (refine u3 (wpAny_load ho ?_)
           rw [hc,hd]
           show Q0d M A (if (["enumerate","zip","dict_itemiterator","dict_reverseitemiterator","odict_iterator","itertools.zip_longest","itertools.pairwise"].contains n&&vs[0]? == some (Q1H _)) then _ else _) Q E s
           rw [j5 (by intro h;rw [hn,Bool.false_and] at h;cases h)]
           exact t4 hQ))
def J3 (K:zA)(a:Addr):It :=
 ⟨λi H=>∃ b x,aN K H a b/\b[i]?≈x,λi H x H'=>H'=H/\∀ b,aN K H a b->b[i]?≈x,λi H=>∃ b,aN K H a b/\↥b<=i⟩
def J1 (K:zA)(a:Addr):It :=
 ⟨λi H=>∃ b x,aM K H a b/\b[i]?≈x,λi H x H'=>H'=H/\∀ b,aM K H a b->b[i]?≈x,λi H=>∃ b,aM K H a b/\↥b<=i⟩
def tG (a:Int)(n:Nat):It:=⟨λi _=>i<n,λi H x H'=>H'=H/\x=.int (a+i),λi _=>n<=i⟩
def zhJ {P:zO}{w:Q0k}{K:zA}{tg:Expr}(a it:Addr):gQ P w K tg (J3 K a) [it] it (λi h=>h.IsListIter it a i) where
 mem:=by simp
 obj:=λi h st b hb=>by
  have e:b=it:=by simpa using hb
  subst e
  obtain⟨o,e,c,d⟩:=st
  exact⟨o,e,λv z=>by rw[d]at z;cases z⟩
 keep:=λi h h' st k=>st.at λo e=>k it (by simp) o e
 item:=by
  intro X hP hw hK hc i pins s σ H E I hf st hg
  subst hP hw hK
  obtain⟨xs,x,hq,hx⟩:=hg
  obtain⟨its,rv,p,hz⟩:=I.list hq
  obtain⟨u,hu,ru⟩:=rv.get hx
  obtain⟨f0,f1,f2,f3,f4,f5⟩:=hf it (by simp)
  refine wpAny_pyNext_list_item st p.isList (x:=u) (by simpa using hu) λh' st' sb=>?_
  have I1:aj X pins σ H { s with heap:=h' }:=I.turned (t':=s.toks) (λb o hb e=>(sb.2 b hb).trans e) f0 f1 f3 f4 f5
  obtain⟨o,e,c,d⟩:=id st'
  exact⟨u,rfl,pC (s:={ s with heap:=h' }) e c d ⋯ ⟨x,H,I1,ru,⟨rfl,λys hy=>by rw[I.list_inj hy hq];exact hx⟩,st',λb hb=>(hf b hb).1⟩⟩
 done:=by
  intro X hP hw hK hc i pins s σ H E I hf st hg
  subst hP hw hK
  obtain⟨xs,hq,hx⟩:=hg
  obtain⟨its,rv,p,hz⟩:=I.list hq
  obtain⟨f0,f1,f2,f3,f4,f5⟩:=hf it (by simp)
  have hl:=↥rv
  exact wpAny_pyNext_list_end (I.ok.hd hc) st p.isList (by simp;omega) λh' eb=>⟨rfl,I.turned (t':=s.toks) (λb o hb e=>eb b o hb e) f0 f1 f3 f4 f5⟩
 self:=λ_ _ _ _ _ st h=>wpAny_pyIter_listiter st h
def zf3 {P:zO}{w:Q0k}{K:zA}{tg:Expr}(a it:Addr):gQ P w K tg (J1 K a) [it] it (λi h=>h.IsTupleIter it a i) where
 mem:=by simp
 obj:=λi h st b hb=>by
  have e:b=it:=by simpa using hb
  subst e
  obtain⟨o,e,c,d⟩:=st
  exact⟨o,e,λv z=>by rw[d]at z;cases z⟩
 keep:=λi h h' st k=>st.at λo e=>k it (by simp) o e
 item:=by
  intro X hP hw hK hc i pins s σ H E I hf st hg
  subst hP hw hK
  obtain⟨xs,x,hq,hx⟩:=hg
  obtain⟨its,rv,p,hz⟩:=I.tuple hq
  obtain⟨u,hu,ru⟩:=rv.get hx
  obtain⟨f0,f1,f2,f3,f4,f5⟩:=hf it (by simp)
  refine wpAny_pyNext_tuple_item st (show s.heap.IsTuple a its.toArray from p) (x:=u) (by simpa using hu) λh' st' sb=>?_
  have I1:aj X pins σ H { s with heap:=h' }:=I.turned (t':=s.toks) (λb o hb e=>(sb.2 b hb).trans e) f0 f1 f3 f4 f5
  obtain⟨o,e,c,d⟩:=id st'
  exact⟨u,rfl,pC (s:={ s with heap:=h' }) e c d ⋯ ⟨x,H,I1,ru,⟨rfl,λys hy=>by rw[I.tuple_inj hy hq];exact hx⟩,st',λb hb=>(hf b hb).1⟩⟩
 done:=by
  intro X hP hw hK hc i pins s σ H E I hf st hg
  subst hP hw hK
  obtain⟨xs,hq,hx⟩:=hg
  obtain⟨its,rv,p,hz⟩:=I.tuple hq
  obtain⟨f0,f1,f2,f3,f4,f5⟩:=hf it (by simp)
  have hl:=↥rv
  exact wpAny_pyNext_tuple_end (I.ok.hd hc) st (show s.heap.IsTuple a its.toArray from p) (by simp;omega) λh' eb=>⟨rfl,I.turned (t':=s.toks) (λb o hb e=>eb b o hb e) f0 f1 f3 f4 f5⟩
 self:=λ_ _ _ _ _ st h=>wpAny_pyIter_tupleiter st h
def zgb {P:zO}{w:Q0k}{K:zA}{tg:Expr}(it:Addr)(lo:Int)(n:Nat):gQ P w K tg (tG lo n) [it] it (λi h=>IsRangeIter h it (lo+(i:Nat)*1) ((n:Int)-(i:Nat)) 1) where
 mem:=by simp
 obj:=λi h st b hb=>by
  have e:b=it:=by simpa using hb
  subst e
  exact⟨_,st,λv z=>by
   have z':Data.fields _=Data.cell v:=z
   cases z'⟩
 keep:=λi h h' st k=>k it (by simp) _ st
 item:=by
  intro X hP hw hK hc i pins s σ H E I hf st hg
  subst hP hw hK
  obtain⟨f0,f1,f2,f3,f4,f5⟩:=hf it (by simp)
  have W:=Walks.range (prog:=X.prog) (w:=X.w) (I.ok.hd hc) it lo 1 n
  refine W.item i s _ _ hg st λv h' tk hv st' kk=>?_
  obtain⟨t,rfl⟩:=hv
  have I1:aj X pins σ H { s with heap:=h',toks:=tk }:=I.turned (λb o hb e=>kk b o (by simpa using hb) e) f0 f1 f3 f4 f5
  refine⟨_,rfl,pC (s:={ s with heap:=h',toks:=tk }) (n:="range_iterator") st' rfl rfl ⋯ ⟨.int (lo+i),H,I1,⟨t,?_⟩,⟨rfl,rfl⟩,st',λb hb=>(hf b hb).1⟩⟩
  rw[Int.mul_one]
 done:=by
  intro X hP hw hK hc i pins s σ H E I hf st hg
  subst hP hw hK
  obtain⟨f0,f1,f2,f3,f4,f5⟩:=hf it (by simp)
  exact wpAny_pyNext_range_end (I.ok.hd hc) st (by have:n<=i:=hg;omega) λh' eb=>⟨rfl,I.turned (t':=s.toks) (λb o hb e=>eb b o hb e) f0 f1 f3 f4 f5⟩
 self:=λ_ _ _ _ _ st h=>wpAny_pyIter_rangeiter st h
section
variable {X:Cx}{tg:Expr}
def Qj {s:zm} {R:It->Hp->Prop} {a c:Int} {t:Tok} {f:Nat} (I:aj X d σ H s) (k:-(2^62)<=a) (j:a<2^62) (i:-(2^62)<=c) (h:c<2^62) (q:R (tG a (c-a).toNat) H):Q0d (Q0i X.prog X.w) X.A (pyIter (.ref ⇑s)) (S6 X d σ tg R) E { s with heap:=s.heap.push { cls:=.type "range",data:=.fields #[.int a t,.int c u,.int 1 v] },toks:=f }:=by
 refine wpAny_pyIter_range (IsRange.new ..) (small_one k j i h) ?_
 have I1:aj X d σ H { s with heap:=s.heap.push { cls:=.type "range",data:=.fields #[.int a t,.int c u,.int 1 v] },toks:=f }:=I.kept λb o e=>u6 _ e
 refine⟨(s.heap.push { cls:=.type "range",data:=.fields #[.int a t,.int c u,.int 1 v] }).objs.size,[(s.heap.push { cls:=.type "range",data:=.fields #[.int a t,.int c u,.int 1 v] }).objs.size],_,_,H,rfl,
  I1.kept (t':=f) λb o e=>u6 _ e,zgb _ a (c-a).toNat,?_,λb m=>?_,q⟩
 .have l:a+((0:Nat):Int)*1=a:=by simp
  have g:(((c-a).toNat:Nat):Int)-((0:Nat):Int)=Builtin.Range.rangeSize a c 1:=by rw[rangeSize_one];split <;> omega
  show IsRangeIter _ _ (a+((0:Nat):Int)*1) ((((c-a).toNat:Nat):Int)-((0:Nat):Int)) 1
  rw[l,g]
  exact j6 _ rfl
 .have e:b=(s.heap.push { cls:=.type "range",data:=.fields #[.int a t,.int c u,.int 1 v] }).objs.size:=by simpa using m
  subst e
  exact I1.fpOk (t6 _) (I1.hok.fresh (t6 _))
def Tr (a:TA):TI:=fun σ H R=>a σ H λb H1=>∃ j:Int,b=[.int j]/\-(2^62)<=j/\j<2^62/\R (tG 0 j.toNat) H1
def Ub (a:TA):TI:=fun σ H R=>a σ H λb H1=>∃ i j:Int,b=[.int i,.int j]/\(-(2^62)<=i/\i<2^62/\-(2^62)<=j/\j<2^62)/\R (tG i (j-i).toNat) H1
def Ra {f:TA} (o:Gl X "range") (n:X.mg "range"=none) (g:PA X [a] f) (k:Q0c [a] X.env=[(false,eval a X.env)]:=by rfl):PI X tg (.Call (.Name "range" p) [a] [] b) (Tr f):=by
 intro c s σ H R I h
 refine Call_ (Wn I o n boot_range (rA (aG (g b c s σ H _ I h) λw u hh9=>?_) k rfl))
 obtain⟨v,H1,I1,i,d⟩:=hh9
 obtain⟨j,e,d,m,q⟩:=d
 subst e
 cases i with
 |cons r l =>
  cases l
  obtain⟨t,rfl⟩:=r
  exact call_range_1 (Qj I1 ∅ ∅ d m (by simpa using q))
def RC (z:Gl X "range") (y:X.mg "range"=none) (u:PA X [a,b] l) (w:Q0c [a,b] X.env=[(false,eval a X.env),(false,eval b X.env)]:=by rfl) (c:Q0c [b] X.env=[(false,eval b X.env)]:=by rfl) :
 PI X tg (.Call (.Name "range" p) [a,b] [] d) (Ub l):=by
 intro f s σ H R I h
 refine Call_ (Wn I z y boot_range (rA (aG (u d f s σ H _ I h) λB D hh9=>?_) (by rw[w,c]) (by rw[c];rfl)))
 obtain⟨A,H1,I1,v,k⟩:=hh9
 obtain⟨i,j,e,⟨k,n,x,m⟩,q⟩:=k
 subst e
 cases v with
 |cons r g =>
  cases g with
  |cons o g =>
   cases g
   obtain⟨t,rfl⟩:=r
   obtain⟨C,rfl⟩:=o
   exact call_range_2 (Qj I1 k n x m q)
def Ju (c:TI)(g:TG)(d:TS):TS:=λD σ H=>c σ H λJ H1=>∃ W:Nat->Nat->St->Hp->Prop,(∃ m,W 0 m σ H1)/\∀ i m σ H,W i m σ H ->
 (J.stop i H/\D.nx σ H)\/(J.go i H/\∃ N:wS,(∀ a H',N a H'->∃ b,b<m/\W (i+1) b a H')/\∀ x H',J.yld i H x H'->g x σ H' λe H2=>d { D with nx:=N,ct:=N,bk:=D.nx } e H2)
def X0 (a:xt)(h:Heap):xz:=a.filterMap λb=>(h.get? b).map λo=>(b,o)
def wb {h:Heap}(c:b∈a)(e:h.get? b≈o):(b,o)∈X0 a h:=Iz.mpr ⟨b,c,by rw[e];rfl⟩
def zio {h:Heap}(d:p∈X0 a h):p.1∈a/\h.get? p.1≈p.2:=by
 obtain⟨b,f,e⟩:=Iz.mp d
 cases q:h.get? b with
 |none=>rw[q]at e;cases e
 |some o =>
  rw[q]at e
  have c:(b,o)=p:=g0 e
  subst c
  exact⟨f,q⟩
def aj.pinned {s:zm}(I:aj X a σ H s)(g:∀ b∈fp,cZ X a H b)(k:∀ b∈fp,∃ o,s.heap.get? b≈o/\∀ v,o.data≠.cell v):aj X (a++X0 fp s.heap) σ H s :=
 I.pins_of λp l=>(o0.mp l).elim (λz=>I.pin p (r9 _ z)) λz=>by
  obtain⟨f,e⟩:=zio z
  obtain⟨h,j,i,_⟩:=g p.1 f
  obtain⟨o,c,d⟩:=k p.1 f
  rw[e]at c;cases c
  exact⟨e,h,j,i,d⟩
def aj.unpinned {pl:xz}(I:aj X (a++pl) σ H s):aj X a σ H s:=I.pins_of λp b=>I.pin p (r9 _ (rC _ b))
def Fw {c:Expr}{p:vu}{V:TI}{g:TG}{U:TS}{K:Pos}(w:Q1Y (Q0i X.prog X.w) X.A X.env X.xe)(S:X.calm=true)(hi:PI X tg c V)(hg:PG X tg g)(k:bH X p U)
 (hs:∀ x,Q0m c X.env x=pure x:=by intro _;rfl):PS X (.For tg c p [] K) (Ju V g U):=by
 intro a s σ H D I h
 refine wpAny_For (aG (hi a s σ H _ I h) λv s1 h1=>aG h1 λa0 s2 h2=>?_) hs
 obtain⟨it,C,P,J,H2,e,I2,T,G,Z,W,⟨m0,w0⟩,turn⟩:=h2
 subst e
 -- what stays true of the iterator's objects through the loop
 have l:∀ {H':Hp},(∀ b∈C,H' b=none)->∀ b∈C,cZ X a H' b:=λhn b k=>⟨hn b k,(Z b k).2⟩
 refine codeAny_forLoop_any (λn Y=>∃ i y H',aj X a y H' Y/\P i Y.heap/\(∀ b∈C,H' b=none)/\W i n y H') ?_ m0 ⟨0,σ,H2,I2,G,λb k=>(Z b k).1,w0⟩
 rintro n Q ⟨i,E,H3,I3,B,F,w3⟩
 rcases turn i n E H3 w3 with ⟨A,qn⟩|⟨go,N,hN,step⟩
 .refine kY w (aG (T.done X rfl rfl rfl S i a Q E H3 X.xe I3 (l F) B A) λr s4 hh9=>?_)
  obtain⟨O,I4⟩:=hh9
  subst O
  exact qT ⟨E,H3,I4,qn⟩
 .refine kY w (aG (T.item X rfl rfl rfl S i a Q E H3 X.xe I3 (l F) B go) λr s4 hh9=>?_)
  obtain⟨u,O,h4⟩:=hh9
  subst O
  refine kY w (aG h4 λ_ R hh9=>?_)
  obtain⟨x,H5,I5,r5,y5,t,M⟩:=hh9
  have I5':=I5.pinned (l M) (T.obj _ _ t)
  refine kY w (aG (hg _ R E H5 x u _ I5' r5 (step x H5 y5)) λ_ s6 hh9=>?_)
  obtain⟨σ6,H6,I6,q6⟩:=hh9
  refine kY w (aG (k _ s6 σ6 H6 _ I6 q6) λf L q=>?_)
  have again:∀ {j:St} {H7:Hp},aj X (a++X0 C R.heap) j H7 L->N j H7->∃ m,m<n/\∃ i y H',aj X a y H' L/\P i L.heap/\(∀ b∈C,H' b=none)/\W i m y H':=λ{j H7} I7 z=>by
   obtain⟨m',hm,w7⟩:=hN j H7 z
   refine⟨m',hm,i+1,j,H7,I7.unpinned,T.keep _ _ _ t λb k o e=>(I7.pin (b,o) (r9 _ (r9 _ (wb k e)))).1,λb k=>?_,w7⟩
   obtain⟨o,e,d⟩:=T.obj _ _ t b k
   exact(I7.pin (b,o) (r9 _ (r9 _ (wb k e)))).2.1
  cases f with
  |next=>obtain⟨j,H7,I7,z⟩:=q;exact again I7 z
  |cont=>obtain⟨j,H7,I7,z⟩:=q;exact again I7 z
  |brk=>obtain⟨j,H7,I7,q⟩:=q;exact⟨j,H7,I7.unpinned,q⟩
  |ret v=>obtain⟨x7,j,H7,I7,r7,q⟩:=q;exact⟨x7,j,H7,I7.unpinned,r7,q⟩
end
abbrev R2:=V->V->Hp->VK->Prop
def aQ (X:Cx)(f:Q0e->Q0e->Sem Q0e)(r:R2):Prop :=
 ∀ (a:xz) (s:zm) (σ:St) (H:Hp) (x y:V) (v u:Q0e) (Q:VK),aj X a σ H s->y6 x v->y6 y u->r x y H Q ->
  Q0d (Q0i X.prog X.w) X.A (f v u) (EP X a σ Q) X.xe s
def JX (X:Cx)(f:Q0e->Sem Q0e)(r:V->Hp->VK->Prop):Prop :=
 ∀ (a:xz) (s:zm) (σ:St) (H:Hp) (x:V) (v:Q0e) (Q:VK),aj X a σ H s->y6 x v->r x H Q ->
  Q0d (Q0i X.prog X.w) X.A (f v) (EP X a σ Q) X.xe s
def vq (X:Cx)(f:Q0e)(r:jT):Prop :=
 ∀ (a:xz) (s:zm) (σ:St) (H:Hp) (b:zD) (c:zC) (Q:VK),aj X a σ H s->yy b c->r b H Q ->
  Q0d (Q0i X.prog X.w) X.A (call f c) (EP X a σ Q) X.xe s
def kZ (r:R2)(a b:TE):TE:=fun σ H Q=>a σ H λx H1=>b σ H1 λy H2=>r x y H2 Q
def tUn (r:V->Hp->VK->Prop)(a:TE):TE:=fun σ H Q=>a σ H λx H1=>r x H1 Q
def rI (C:Int->Int->Prop)(g:Int->Int->V):R2:=λx y H Q=>∃ i j,x=.int i/\y=.int j/\C i j/\Q (g i j) H
def gH (g:Int->Int->V):R2:=λx y H Q=>∃ i j,x=.int i/\y=.int j/\Q (g i j) H
def rU (g:Int->V):V->Hp->VK->Prop:=λx H Q=>∃ i,x=.int i/\Q (g i) H
section
variable {X:Cx}{a b c:Expr}{ta tb tc:TE}{pos:Pos}
def Ea (l:PE X a ta)(i:PE X b tb){c:xz}{R:V->V->Hp->Prop}(I:aj X c σ H s)(h:ta σ H λx H1=>tb σ H1 λy H2=>R x y H2){f:Q0e->Q0e->Sem Q0e}(o:∀ v u d x y H2,aj X c σ H2 d->y6 x v->y6 y u->R x y H2->Q0d (Q0i X.prog X.w) X.A (f v u) Q X.xe d) :
 Q0d (Q0i X.prog X.w) X.A (eval a X.env) (λv k=>Q0d (Q0i X.prog X.w) X.A (eval b X.env) (λu j=>Q0d (Q0i X.prog X.w) X.A (f v u) Q X.xe j) X.xe k) X.xe s:=by
 refine aG (l c s σ H _ I h) λv m hh9=>?_
 obtain⟨x,H1,I1,n,p⟩:=hh9
 refine aG (i c m σ H1 _ I1 p) λu d hh9=>?_
 obtain⟨y,H2,I2,e,g⟩:=hh9
 exact o v u d x y H2 I2 n e g
def pF (i:aQ X (Q0O d) r)(e:PE X a ta)(k:PE X b tb):PE X (.BinOp a d b pos) (kZ r ta tb):=by
 intro c s σ H Q I h
 exact wpAny_BinOp (Ea e k I h λv u f x y H2 I2 g j q=>i c f σ H2 x y v u Q I2 g j q)
def Kz {c:UnaryOp}(d:JX X (unaryOp c) r)(e:PE X a ta):PE X (.UnaryOp c a pos) (tUn r ta):=by
 intro b s σ H Q I h
 exact UnaryOp_ (aG (e b s σ H _ I h) λv f ⟨x,H1,I1,g,i⟩=>d b f σ H1 x v Q I1 g i)
def Di {f:Q0e->Q0e->Sem Q0e}{C:Int->Int->Prop}{g:Int->Int->Int}
 (rule:∀ (i j:Int) (t u:Tok) (s:zm) (Q:yM) (E:yM),C i j->Q (.int (g i j) s.toks) { s with toks:=s.toks+1 }->Q0d (Q0i X.prog X.w) X.A (f (.int i t) (.int j u)) Q E s) :
 aQ X f (rI C λi j=>.int (g i j)):=by
 intro a s σ H x y v u Q I c d h
 obtain⟨i,j,rfl,rfl,b,q⟩:=h
 obtain⟨t,rfl⟩:=c
 obtain⟨e,rfl⟩:=d
 exact rule i j t e s _ _ b ⟨.int (g i j),H,I.tok _,⟨_,rfl⟩,q⟩
def sr {f:Q0e->Q0e->Sem Q0e}{g:Int->Int->Int}
 (rule:∀ (i j:Int) (t u:Tok) (s:zm) (Q:yM) (E:yM),Q (.int (g i j) s.toks) { s with toks:=s.toks+1 }->Q0d (Q0i X.prog X.w) X.A (f (.int i t) (.int j u)) Q E s) :
 aQ X f (gH λi j=>.int (g i j)):=by
 intro a s σ H x y v u Q I b c h
 obtain⟨i,j,rfl,rfl,q⟩:=h
 obtain⟨t,rfl⟩:=b
 obtain⟨d,rfl⟩:=c
 exact rule i j t d s _ _ ⟨.int (g i j),H,I.tok _,⟨_,rfl⟩,q⟩
def ud {f:Q0e->Q0e->Sem Q0e}{g:Int->Int->Bool}
 (rule:∀ (i j:Int) (t u:Tok) (s:zm) (Q:yM) (E:yM),Q (.bool (g i j)) s->Q0d (Q0i X.prog X.w) X.A (f (.int i t) (.int j u)) Q E s) :
 aQ X f (gH λi j=>.bl (g i j)):=by
 intro a s σ H x y v u Q I b c h
 obtain⟨i,j,rfl,rfl,q⟩:=h
 obtain⟨t,rfl⟩:=b
 obtain⟨d,rfl⟩:=c
 exact rule i j t d s _ _ ⟨.bl (g i j),H,I,rfl,q⟩
def Ed (i j:Int):Prop:=(-(2^64)<i/\i<2^64)\/(-(2^64)<j/\j<2^64)
def Ed.ok (h:Ed i j):IntMulOk i j:=by
 rcases h with ⟨b,a⟩|⟨b,a⟩
 .exact .of_left (intBits_le_64 b a)
 .exact .of_right (intBits_le_64 b a)
def zfO (k:Nat):(0:Int)<=2^k:=by
 rw[two_pow_cast]
 exact Int.natCast_nonneg _
def zq2:aQ X (Q0O .Add) (gH λi j=>.int (i+j)):=sr λ_ _ _ _ _ _ _ q=>add_int q
def U4:aQ X (Q0O .Sub) (gH λi j=>.int (i-j)):=sr λ_ _ _ _ _ _ _ q=>sub_int q
def zpy:aQ X (Q0O .Mult) (rI Ed λi j=>.int (i*j)):=Di λ_ _ _ _ _ _ _ a q=>mul_int q a.ok
def Ut:aQ X (Q0O .Mod) (rI (λ_ j=>0<j) λi j=>.int (i%j)):=Di λi j _ _ _ _ _ a q=>by
 have b:(0:Int)<j:=a
 exact mod_int' ∅ (by rw[Int.fmod_eq_emod_of_nonneg i ∅];exact q)
def zqL:aQ X (Q0O .RShift) (rI (λ_ j=>0<=j) λi j=>.int (i/2^j.toNat)):=Di λi j _ _ _ _ _ a q =>
 rshift_int a (by rw[R7 i (zfO _)];exact q)
def unI {f:Q0e->Sem Q0e}{g:Int->Int}
 (rule:∀ (i:Int) (t:Tok) (s:zm) (Q:yM) (E:yM),Q (.int (g i) s.toks) { s with toks:=s.toks+1 }->Q0d (Q0i X.prog X.w) X.A (f (.int i t)) Q E s) :
 JX X f (rU λi=>.int (g i)):=by
 intro a s σ H x v Q I b h
 obtain⟨i,rfl,q⟩:=h
 obtain⟨t,rfl⟩:=b
 exact rule i t s _ _ ⟨.int (g i),H,I.tok _,⟨_,rfl⟩,q⟩
def Lz:JX X (unaryOp .USub) (rU λi=>.int (-i)):=unI λ_ _ _ _ _ q=>neg_int q
end
def rM:V->V->Bool
 |.non,.non=>true|.non,.int _=>true|.int _,.non=>true|.non,.bl _=>true|.bl _,.non=>true|.non,.str _=>true|.str _,.non=>true
 |.int _,.int _=>true|.bl _,.bl _=>true|.str _,.str _=>true|.byt _,.byt _=>true
 |.int _,.str _=>true|.str _,.int _=>true|.bl _,.str _=>true|.str _,.bl _=>true
 |_,_=>false
def Dh:R2:=λx y H Q=>rM x y=true/\Q (.bl (decide (x=y))) H
def JC:R2:=λx y H Q=>rM x y=true/\Q (.bl (!decide (x=y))) H
def Gm:decide (V.int i=V.int j)=(i == j):=by
 rw[qY]
 simp
def M8:decide (V.bl i=V.bl j)=(i == j):=by
 rw[qY]
 simp
def Oa:decide (V.str i=V.str j)=(i == j):=by
 rw[qY]
 simp
def Py {i j:Array UInt8}:decide (V.byt i=V.byt j)=(i.toList == j.toList):=by
 rw[qY]
 cases i
 cases j
 simp
section
variable {X:Cx}{a b c:Expr}{ta tb tc:TE}{pos:Pos}
def yi {a:xz}{Q:VK}{k b:Bool}(I:aj X a σ H s)(q:Q (.bl k) H)(e:k=b):EP X a σ Q (.bool b) s:=by
 subst e
 exact⟨.bl k,H,I,rfl,q⟩
def T4:aQ X (Q0l .Eq) Dh:=by
 intro e s σ H x y v u Q I d a h
 obtain⟨c,q⟩:=h
 cases x with
 |non =>
  cases d
  cases y with
  |non=>cases a;exact PySem.EqNone.eq_none_none (yi I q (by simp))
  |bl j=>cases a;exact PySem.EqNone.eq_none_bool (yi I q (by simp))
  |int j=>obtain⟨b,rfl⟩:=a;exact PySem.EqNone.eq_none_int (yi I q (by simp))
  |str j=>obtain⟨b,rfl⟩:=a;exact PySem.EqNone.eq_none_str (yi I q (by simp))
  |_=>exact absurd (show false=true from c) u7
 |bl i =>
  cases d
  cases y with
  |non=>cases a;exact PySem.EqNone.eq_bool_none (yi I q (by simp))
  |bl j=>cases a;exact eq_bool (yi I q M8)
  |str j=>obtain⟨b,rfl⟩:=a;exact PySem.EqMixed.eq_bool_str (yi I q (by simp))
  |_=>exact absurd (show false=true from c) u7
 |int i =>
  obtain⟨t,rfl⟩:=d
  cases y with
  |non=>cases a;exact PySem.EqNone.eq_int_none (yi I q (by simp))
  |int j=>obtain⟨b,rfl⟩:=a;exact eq_int (yi I q Gm)
  |str j=>obtain⟨b,rfl⟩:=a;exact PySem.EqMixed.eq_int_str (yi I q (by simp))
  |_=>exact absurd (show false=true from c) u7
 |str i =>
  obtain⟨t,rfl⟩:=d
  cases y with
  |non=>cases a;exact PySem.EqNone.eq_str_none (yi I q (by simp))
  |bl j=>cases a;exact PySem.EqMixed.eq_str_bool (yi I q (by simp))
  |int j=>obtain⟨b,rfl⟩:=a;exact PySem.EqMixed.eq_str_int (yi I q (by simp))
  |str j=>obtain⟨b,rfl⟩:=a;exact eq_str (yi I q Oa)
  |_=>exact absurd (show false=true from c) u7
 |byt i =>
  obtain⟨t,rfl⟩:=d
  cases y with
  |byt j=>obtain⟨b,rfl⟩:=a;exact W.eq_bytes (yi I q Py)
  |_=>exact absurd (show false=true from c) u7
 |_=>cases y <;> exact absurd (show false=true from c) u7
def VJ:aQ X (Q0l .NotEq) JC:=by
 intro e s σ H x y v u Q I d a h
 obtain⟨c,q⟩:=h
 cases x with
 |non =>
  cases d
  cases y with
  |non=>cases a;exact PySem.EqNone.ne_none_none (yi I q (by simp))
  |bl j=>cases a;exact PySem.EqNone.ne_none_bool (yi I q (by simp))
  |int j=>obtain⟨b,rfl⟩:=a;exact PySem.EqNone.ne_none_int (yi I q (by simp))
  |str j=>obtain⟨b,rfl⟩:=a;exact PySem.EqNone.ne_none_str (yi I q (by simp))
  |_=>exact absurd (show false=true from c) u7
 |bl i =>
  cases d
  cases y with
  |non=>cases a;exact PySem.EqNone.ne_bool_none (yi I q (by simp))
  |bl j=>cases a;exact ne_bool (yi I q (bJ not M8))
  |str j=>obtain⟨b,rfl⟩:=a;exact PySem.EqMixed.ne_bool_str (yi I q (by simp))
  |_=>exact absurd (show false=true from c) u7
 |int i =>
  obtain⟨t,rfl⟩:=d
  cases y with
  |non=>cases a;exact PySem.EqNone.ne_int_none (yi I q (by simp))
  |int j=>obtain⟨b,rfl⟩:=a;exact ne_int (yi I q (bJ not Gm))
  |str j=>obtain⟨b,rfl⟩:=a;exact PySem.EqMixed.ne_int_str (yi I q (by simp))
  |_=>exact absurd (show false=true from c) u7
 |str i =>
  obtain⟨t,rfl⟩:=d
  cases y with
  |non=>cases a;exact PySem.EqNone.ne_str_none (yi I q (by simp))
  |bl j=>cases a;exact PySem.EqMixed.ne_str_bool (yi I q (by simp))
  |int j=>obtain⟨b,rfl⟩:=a;exact PySem.EqMixed.ne_str_int (yi I q (by simp))
  |str j=>obtain⟨b,rfl⟩:=a;exact ne_str (yi I q (bJ not Oa))
  |_=>exact absurd (show false=true from c) u7
 |byt i =>
  obtain⟨t,rfl⟩:=d
  cases y with
  |byt j=>obtain⟨b,rfl⟩:=a;exact W.ne_bytes (yi I q (bJ not Py))
  |_=>exact absurd (show false=true from c) u7
 |_=>cases y <;> exact absurd (show false=true from c) u7
def Tu:aQ X (Q0l .Lt) (gH λi j=>.bl (decide (i<j))):=ud λ_ _ _ _ _ _ _ q=>lt_int q
def VZ:aQ X (Q0l .LtE) (gH λi j=>.bl (decide (i<=j))):=ud λ_ _ _ _ _ _ _ q=>le_int q
def lX:aQ X (Q0l .Gt) (gH λi j=>.bl (decide (j<i))):=ud λ_ _ _ _ _ _ _ q=>gt_int q
def Fe:aQ X (Q0l .GtE) (gH λi j=>.bl (decide (j<=i))):=ud λ_ _ _ _ _ _ _ q=>ge_int q
def zie:aQ X (Q0l .In) (λx y H Q=>∃ i j,x=.str i/\y=.str j/\Q (.bl (!(Q0C j i 0 ↥j 1).isEmpty)) H):=by
 intro a s σ H x y v u Q I b c h
 obtain⟨i,j,rfl,rfl,q⟩:=h
 obtain⟨t,rfl⟩:=b
 obtain⟨d,rfl⟩:=c
 exact in_str (yi I q rfl)
def zrS:aQ X (Q0l .Is) (λx y H Q=>y=.non/\Q (.bl (decide (x=.non))) H):=by
 intro b s σ H x y v u Q I a c h
 obtain⟨rfl,q⟩:=h
 cases c
 refine is_none_gen (yi I q ?_)
 cases x <;> first
  | (cases a;rfl)
  | (obtain⟨t,rfl⟩:=a;rfl)
def znN:aQ X (Q0l .IsNot) (λx y H Q=>y=.non/\Q (.bl (!decide (x=.non))) H):=by
 intro b s σ H x y v u Q I a c h
 obtain⟨rfl,q⟩:=h
 cases c
 refine isnot_none_gen (yi I q ?_)
 cases x <;> first
  | (cases a;rfl)
  | (obtain⟨t,rfl⟩:=a;rfl)
def aQ.or {f:Q0e->Q0e->Sem Q0e}{r d:R2}(h:aQ X f r)(e:aQ X f d):aQ X f (λx y H Q=>r x y H Q\/d x y H Q):=by
 intro a s σ H x y v u Q I b c q
 rcases q with q|q
 .exact h a s σ H x y v u Q I b c q
 .exact e a s σ H x y v u Q I b c q
def z5 (b:Expr){a:CmpOp}(h:a≠.In:=by decide)(c:a≠.NotIn:=by decide):Q0Z a b=false:=by
 have d:(a == CmpOp.In)=false:=by cases a <;> first|rfl|exact absurd rfl h
 have e:(a == CmpOp.NotIn)=false:=by cases a <;> first|rfl|exact absurd rfl c
 cases b <;> simp[Q0Z,d,e]
def zoO (i:aQ X (Q0l d) r)(e:PE X a ta)(l:PE X b tb)(k:Q0Z d b=false):PE X (.Compare a [d] [b] pos) (kZ r ta tb):=by
 intro c s σ H Q I h
 exact wpAny_Compare1 (Ea e l I h λv u f x y H2 I2 g j q=>i c f σ H2 x y v u Q I2 g j q) k
def lR (t:TE):TT:=fun σ H Q=>t σ H λx H'=>∃ k,x=.bl k/\Q k H'
def G8 {f:CmpOp}(o:aQ X (Q0l f) r)(i:PE X a ta)(A:PE X b tb)(t:Q0Z f b=false):PT X (.Compare a [f] [b] pos) (lR (kZ r ta tb)):=by
 intro d s σ H Q I h
 refine wpAny_isTrue_Compare1 (aG (i d s σ H _ I h) λv j ⟨x,H1,I1,l,w⟩=>aG (A d j σ H1 _ I1 w) λu n ⟨y,H2,I2,m,q⟩ =>
  aG (o d n σ H2 x y v u _ I2 l m q) λc B ⟨z,H3,I3,g,k,e,p⟩=>?_) t
 subst e
 cases g
 exact fX ⟨H3,I3,p⟩
def pR (r b:R2)(ta tb tc:TE):TE:=fun σ H Q=>ta σ H λx H1=>tb σ H1 λy H2=>r x y H2 λz H3=>∃ k,z=.bl k /\
 (if k then tc σ H3 λa H4=>b y a H4 Q else Q (.bl false) H3)
def zlM {g:CmpOp}(t:aQ X (Q0l i) r)(j:aQ X (Q0l g) m)(D:PE X a ta)(B:PE X b tb)(K:PE X c tc)(L:lastMarks [i,g] [b,c]=false:=by with_unfolding_all rfl):PE X (.Compare a [i,g] [b,c] pos) (pR r m ta tb tc):=by
 intro f s σ H Q I h
 refine Compare_chain (aG (D f s σ H _ I h) λv E ⟨x,H1,I1,F,M⟩=>chain_link (aG (B f E σ H1 _ I1 M) λu J ⟨y,H2,I2,l,w⟩ =>
  aG (t f J σ H2 x y v u _ I2 F l w) λd q ⟨z,H3,I3,o,k,e,n⟩=>?_)) L
 subst e
 cases o
 refine fX ?_
 cases k with
 |false=>exact ite_ff ⟨.bl false,H3,I3,rfl,n⟩
 |true=>exact ite_tt (chain_last (aG (K f q σ H3 _ I3 n) λC A ⟨G,H4,I4,N,p⟩=>j f A σ H4 y G u C Q I4 l N p))
def zkk {g:CmpOp}(C:aQ X (Q0l i) r)(j:aQ X (Q0l g) m)(K:PE X a ta)(G:PE X b tb)(P:PE X c tc)(R:lastMarks [i,g] [b,c]=false:=by with_unfolding_all rfl):PT X (.Compare a [i,g] [b,c] pos) (lR (pR r m ta tb tc)):=by
 intro f s σ H Q I h
 refine isTrue_chain (aG (K f s σ H _ I h) λv L ⟨x,H1,I1,M,S⟩=>test_link (aG (G f L σ H1 _ I1 S) λu O ⟨y,H2,I2,l,D⟩ =>
  aG (C f O σ H2 x y v u _ I2 M l D) λd A ⟨z,H3,I3,o,k,e,n⟩=>?_)) R
 subst e
 cases o
 refine fX ?_
 cases k with
 |false =>
  obtain⟨W,p,E⟩:=n
  cases p
  exact ite_ff ⟨H3,I3,E⟩
 |true =>
  refine ite_tt (test_last (aG (P f A σ H3 _ I3 n) λJ F ⟨N,H4,I4,T,t⟩=>aG (j f F σ H4 y N u J _ I4 l T t) λV Y hh9=>?_))
  obtain⟨U,H5,I5,q,Z,w,B⟩:=hh9
  subst w
  cases q
  exact fX ⟨H5,I5,B⟩
def X4:(sizeLine:Nat)<2^63:=by rw[fZ];decide
def zfM:aQ X (Q0O .Add) (λx y H Q=>∃ i j,x=.str i/\y=.str j/\↥i+↥j<=sizeLine/\Q (.str (i++j)) H):=by
 intro a s σ H x y v u Q I b c h
 obtain⟨i,j,rfl,rfl,d,q⟩:=h
 obtain⟨t,rfl⟩:=b
 obtain⟨e,rfl⟩:=c
 exact add_str (λe f=>⟨.str (i++j),H,I.tok _,⟨_,rfl⟩,q⟩) d
def Zj {a:zC}(r:yy [x] a):∃ u,a=[u]/\y6 x u:=by
 cases r with
 |cons b c=>cases c;exact⟨_,rfl,b⟩
def lZ {b:zC}(r:yy [x,y] b):∃ u a,b=[u,a]/\y6 x u/\y6 y a:=by
 cases r with
 |cons d e =>
  cases e with
  |cons c f=>cases f;exact⟨_,_,rfl,d,c⟩
def zgR (d:X.calm=true):vq X (.builtin "max") (λc H Q=>∃ i j,c=[.int i,.int j]/\Q (.int (if j>i then j else i)) H):=by
 intro b s σ H c g Q I r h
 obtain⟨i,j,rfl,q⟩:=h
 obtain⟨u,e,rfl,⟨t,rfl⟩,⟨m,rfl⟩⟩:=lZ r
 refine max_two_ints (I.ok.hd d) λl f k=>⟨_,H,I.kept k,?_,q⟩
 by_cases a:j>i
 .rw[t5 a,t5 a];exact⟨_,rfl⟩
 .rw[j5 a,j5 a];exact⟨_,rfl⟩
def zg6 (d:X.calm=true):vq X (.builtin "min") (λc H Q=>∃ i j,c=[.int i,.int j]/\Q (.int (if j<i then j else i)) H):=by
 intro b s σ H c g Q I r h
 obtain⟨i,j,rfl,q⟩:=h
 obtain⟨u,e,rfl,⟨t,rfl⟩,⟨m,rfl⟩⟩:=lZ r
 refine min_two_ints (I.ok.hd d) λl f k=>⟨_,H,I.kept k,?_,q⟩
 by_cases a:j<i
 .rw[t5 a,t5 a];exact⟨_,rfl⟩
 .rw[j5 a,j5 a];exact⟨_,rfl⟩
def zp:vq X (.type "str") (λb H Q=>∃ i,b=[.int i]/\i.natAbs.log2<1920/\Q (.str (toString i)) H):=by
 intro a s σ H b d Q I r h
 obtain⟨i,rfl,c,q⟩:=h
 obtain⟨u,rfl,t,rfl⟩:=Zj r
 exact PySem.P.str_of_int c ⟨.str _,H,I.tok _,⟨_,rfl⟩,q⟩
end
structure jL (h:Heap) (x dx C:Addr) (mA:wA):Prop where
 obj:h.get? x≈(Q1m C dx)
 ns:h.Ns1 dx mA
 ne:dx≠x
def zhK {h:Heap}{d:wA}(n:h.Ns1 i d):∃ f,h.get? i≈f/\∀ b,W.lookIn b f≈(d b):=by
 obtain⟨o,g,s,p,k,j,_,r⟩:=n
 refine⟨o,p,λb=>?_⟩
 have e:=r b
 unfold nsFind findBy at e
 rw[<-Array.find?_toList]at e
 unfold W.lookIn
 rw[k]
 dsimp only
 split
 .rename_i y q
  rw[q]at e
  exact bJ some e
 .rename_i q
  rw[q]at e
  have a:g.toList.any (·.refKey)=false:=by
   rw[List.any_eq_false]
   intro y m
   obtain⟨z,t,c⟩:=j y (Array.mem_toList_iff.mp m)
   simp[DictEntry.refKey,c]
  have l:¬ g.toList.any (·.refKey)=true:=by rw[a];exact u7
  rw[j5 l]
  exact bJ some e
def jL.look {d:wA}(I:jL h x c C d):∃ b,PySem.W.InstAt h x (Q1m C c) C (some b)/\∀ a,W.lookIn a b≈(d a) :=
 let ⟨b,ho,hl⟩:=zhK I.ns
 ⟨b,⟨I.obj,rfl,rfl,ho⟩,hl⟩
section
variable {prog:zO}{w:Q0k}{A:zP}{E:yM}{s:zm}{K:zA}{x dx C f:Addr}{mA:wA}{name:Str}{v:Q0e}
def zov {Q:yM}(X:K.In s.heap)(I:jL s.heap x dx C mA)(d:Q16 K C name=true)(f:Q2i K C=true)(c:Q0E K (.ref C) name≈none)(g:mA name≈v)(b:W.handedIn v=true)(h:Q v { s with toks:=s.toks+1 }) :
 Q0d (Q0i prog w) A (getAttr (.ref x) name a) Q E s:=by
 obtain⟨i,J,e⟩:=I.look
 exact W.get_value X J (Ja d).1 (W.findObj_own f c rfl (by rw[e,g])) b h
def zlJ {pl:Sem Bool}{Q:Q0e × zC->Q0u->Prop}(X:K.In s.heap)(I:jL s.heap x dx C mA)(a:Q16 K C name=true)
 (g:Q0E K (.ref C) name≈(some (.ref f))) (b:W.isFn K (.ref f)=true) (e:mA name=none) (h:Q (.ref f,[.ref x]) s) :
 Q0d (Q0i prog w) A (Q12 (.ref x) name pl) Q E s:=by
 obtain⟨c,J,d⟩:=I.look
 exact W.method_fn X J (Ja a).1 (Ja a).2 g (fJ.mp b) (by show(W.lookIn name c).map (·.isSome)≈false;rw[d,e];rfl) h
def zot {ns:zF}{Q:Unit->Q0u->Prop}(X:K.In s.heap)(I:jL s.heap x dx C mA)
 (n:Q0E K (.ref C) "__setattr__"≈(some (.builtin "object.__setattr__"))) (t:W.plainOver K C=true) (k:W.takerIn K C name≈none) (u:Q2i K C=true)
 (hw:Q2M mA ns) (p:↥ns<=sizeLine)
 (h:∀ e,jL e x dx C (λy=>if y=name then some v else mA y)->Q0U dx s.heap e->Q () { s with heap:=e,toks:=s.toks+2 }) :
 Q0d (Q0i prog w) A (setAttr (.ref x) name v) Q E s:=by
 obtain⟨D,J,B⟩:=I.look
 refine W.set_plain X J n (W.osa_open (s:={ s with toks:=s.toks+1 }) (r:=none) X J t k λb=>?_)
 obtain⟨z,o,g⟩:=W.any_some u
 have q:s.heap.get? x≈⟨.ref C,some dx,.plain,#[]⟩:=I.obj
 refine u3 (t4 (u3 (u3 (wpAny_loadPart q (u3 (PySem.W.Looks.here (s:={ s with toks:=s.toks+1 }) (W.looks_clsIn X o) ?_))))))
 rw[g]
 refine t4 (a:=some dx) (u3 (t4 (u3 ?_)))
 refine wpAny_nsSet1 (s:={ s with toks:=s.toks+1 }) I.ns λe c d=>?_
 obtain⟨F,m,l,f,j,i⟩:=c.count (PySem.Within.cons name v hw)
 refine u3 (wpAny_lookBehind f (by rw[j];exact pastItsLine_dict (k8 i (by rw[g5];omega))) ?_)
 exact t4 (h _ ⟨(d.2 _ (bh I.ne)).trans I.obj,c,I.ne⟩ d)
def zjN (X:K.In s.heap) (i:W.makesIn K C=true) (e:Q0E K (.ref C) "__init__"≈(some (.ref f))) (j:W.typeIn K (.ref f)≈(.type "function")) (h:Q05 (Q0i prog w) (A.under (.builtin "type.__call__" ⟨.ref C::b,c⟩)) (.call (.ref f) ⟨.ref (⇑s+1)::b,c⟩) (PySem.W.InitBack (⇑s+1) R)
 { s with heap:=(s.heap.push Q0X).push (Q1m C ⇑s) }) :
 Q05 (Q0i prog w) A (.call (.ref C) ⟨b,c⟩) R s:=by
 obtain⟨k,g,d,t,os⟩:=s
 exact W.make_core (W.makes_of X i) (W.looks_findIn X e) (λa=>W.bind_fn X a j) (.inl rfl) h
end
def cB (f:Str)(v:V):List (Str × V)->List (Str × V)
 |[]=>[(f,v)]
 | (g,x)::r=>if g=f then (g,v)::r else (g,x)::cB f v r
def W5 (f g:Str)(v:V):∀ c:List (Str × V),(cB f v c).lookup g=if g=f then some v else c.lookup g
 |[]=>by
  show Q0W g [(f,v)]=_
  by_cases h:g=f
  .have a:(g == f)=true:=fJ.mpr h
   simp only[Q0W,a,t5 h]
  .have a:(g == f)=false:=l8.mpr h
   simp only[Q0W,a,j5 h]
 | (k,x)::r=>by
  have d:=W5 f g v r
  rw[show cB f v ((k,x)::r)=(if k=f then (k,v)::r else (k,x)::cB f v r)from rfl]
  by_cases b:k=f
  .rw[t5 b]
   by_cases h:g=k
   .have a:(g == k)=true:=fJ.mpr h
    simp only[Q0W,a,t5 (h.trans b)]
   .have a:(g == k)=false:=l8.mpr h
    simp only[Q0W,a,j5 (λe:g=f=>h (e.trans b.symm))]
  .rw[j5 b]
   by_cases h:g=k
   .have a:(g == k)=true:=fJ.mpr h
    simp only[Q0W,a,j5 (λe:g=f=>b (h.symm.trans e))]
   .have a:(g == k)=false:=l8.mpr h
    simp only[Q0W,a]
    exact d
def VB (f:Str)(v:V):∀ a:List (Str × V),f∈(cB f v a).map (·.1)/\∀ g,g∈a.map (·.1)->g∈(cB f v a).map (·.1)
 |[]=>⟨by simp[cB],λg h=>by simp at h⟩
 | (k,x)::r=>by
  obtain⟨d,c⟩:=VB f v r
  rw[show cB f v ((k,x)::r)=(if k=f then (k,v)::r else (k,x)::cB f v r)from rfl]
  by_cases b:k=f
  .rw[t5 b]
   subst b
   exact⟨by simp,λg h=>by simpa using h⟩
  .rw[j5 b]
   refine⟨?_,λg h=>?_⟩
   .rw[n0]
    exact r6 _ d
   .rw[n0]at h ⊢
    rcases t9.mp h with e|e
    .exact t9.mpr (.inl e)
    .exact r6 _ (c g e)
def Vh (f:Str)(v:V):∀ a:List (Str × V),(cB f v a).length<=↥a+1
 |[]=>by simp[cB]
 | (k,x)::r=>by
  have c:=Vh f v r
  rw[show cB f v ((k,x)::r)=(if k=f then (k,v)::r else (k,x)::cB f v r)from rfl]
  by_cases b:k=f
  .rw[t5 b,g5,g5];omega
  .rw[j5 b,g5,g5];omega
def dU.some_of (r:dU (some v) o):∃ u,o≈u/\y6 v u:=by
 cases o with
 |none=>exact(show False from r).elim
 |some u=>exact⟨u,rfl,r⟩
def dU.none_of (r:dU none o):o=none:=by
 cases o with
 |none=>rfl
 |some u=>exact(show False from r).elim
def zgH (r:y6 v u):W.handedIn u=true:=by
 cases v with
 |non=>cases (show u=Q0z from r);rfl
 |bl b=>cases (show u=Q0K b from r);rfl
 |int i=>obtain⟨t,e⟩:=(show ∃ t,u=Q03 i t from r);cases e;rfl
 |str x=>obtain⟨t,e⟩:=(show ∃ t,u=Q2u x t from r);cases e;rfl
 |byt b=>obtain⟨t,e⟩:=(show ∃ t,u=Value.bytes b t from r);cases e;rfl
 |flt b=>obtain⟨t,e⟩:=(show ∃ t,u=Value.float b t from r);cases e;rfl
 |ref a=>cases (show u=Q0f a from r);rfl
 |ty n=>cases (show u=Q0A n from r);rfl
section
variable {P:zO}{w:Q0k}{H H':Hp}{h h':Heap}{a C dx:Addr}{fs fs':List (Str × V)}
def Bk (c:aW P w H h)(e:H a≈(.ins C dx fs)):∃ b,jL h a dx C b/\(∀ f,dU (fs.lookup f) (b f))/\Q2M b (fs.map (·.1))/\↥fs<=1000/\H dx≈(.own a):=by
 obtain⟨d,z,i,g,b,n,r,q⟩:=(show yU P w H h a (.ins C dx fs)from c a _ e)
 exact⟨b,⟨g,n,i⟩,r,q,z,d⟩
end
structure fc (K:zA) (C:Addr):Prop where
 pg:Q16 K C Str.empty=true
 hd:Q2i K C=true
 po:W.plainOver K C=true
 sa:Q0E K (.ref C) "__setattr__"≈(some (.builtin "object.__setattr__"))
def fc.get {K:zA}{C:Addr}(c:fc K C)(f:Str):Q16 K C f=true:=c.pg
def Zn (K:zA)(C:Addr)(f:Str):Prop:=Q0E K (.ref C) f≈none
def Zn.taker {K:zA}{C:Addr}{f:Str}(n:Zn K C f):W.takerIn K C f≈none:=by
 unfold W.takerIn
 rw[show Q0E K (.ref C) f≈none from n]
 rfl
structure je (K:zA) (C:Addr) (m:Str) (f:Addr):Prop where
 at_:Q0E K (.ref C) m≈(some (.ref f))
 fn:W.isFn K (.ref f)=true
 kp:Q0H K (.ref f)=true
section
variable {X:Cx}{pins:xz}{σ:St}{H:Hp}{s:zm}{a C dx:Addr}{fs:List (Str × V)}{f:Str}{v:V}{A:zP}{E:yM}
def zf9 {Q:yM}(I:aj X pins σ H s)(e:H a≈(.ins C dx fs))(c:fc X.K C)(n:Zn X.K C f)(l:fs.lookup f≈v)(h:∀ u d,aj X pins σ H d->y6 v u->Q u d):Q0d (Q0i X.prog X.w) A (getAttr (.ref a) f b) Q E s:=by
 obtain⟨j,O,r,_,_,_⟩:=Bk I.hok e
 obtain⟨u,i,g⟩:=dU.some_of (v:=v) (o:=j f) (by rw[<-l];exact r f)
 exact zov I.kIn O (c.get f) c.hd n i (zgH g) (h u _ (I.tok _) g)
def zgm {g:Addr}{pl:Sem Bool}{Q:Q0e × zC->Q0u->Prop}(I:aj X pins σ H s)(e:H a≈(.ins C dx fs))(c:fc X.K C)(k:je X.K C m g)(l:fs.lookup m=none)(h:Q (.ref g,[.ref a]) s):Q0d (Q0i X.prog X.w) A (Q12 (.ref a) m pl) Q E s:=by
 obtain⟨d,O,r,_,_,_⟩:=Bk I.hok e
 have b:d m=none:=dU.none_of (by rw[<-l];exact r m)
 exact zlJ I.kIn O (c.get m) k.at_ k.fn b h
def zfX {Q:Unit->Q0u->Prop}(I:aj X pins σ H s)(e:H a≈(.ins C dx fs))(c:fc X.K C)(n:Zn X.K C f)(D:↥fs<1000)(l:y6 y u)(h:∀ k,aj X pins σ (aA H a (.ins C dx (cB f y fs))) k->Q () k):Q0d (Q0i X.prog X.w) A (setAttr (.ref a) f u) Q E s:=by
 obtain⟨i,O,r,j,_,d⟩:=Bk I.hok e
 have B:(fs.map (·.1)).length<=sizeLine:=by rw[u5,fZ];omega
 refine zot I.kIn O c.sa c.po n.taker c.hd j B λv O' t=>h _ ?_
 have p:∃ o,v.get? dx≈o:=let ⟨o,_,_,e',_⟩:=O'.ns;⟨o,e'⟩
 refine I.write (x:=a) (e:=dx) (by rw[e];exact Q0D) (.inr d) (λb q m z=>(t.2 b m).trans z) p ?_
 refine⟨by rw[zj O.ne];exact d,?_,O.ne,O'.obj,_,O'.ns,λg=>?_,λg w=>?_⟩
 .have:=Vh f y fs;omega
 .show dU ((cB f y fs).lookup g) (if g=f then some u else i g)
  rw[W5]
  by_cases q:g=f
  .rw[t5 q,t5 q];exact l
  .rw[j5 q,j5 q];exact r g
 .by_cases q:g=f
  .rw[q];exact(VB f y fs).1
  .refine(VB f y fs).2 g (j g λz=>w ?_)
   show(if g=f then some u else i g)=none
   rw[j5 q];exact z
def aj.made (I:aj X pins σ H s):aj X pins σ (aA (aA H ⇑s (.own (⇑s+1))) (⇑s+1) (.ins C ⇑s []))
 { s with heap:=(s.heap.push Q0X).push (Q1m C ⇑s) }:=by
 have c:(s.heap.push Q0X).get? ⇑s≈W.emptyDict:=j6 s.heap rfl
 have g:((s.heap.push Q0X).push (Q1m C ⇑s)).get? (⇑s+1)≈(Q1m C ⇑s):=by
  have:=j6 (s.heap.push Q0X) (o:=Q1m C ⇑s) rfl
  rwa[s0]at this
 have i:(s.heap.push Q0X).Ns ⇑s (λ_=>none):=⟨Q0X,#[],_,c,rfl,(λe h=>absurd h (by simp)),λ_=>rfl⟩
 have I1:=I.laid (a:=⇑s) (o:=.own (⇑s+1)) (h':=s.heap.push Q0X) (t':=s.toks) (λb u q=>u6 _ q) (t6 _) ⟨_,c⟩
 refine I1.laid (a:=⇑s+1) (o:=.ins C ⇑s []) (t':=s.toks) (λb u q=>u6 _ q) (Nat.le_of_eq (s0 _ _)) ?_
 have d:⇑s≠⇑s+1:=r4 (mY _)
 refine⟨by rw[zj d,zn],cO _,d,g,λ_=>none,(Heap.Ns1.of_empty i).at λo q=>u6 _ q,λ_=>Q0D,λy f=>absurd rfl f⟩
def znX {a:zO}{w:Q0k}{f:Str}{s:zm}(c:Q0F e f env (eval e env)=eval e env)(h:Q0d (Q0i a w) A (eval e env) (λo d=>Q0d (Q0i a w) A (getAttr o f true) Q E d) E s):Q0d (Q0i a w) A (eval (.Attribute e f b) env) Q E s :=
 Attribute_any_ h (by rw[arm_eval_Attribute,c])
end
def Jv (K:zA)(c:TE)(f:Str):TE:=fun σ H Q=>c σ H λx H1=>∃ a C d b v,x=.ref a/\H1 a≈(.ins C d b)/\fc K C/\Zn K C f/\b.lookup f≈v/\Q v H1
def tW (K:zA)(d e:TE)(f:Str):TS:=λD σ H=>e σ H λy H1=>d σ H1 λx H2=>∃ a C c b,x=.ref a/\H2 a≈(.ins C c b)/\fc K C/\Zn K C f/\↥b<1000 /\
 D.nx σ (aA H2 a (.ins C c (cB f y b)))
section
variable {X:Cx}{o e value:Expr}{f:Str}{pos pos' tpos:Pos}{ta tv:TE}
def Fq (g:PE X e ta)(k:Q0F e f X.env (eval e X.env)=eval e X.env):PE X (.Attribute e f pos) (Jv X.K ta f):=by
 intro b s σ H Q I h
 refine znX k (aG (g b s σ H _ I h) λu m hh9=>?_)
 obtain⟨x,H1,I1,j,a,C,t,r,v,ex,d,c,n,l,q⟩:=hh9
 subst ex
 obtain rfl:u=Q0f a:=j
 exact zf9 I1 d c n l λp o I2 i=>⟨v,H1,I2,i,q⟩
def qg (d:PE X o ta)(r:PE X value tv)(j:Q0q value (some (.Attribute o f pos')) pos.line X.env=pure false):PS X (.Assign [.Attribute o f pos'] value pos) (tW X.K ta tv f):=by
 intro b s σ H D I h
 refine plainObj_wpAny_Assign_Attribute (aG (r b s σ H _ I h) λu e ⟨y,H1,I1,p,q⟩=>aG (d b e σ H1 _ I1 q) λg v hh9=>?_) j
 obtain⟨x,H2,I2,k,a,C,z,w,ex,i,c,n,l,m⟩:=hh9
 subst ex
 obtain rfl:g=Q0f a:=k
 exact zfX I2 i c n l p λt I3=>⟨σ,_,I3,m⟩
end
section
variable {X:Cx}{pins:xz}{σ:St}{H:Hp}{s:zm}{A:zP}{E:yM}{Q:yM}{c:Q0e}{b:Bool}
inductive dJ (K:zA) (H:Hp):V->Q0e->Prop where
 | non:dJ K H .non (.type "NoneType")
 | bl (x:Bool):dJ K H (.bl x) (.type "bool")
 | int (i:Int):dJ K H (.int i) (.type "int")
 | str (x:Str):dJ K H (.str x) (.type "str")
 | flt (x:UInt64):dJ K H (.flt x) (.type "float")
 | lst {a:Addr} {xs:zD} (e:H a≈(.lst xs)):dJ K H (.ref a) (.type "list")
 | frz {a:Addr} {o:Obj} {xs:zD} (e:H a≈(.frz o (.lst xs))):dJ K H (.ref a) (.type "list")
 | tup {a:Addr} {xs:zD} (e:H a≈(.tup xs)):dJ K H (.ref a) (.type "tuple")
 | dK {a:Addr} {kvs:List (aJ × V)} (e:H a≈(.dK kvs)):dJ K H (.ref a) (.type "dict")
 | dT {a:Addr} {kvs:VV} (e:H a≈(.dT kvs)):dJ K H (.ref a) (.type "dict")
 | ins {a C dx:Addr} {fs:List (Str × V)} (e:H a≈(.ins C dx fs)) (cl:fc K C) (ha:Q0E K (.ref C) "__class__"≈(some (.builtin "object.__class__")))
  (hn:W.specialIn K (.builtin "object.__class__") "__get__"≈(some (.builtin "getset_descriptor.__get__"))) (htk:W.takesIn K (.builtin "object.__class__")≈true)
  (hm:W.mroIn K C (.type "object")≈true):dJ K H (.ref a) (.ref C)
def zhc {t:Q0e}(I:aj X pins σ H s)(f:y6 x u)(ty:dJ X.K H x t)(e:Q0Y X.K t c≈b)(h:∀ v,Q (.bool b) { s with toks:=v }) :
 Q0d (Q0i X.prog X.w) A (call (.builtin "isinstance") [u,c]) Q E s:=by
 cases ty with
 |non=>cases (show u=Q0z from f);exact eQ W.kitx_none I.kIn Q0D e (λz=>nomatch z) h
 |bl y=>cases (show u=Q0K y from f);exact eQ W.kitx_bool I.kIn Q0D e (λz=>nomatch z) h
 |int i=>obtain⟨t,q⟩:=(show ∃ t,u=Q03 i t from f);cases q;exact eQ W.kitx_int I.kIn Q0D e (λz=>nomatch z) h
 |str y=>obtain⟨t,q⟩:=(show ∃ t,u=Q2u y t from f);cases q;exact eQ W.kitx_str I.kIn Q0D e (λz=>nomatch z) h
 |flt y=>obtain⟨t,q⟩:=(show ∃ t,u=Value.float y t from f);cases q;exact eQ W.kitx_float I.kIn Q0D e (λz=>nomatch z) h
 | @lst a k d =>
  cases (show u=Q0f a from f)
  obtain⟨_,_,n,_,g⟩:=(show yU X.prog X.w H s.heap a (.lst k)from I.hok a _ d)
  exact eQ W.kitx_list I.kIn ⟨_,g,rfl⟩ e (λz=>nomatch z) h
 | @frz a D k d =>
  cases (show u=Q0f a from f)
  obtain⟨_,_,_,n,_,g⟩:=(show yU X.prog X.w H s.heap a (.frz D (.lst k))from I.hok a _ d)
  exact eQ W.kitx_list I.kIn ⟨_,g,rfl⟩ e (λz=>nomatch z) h
 | @tup a k d =>
  cases (show u=Q0f a from f)
  obtain⟨_,_,_,p⟩:=(show yU X.prog X.w H s.heap a (.tup k)from I.hok a _ d)
  obtain⟨o,g,l,_⟩:=p
  exact eQ W.kitx_tuple I.kIn ⟨o,g,l⟩ e (λz=>nomatch z) h
 | @dK a j d =>
  cases (show u=Q0f a from f)
  obtain⟨_,_,L,_,p⟩:=(show yU X.prog X.w H s.heap a (.dK j)from I.hok a _ d)
  obtain⟨o,K,w,g,l,_⟩:=p
  exact eQ Cz I.kIn ⟨o,g,l.1⟩ e (λz=>nomatch z) h
 | @dT a j d =>
  cases (show u=Q0f a from f)
  obtain⟨_,_,k,_,o,K,w,g,l,_⟩:=(show yU X.prog X.w H s.heap a (.dT j)from I.hok a _ d)
  exact eQ Cz I.kIn ⟨o,g,l.1⟩ e (λz=>nomatch z) h
 | @ins a C M P d r B F m G =>
  cases (show u=Q0f a from f)
  obtain⟨N,O,_⟩:=Bk I.hok d
  obtain⟨R,J,_⟩:=O.look
  exact eQ (W.kitx_own (r.get _) r.hd B F m G) I.kIn J e (λz=>nomatch z) h
end
structure xH (k:Nat) (A:zP):Prop where
 hd:A.handled=none
 dp:A.depth+3*k+5<recursionLimit
 un:A.units+16*k+200<cLine
def xH.mono {j k:Nat}(r:xH k A)(h:j<=k):xH j A:=⟨r.hd,by have:=r.dp;omega,by have:=r.un;omega⟩
def xH.deeper {k:Nat}{A:zP}(r:xH (k+1) A)(env:Env):xH k (A.deeper env) :=
 ⟨r.hd,by have:=r.dp;show A.depth+1+3*k+5<_;omega,by have:=r.un;show A.units+3+16*k+200<_;omega⟩
def zf5 {A:zP}:(A.under (.builtin "type.__call__" ⟨.ref C::a,b⟩)).depth=A.depth+1:=by
 first|rfl|simp[Q2G,Code.weight,Code.isCreation,Code.isGuard,Code.isCaller,Code.frames,Q2I,guardIds]
def zgg {A:zP}:(A.under (.builtin "type.__call__" ⟨.ref C::a,b⟩)).units=A.units+1:=by
 first|rfl|simp[Q2G,Code.cUnits,Code.frames,Q2I]
def xH.make {k:Nat} {A:zP} (r:xH (k+1) A) (C:Addr) (b:zC) (a:List (Str × Q0e)):xH k (A.under (.builtin "type.__call__" ⟨.ref C::b,a⟩)) :=
 ⟨r.hd,by have:=r.dp;rw[zf5];omega,by have:=r.un;rw[zgg];omega⟩
def xH.depth {k:Nat}{A:zP}(r:xH k A):A.depth<recursionLimit:=by have:=r.dp;omega
def xH.units {k:Nat}{A:zP}(r:xH k A):A.units+64<cLine:=by have:=r.un;omega
def xH.units0 {k:Nat}{A:zP}(r:xH k A):A.units<cLine:=by have:=r.un;omega
def gq:TA:=λ_ H Q=>Q [] H
def Wu (a:TE)(c:TA):TA:=fun σ H Q=>a σ H λx H1=>c σ H1 λb H2=>Q (x::b) H2
section
variable {X:Cx}{e:Expr}{es:y0}{te:TE}{t:TA}{pos:Pos}
def yt:PA X [] gq:=λ_ _ _ _ H Q I h=>Calls.spliced_nil ⟨[],H,I,.nil,h⟩
def zw (b:PE X e te)(i:PA X es t)(g:Q0c (e::es) X.env=(false,eval e X.env)::Q0c es X.env:=by rfl):PA X (e::es) (Wu te t):=by
 intro pos a s σ H Q I h
 rw[g]
 show Q0d _ _ (spliced ((false,eval e X.env)::Q0v pos (Q0c es X.env))) _ _ s
 refine IW (aG (b a s σ H _ I h) λu c hh9=>?_)
 obtain⟨x,H1,I1,f,k⟩:=hh9
 exact aG (i pos a c σ H1 _ I1 k) λn m ⟨l,H2,I2,d,j⟩=>⟨x::l,H2,I2,.cons f d,j⟩
def Js (t:TA):TE:=fun σ H Q=>t σ H λa H1=>↥a<=sizeLine/\∀ p,H1 p=none->Q (.ref p) (aA H1 p (.tup a))
def tV (t:TA):TE:=fun σ H Q=>t σ H λa H1=>↥a<=sizeLine/\∀ p,H1 p=none->Q (.ref p) (aA H1 p (.lst a))
def zrI {x1}(h:PA X es t):PE X (.Tuple es x1 pos) (Js t):=by
 intro a s σ H Q I g
 refine wpAny_Tuple_spliced (aG (h pos a s σ H _ I g) λf c ⟨i,H1,I1,r,z,q⟩=>⟨by rw[<-↥r];exact z,?_⟩)
 have d:H1 ⇑c=none:=I1.hok.fresh (t6 _)
 refine⟨.ref ⇑c,aA H1 ⇑c (.tup i),I1.laid (t':=c.toks) (λb u e=>u6 _ e) (t6 _) ?_,rfl,q _ d⟩
 exact⟨z,f,r,⟨_,j6 _ rfl,rfl,_,rfl⟩⟩
def W2 (h:PA X es t):PE X (.List es pos) (tV t):=by
 intro a s σ H Q I g
 refine wpAny_List_spliced (aG (h pos a s σ H _ I g) λf c ⟨i,H1,I1,r,z,q⟩=>⟨by rw[<-↥r];exact z,?_⟩)
 have d:H1 ⇑c=none:=I1.hok.fresh (t6 _)
 refine⟨.ref ⇑c,aA H1 ⇑c (.lst i),I1.laid (t':=c.toks) (λb u e=>u6 _ e) (t6 _) ?_,rfl,q _ d⟩
 exact⟨z,f,0,r,j6 _ rfl⟩
end
abbrev Sp:=zD->Hp->VK->XK->Prop
abbrev dq:=List Env->Hp->Q0u->XK->Q0e->Q0u->Prop
structure ie (P:zO) (w:Q0k) (K:zA) (mg:wA) (base:Heap) (A:zP) (outer:List Env) (s:zm) (H:Hp):Prop where
 frames:A.frames≈outer
 mod:Mod K mg base
 bs:∀ b o,base.get? b≈o->s.heap.get? b≈o/\H b=none
 bsz:base.objs.size<=⇑s
 funs:s.heap.FunFrames base outer
 frf:∀ b∈bM outer,H b=none
 hok:aW P w H s.heap
 bare:Q1y s.gens
def CE (outer:List Env)(P:zO)(w:Q0k)(H:Hp)(s:zm)(Q:VK)(u:Q0e)(a:zm):Prop :=
 ∃ v H',a.os=s.os/\Q1y a.gens/\Un (bM outer) [] H H' s.heap a.heap/\aW P w H' a.heap/\y6 v u/\Q v H'
def CR (CX:dq)(outer:List Env)(P:zO)(w:Q0k)(H:Hp)(s:zm)(Q:VK)(E:XK)(r:Result)(a:zm):Prop :=
 match r with
 |.ok (.ret u)=>CE outer P w H s Q u a
 |.ok _=>False
 |.error e=>CX outer H s E e a
structure wt (P:zO) (w:Q0k) (K:zA) (mg:wA) (base:Heap) (CX:dq) (k:Nat) (f:Addr) (fd:vv) (ps:zF) (sp:Sp):Prop where
 len:∀ vs H Q E,sp vs H Q E->↥vs=↥ps
 run:∀ (A:zP) (outer:List Env) (s:zm) (H:Hp) (args:Args) (us:zC) (vs:zD) (Q:VK) (E:XK),xH k A->ie P w K mg base A outer s H->Q1T s fd args (ps.zip us)->yy vs us->sp vs H Q E ->
  Q05 (Q0i P w) A (.call (.ref f) args) (CR CX outer P w H s Q E) s
def wt.mono {P:zO}{w:Q0k}{K:zA}{c:wA}{a:Heap}{CX:dq}{j k:Nat}{f:Addr}{b:vv}{ps:zF}{d:Sp}(F:wt P w K c a CX j f b ps d)(h:j<=k) :
 wt P w K c a CX k f b ps d:=⟨F.len,λA outer s H args g e Q E i=>F.run A outer s H args g e Q E (i.mono h)⟩
def wt.imp {P:zO}{w:Q0k}{K:zA}{e:wA}{a:Heap}{CX:dq}{k:Nat}{f:Addr}{d:vv}{g:zF}{i c:Sp}(F:wt P w K e a CX k f d g i)
 (h:∀ b H Q E,c b H Q E->i b H Q E):wt P w K e a CX k f d g c :=
 ⟨λb H Q E q=>F.len b H Q E (h _ _ _ _ q),λA outer s H args j b Q E p n m l o=>F.run A outer s H args j b Q E p n m l (h _ _ _ _ o)⟩
def ie.make {P:zO}{w:Q0k}{K:zA}{b:wA}{a:Heap}{A:zP}{outer:List Env}{s:zm}{H:Hp}(e:ie P w K b a A outer s H)(C:Addr)(d:zC)(c:List (Str × Q0e)) :
 ie P w K b a (A.under (.builtin "type.__call__" ⟨.ref C::d,c⟩)) outer s H:=⟨by first | exact e.frames | (simpa [Q2G,Code.envs,Q2I,pushEnvs]using e.frames),e.mod,e.bs,e.bsz,e.funs,e.frf,e.hok,e.bare⟩
section
variable {X:Cx}{pins:xz}{σ:St}{H:Hp}{s s':zm}
def aj.env0 (I:aj X pins σ H s):ie X.prog X.w X.K X.mg X.base X.A X.stack s H :=
 ⟨I.ok.frames,I.ok.mod,I.bs,k8 I.ok.bsz I.sz,I.stack,I.stkFree,I.hok,I.bare⟩
def aj.after (I:aj X pins σ H s)(h:CE X.stack X.prog X.w H s Q u s'):EP X pins σ Q u s':=by
 obtain⟨v,H',os,a,f,e,r,q⟩:=h
 obtain⟨i,g,d,t,c⟩:=s'
 obtain rfl:c=s.os:=os
 exact⟨v,H',I.call (h':=i) (g':=g) (d':=d) (t':=t) (ch:=[]) f e a (λb z=>absurd z (by simp)),r,q⟩
end
def Et (b:Sp)(a:zD)(E:XK)(t:TA):TE:=fun σ H Q=>t σ H λc H1=>b (c++a) H1 Q E
def Ku (C:Addr)(m:Str)(f:Sp)(b:zD)(E:XK)(d:TE)(t:TA):TE:=fun σ H Q=>d σ H λx H1=>∃ a g c,x=.ref a/\H1 a≈(.ins C g c)/\c.lookup m=none /\
 t σ H1 λe H2=>f (x::(e++b)) H2 Q E
def Up (C:Addr)(d:Sp)(b:zD)(E:XK)(t:TA):TE:=fun σ H Q=>t σ H λc H1=>∀ x a,H1 x=none->H1 a=none->a≠x ->
 d (.ref x::(c++b)) (aA (aA H1 a (.own x)) x (.ins C a [])) (λv H2=>v=.non/\Q (.ref x) H2) E
def vf (K:zA)(d:vv)(c:zF)(b:zC):Prop :=
 ∀ (s:zm) (a:zC),K.In s.heap->(a++b).length=↥c->Q1T s d ⟨a,[]⟩ (c.zip (a++b))
def vf.all {K:zA}{d:vv}{b:zF}(h:∀ a:zC,↥a=↥b->bindArgs d ⟨a,[]⟩=pure (b.zip a)):vf K d b []:=λs a _ c=>by
 rw[p7]at c ⊢
 exact .of_eq (h a c)
def vr (CX:dq)(X:Cx)(E:XK):Prop:=∀ (a:xz) (σ:St) (H:Hp) (s:zm) (e:Q0e) (b:zm),aj X a σ H s->CX X.stack H s E e b->X.xe e b
section
variable {X:Cx}{CX:dq}{k:Nat}{f C:Addr}{fd:vv}{ps:zF}{sp:Sp}{dvs:zD}{ds:zC}{E:XK}{x m:Str}{p pos apos:Pos}{e o:Expr}{es:y0}{ta:TE}{t:TA}
def Nm (F:wt X.prog X.w X.K X.mg X.base CX k f fd ps sp)(j:xH k X.A)(l:vf X.K fd ps ds)(d:yy dvs ds)(i:vr CX X E)(I:aj X a σ H s)(r:yy vs us)(h:sp (vs++dvs) H Q E):Q0d (Q0i X.prog X.w) X.A (call (.ref f) us) (EP X a σ Q) X.xe s:=by
 have c:yy (vs++dvs) (us++ds):=r.append d
 have g:(us++ds).length=↥ps:=by rw[<-↥c];exact F.len _ _ _ _ h
 refine mK (mQ (F.run X.A X.stack s H ⟨us,[]⟩ (us++ds) (vs++dvs) Q E j I.env0 (l s us I.kIn g) c h) λr m b=>?_)
 cases r with
 |error e=>exact i a σ H s e m I b
 |ok n =>
  cases n with
  |ret u=>exact I.after b
  |next=>exact Q0o b
  |brk=>exact Q0o b
  |cont=>exact Q0o b
def Ny (F:wt X.prog X.w X.K X.mg X.base CX k f fd ps sp)(m:xH k X.A)(u:Gl X x)(n:X.mg x≈(.ref f))(g:Q0H X.K (.ref f)=true)(o:vf X.K fd ps ds)(j:yy dvs ds)(l:vr CX X E)
 (d:PA X (e::es) t) (c:(x == ("__debug__":Str))=false:=by decide) (i:Q0c (e::es) X.env=(false,eval e X.env)::Q0c es X.env:=by rfl) (b:(Q0v pos (Q0c es X.env)).any (·.1)=false:=by rfl) :
 PE X (.Call (.Name x p) (e::es) [] pos) (Et sp dvs E t):=by
 intro a s σ H Q I h
 refine kJ (YH I u n ?_ c)
 refine Cj (h₀:=X.base) I.ok.mod.kin g (aG (d pos a s σ H _ I h) λy v ⟨w,H1,I1,r,q⟩=>⟨I1.kIn,?_⟩) i b
 exact Nm F m o j l I1 r q
theorem G6 {pl:Sem Bool}(B:PE X o ta)(c:fc X.K C)(n:je X.K C m f)(F:wt X.prog X.w X.K X.mg X.base CX k f fd ps sp)(K:xH k X.A)(y:vf X.K fd ps ds)(D:yy dvs ds)(G:vr CX X E)(z:PA X (e::es) t)
 (g:Q0c (e::es) X.env=(false,eval e X.env)::Q0c es X.env:=by rfl) (d:(Q0v pos (Q0c es X.env)).any (·.1)=false:=by rfl)
 (v:eval (.Call (.Attribute o m apos) (e::es) [] pos) X.env=(do
  let ov<-eval o X.env
  Q2l apos.atName
  let (f,first)<-Q1d [ov] (Q12 ov m pl)
  callWith pos f first (Q0v pos (Q0c (e::es) X.env)) (Q1N pos (Q06 [] X.env))):=by rfl) :
 PE X (.Call (.Attribute o m apos) (e::es) [] pos) (Ku C m sp dvs E ta t):=by
 intro b s σ H Q I h
 refine W.methodCall_KW (pl:=pl) (aG (B b s σ H _ I h) λu A hh9=>?_) v
 obtain⟨x,H1,I1,J,a,L,N,ex,p,l,q⟩:=hh9
 subst ex
 obtain rfl:u=Q0f a:=J
 refine zgm I1 p c n l ?_
 refine Cj (first:=[.ref a]) (h₀:=X.base) I.ok.mod.kin n.kp (aG (z pos b A σ H1 _ I1 q) λj M ⟨i,H2,I2,r,w⟩=>⟨I2.kIn,?_⟩) g d
 exact Nm (us:=.ref a::j) (vs:=.ref a::i) F K y D G I2 (.cons rfl r) w
structure Mk (K:zA) (C f:Addr):Prop where
 makes:W.makesIn K C=true
 init:Q0E K (.ref C) "__init__"≈(some (.ref f))
 fn:W.isFn K (.ref f)=true
 kp:Q0H K (.ref C)=true
def zjQ {H:Hp}{Q:VK}(M:Mk X.K C f)(F:wt X.prog X.w X.K X.mg X.base CX k f fd ps sp)(o:xH (k+1) X.A)(t:vf X.K fd ps ds)(j:yy dvs ds)(n:vr CX X E)(I:aj X b σ H s)(r:yy d us)(h:∀ x c,H x=none->H c=none->c≠x->sp (.ref x::(d++dvs)) (aA (aA H c (.own x)) x (.ins C c [])) (λv H2=>v=.non/\Q (.ref x) H2) E) :
 Q0d (Q0i X.prog X.w) X.A (call (.ref C) us) (EP X b σ Q) X.xe s:=by
 have i:=h (⇑s+1) ⇑s (I.hok.fresh (eX _)) (I.hok.fresh (t6 _)) (r4 (mY _))
 have I2:=aj.made (C:=C) I
 have g:yy (V.ref (⇑s+1)::(d++dvs)) (Q0f (⇑s+1)::(us++ds)):=.cons rfl (r.append j)
 have m:(Q0f (⇑s+1)::us++ds).length=↥ps:=by
  have e:=↥g
  rw[F.len _ _ _ _ i]at e
  exact e.symm
 refine mK (zjN (f:=f) I.kIn M.makes M.init (fJ.mp M.fn) (mQ (F.run _ X.stack _ _ ⟨Q0f (⇑s+1)::us,[]⟩ (Q0f (⇑s+1)::(us++ds)) _ _ E (o.make C us [])
  (I2.env0.make C us []) (t _ (Q0f (⇑s+1)::us) I2.kIn m) g i) λr w a=>?_))
 cases r with
 |error e=>exact n b σ _ _ e w I2 a
 |ok y =>
  cases y with
  |ret u =>
   obtain⟨v,H',I3,l,p,q⟩:=I2.after a
   subst p
   exact⟨l,⟨V.ref (⇑s+1),H',I3,rfl,q⟩⟩
  |next=>exact Q0o a
  |brk=>exact Q0o a
  |cont=>exact Q0o a
def zkZ (M:Mk X.K C f)(F:wt X.prog X.w X.K X.mg X.base CX k f fd ps sp)(c:xH (k+1) X.A)(i:Gl X x)(d:X.mg x≈(.ref C))(g:vf X.K fd ps ds)(e:yy dvs ds)(j:vr CX X E)
 (a:(x == ("__debug__":Str))=false:=by decide):PE X (.Call (.Name x p) [] [] pos) (Up C sp dvs E gq):=by
 intro b s σ H Q I h
 refine kJ (YH I i d ?_ a)
 exact W.callWith_K0 I.kIn M.kp (zjQ (us:=[]) M F c g e j I .nil h)
end
structure yZ (N P:zF) (sc:Scope):Prop where
 kind:sc.kind=.function
 co:sc.isCoroutine=false
 gen:sc.isGenerator=false
 nd:N.Nodup
 pre:N.take ↥P=P
 par:∀ x∈P,sc.names.lookup x≈.local\/sc.names.lookup x≈.cell
 nofree:∀ y∈sc.names,y.2≠.free
def Q5:∀ {a:List (Str × Q0e)} {m:wA},(∀ v,(x,v)∉a)->bindL b a m x=m x
 |[],_,_=>rfl
 | (n,v)::r,m,h=>by
  unfold bindL
  rw[Q5 λw hw=>h w (r6 _ hw)]
  split
  .have:x≠n:=by rintro rfl;exact h v o5
   simp[this]
  .rfl
def Rt:∀ {a:List (Str × Q0e)} {m:wA},(∀ v,(x,v)∉a)->bindC b a m x=m x
 |[],_,_=>rfl
 | (n,v)::r,m,h=>by
  unfold bindC
  rw[Rt λw hw=>h w (r6 _ hw)]
  split
  .rfl
  .have:x≠n:=by rintro rfl;exact h v o5
   simp[this]
def Ry {a:Str->Option NameKind}:∀ {P:zF} {b:zC} {i:Nat} {m:wA},P.Nodup->P[i]?≈x->b[i]?≈v->a x≈.local ->
 bindL a (P.zip b) m x≈v
 |[],_,_,_,_,h,_,_=>by simp at h
 |_::_,[],_,_,_,_,h,_=>by simp at h
 |p::P,w::b,0,m,nd,h1,h2,hk=>by
  simp at h1 h2;subst h1;subst h2
  show bindL a ((p,w)::P.zip b) m p=_
  unfold bindL
  rw[Q5 λv c=>(iQ.mp nd).1 (qW c).1,t5 hk]
  simp
 |p::P,w::b,i+1,m,nd,h1,h2,hk=>by
  show bindL a ((p,w)::P.zip b) m x=_
  unfold bindL
  exact Ry (i:=i) (iQ.mp nd).2 (by simpa using h1) (by simpa using h2) hk
def Q7 {a:Str->Option NameKind}:∀ {P:zF} {b:zC} {i:Nat} {m:wA},P.Nodup->P[i]?≈x->b[i]?≈v->a x≠some .local ->
 bindC a (P.zip b) m x≈v
 |[],_,_,_,_,h,_,_=>by simp at h
 |_::_,[],_,_,_,_,h,_=>by simp at h
 |p::P,w::b,0,m,nd,h1,h2,hk=>by
  simp at h1 h2;subst h1;subst h2
  show bindC a ((p,w)::P.zip b) m p=_
  unfold bindC
  rw[Rt λv c=>(iQ.mp nd).1 (qW c).1,j5 hk]
  simp
 |p::P,w::b,i+1,m,nd,h1,h2,hk=>by
  show bindC a ((p,w)::P.zip b) m x=_
  unfold bindC
  exact Q7 (i:=i) (iQ.mp nd).2 (by simpa using h1) (by simpa using h2) hk
def start (N:zF)(a:zD):St:=a.map some++Q0a (↥N-↥a) none
def ZR (CX:dq)(P:zO)(w:Q0k)(K:zA)(mg:wA)(base:Heap)(N:zF)(qual:Str)(scope:Scope)(f:Addr)(cd:Q0e)(A:zP)(outer:List Env)(s:zm)(H:Hp)(E:XK):Cx where
 prog:=P
 w:=w
 K:=K
 mg:=mg
 base:=base
 A:=A.deeper (Q19 qual scope ⇑s f cd)
 N:=N
 s₀:=s
 H₀:=H
 env:=Q19 qual scope ⇑s f cd
 outer:=outer
 stack:=Q19 qual scope ⇑s f cd::outer
 ex:=[]
 calm:=true
 fn:=λ_=>true
 pn:=[]
 xe:=λe s'=>Q0d (Q0i P w) (A.deeper (Q19 qual scope ⇑s f cd)) (leaving (Q19 qual scope ⇑s f cd) e) (λ_ s''=>CX outer H s E e s'') (λe' s''=>CX outer H s E e' s'') s'
def Qe {sc:Scope}(h:sc.names.lookup x≈.cell):∃ c,(Q0P n sc.names []).lookup x≈c:=by
 have q:=Ci sc.names n [] (.inl h)
 exact R6.mp q
def Vz {CX:dq}{P:zO}{w:Q0k}{K:zA}{L:wA}{l:Heap}{N C:zF}{g:Str}{d:Scope}{f:Addr}{J:Q0e}{A:zP}{outer:List Env}{s Q:zm}{H:Hp}{E:XK}{M:zC}{t:zD}
 (S:yZ N C d) (X:A.handled=none) (m:ie P w K L l A outer s H) (Z:↥t=↥C) (r:yy t M)
 (x:InCallC s ⇑s (bindL (Q19 g d ⇑s f J).kindOf (C.zip M) λ_=>none) (Q0P (⇑s+1) d.names []) (bindC (Q19 g d ⇑s f J).kindOf (C.zip M) λ_=>none) Q) :
 aj (ZR CX P w K L l N g d f J A outer s H E) [] (start N t) H Q:=by
 have U:↥C<=↥N:=by have:=bJ List.length S.pre;rw[fW]at this;omega
 obtain⟨G,Y,rfl,O⟩:=x.done
 have o:∀ b:Addr,b∉(ZR CX P w K L l N g d f J A outer s H E).ex:=λb z=>absurd (show b∈([]:xt)from z) (by simp)
 refine⟨⟨m.mod,S.kind,rfl,rfl,t6 _,λy z c G j=>?_,λy B=>?_,λy c _ h=>?_,λ_=>X,Around.frames_deeper m.frames,.inr ⟨rfl,rfl⟩,λb z=>absurd z (o b),m.bs,m.bsz,λb _ _=>o b,λb z=>absurd z (o b),m.funs,m.frf⟩,
  rfl,m.bare,Un.kept O,⟨_,x.toInCall.ns,λi y v G j h3=>?_⟩,λy c h=>⟨_,x.cell y c h⟩,m.hok.fresh (t6 _),λy c h=>?_,λp D=>absurd (show p∈([]:xz)from D) (by simp),m.hok.kept O,?_⟩
 .exact name_of_addr x.apart (i0 G) (i0 j)
 .have B:d.names.lookup y≈.cell\/d.names.lookup y≈.free:=B
  rcases B with B|B
  .exact Qe B
  .exact absurd rfl (S.nofree _ (i0 B))
 .exact i7 (x.above y c (i0 h))
 .have I:i<↥t:=by
   unfold start at j
   by_cases I:i<↥t
   .exact I
   .rw[p6 (by simpa using I)]at j
    rw[p8]at j
    split at j <;> cases j
  have W:t[i]?≈v:=by
   unfold start at j
   rw[l0 (by simpa using I),q4]at j
   cases e:t[i]? with
   |none=>rw[e]at j;cases j
   |some a=>rw[e]at j;cases j;rfl
  obtain⟨u,R,T⟩:=r.get W
  have D:C[i]?≈y:=by
   rw[<-S.pre,List.getElem?_take_of_lt ∅];exact G
  have F:C.Nodup:=by rw[<-S.pre];exact S.nd.sublist (CG _ _)
  refine⟨u,T,?_⟩
  rcases S.par y (k6 D)with k|k
  .exact .inl ⟨k,Ry F D R k⟩
  .obtain⟨c,e⟩:=Qe (n:=⇑s+1) k
   refine .inr ⟨.inl k,c,e,?_⟩
   have q:=x.cell y c e
   rw[Q7 F D R (by show d.names.lookup y≠_;rw[k];decide)]at q
   exact q
 .exact m.hok.fresh (i7 (x.above y c (i0 h)))
 .unfold start
  show _=↥N
  rw[j9,u5,jt]
  omega
def K4 {w:Q0k}{K:zA}{g:Heap}{k:Nat}{f:Addr}{kV:Q0e}{N M:zF}{W:Sp}(lk:K.lookup f≈⟨oc,od,.func (Q1Z l c h i a dV kV C Z an d ct),R⟩)(O:PySem.W.codeIn K d c=true)(S:yZ N M a)(B:∀ j H Q E,W j H Q E->↥j=↥M) (m:∀ (A:zP) (outer:List Env) (s:zm) (H:Hp) (j:zD) (Q:VK) (E:XK),xH k (A.deeper (Q19 c a ⇑s f d))->W j H Q E ->
 ∃ t,bH (ZR CX P w K L g N c a f d A outer s H E) i t/\t { nx:=λ_ H'=>Q .non H',rt:=Q } (start N j) H) :
 wt P w K L g CX (k+1) f (Q1Z l c h i a dV kV C Z an d ct) M W:=by
 refine⟨B,λA outer s H args us j Q E U F hb r D=>?_⟩
 have hl:=B _ _ _ _ D
 have KX:K.In s.heap:=F.mod.kin.keeps λb o e=>(F.bs b o e).1
 have aU:s.heap.NoLimit:=F.mod.nolimit.keeps λb o e=>(F.bs b o e).1
 have p:∀ y∈M.zip us,a.names.lookup y.1≈.local\/(a.names.lookup y.1≈.cell/\((Q0P (⇑s+1) a.names []).lookup y.1).isSome=true):=λ⟨n,v⟩ hy=>by
  rcases S.par n (qW hy).1 with q|q
  .exact .inl q
  .exact .inr ⟨q,Ci _ _ _ (.inl q)⟩
 refine Il U.depth (KX _ _ lk) rfl S.co S.gen rfl (Iv KX O) (hb _ _ _ _ ?_)
 refine Q1w S.kind p λenv he Y x=>?_
 subst he
 refine⟨aU.keeps x.toInCall.keep,codeAny_func ?_⟩
 obtain⟨t,ht,hq⟩:=m A outer s H j Q E (U.deeper _) D
 have I:aj (ZR CX P w K L g N c a f d A outer s H E) [] (start N j) H Y:=Vz S U.hd F hl r x
 refine cG (ht [] Y (start N j) H _ I hq) (λfl X z=>?_) λe X z=>z
 have fin:∀ {G:St} {H':Hp} {v:V} {u:Q0e},aj (ZR CX P w K L g N c a f d A outer s H E) [] G H' X->y6 v u->Q v H'->CE outer P w H s Q u X :=
  λ{G H' v u} J T q=>⟨v,H',J.os,J.bare,J.base,J.hok,T,q⟩
 cases fl with
 |ret u =>
  obtain⟨v,G,H',J,T,q⟩:=z
  exact fin J T q
 |next =>
  obtain⟨G,H',J,q⟩:=z
  exact fin (v:=V.non) (u:=Q0z) J rfl q
 |brk =>
  obtain⟨_,_,_,q⟩:=z
  exact Q0o q
 |cont =>
  obtain⟨_,_,_,q⟩:=z
  exact Q0o q
section
variable {X:Cx}{x:Str}{p pos:Pos}{e:Expr}{es:y0}{t:TA}{id T:String}{r:jT}
def rJ (r:jT)(t:TA):TE:=fun σ H Q=>t σ H λa H1=>r a H1 Q
def yn (l:vq X (.builtin id) r) (u:Gl X x) (n:X.mg x=none) (q:Q0j x≈(.builtin id)) (d:PA X (e::es) t) (j:x≠"__name__":=by decide) (c:(x == ("__debug__":Str))=false:=by decide)
 (i:Q0c (e::es) X.env=(false,eval e X.env)::Q0c es X.env:=by rfl) (b:(Q0v pos (Q0c es X.env)).any (·.1)=false:=by rfl):PE X (.Call (.Name x p) (e::es) [] pos) (rJ r t):=by
 intro a s σ H Q I h
 refine kJ (Wn I u n q ?_ j c)
 exact PyProof.Rows.callWith_builtin1 (aG (d pos a s σ H _ I h) λm f ⟨k,H1,I1,g,o⟩=>l a f σ H1 k m Q I1 g o) i b
def W4 (l:vq X (.type T) r) (u:Gl X x) (n:X.mg x=none) (q:Q0j x≈(.type T)) (d:PA X (e::es) t) (j:x≠"__name__":=by decide) (c:(x == ("__debug__":Str))=false:=by decide)
 (i:Q0c (e::es) X.env=(false,eval e X.env)::Q0c es X.env:=by rfl) (b:(Q0v pos (Q0c es X.env)).any (·.1)=false:=by rfl):PE X (.Call (.Name x p) (e::es) [] pos) (rJ r t):=by
 intro a s σ H Q I h
 refine kJ (Wn I u n q ?_ j c)
 exact rA (aG (d pos a s σ H _ I h) λm f ⟨k,H1,I1,g,o⟩=>l a f σ H1 k m Q I1 g o) i b
end
end L2
namespace HT
open PySem PyProof.Rows
def lexLt:zr->zr->Bool
 |[],[]=>false
 |[],_::_=>true
 |_::_,[]=>false
 |x::xs,y::ys=>if x=y then lexLt xs ys else decide (x<y)
def lexLt_cons (x y:Int)(a b:zr):lexLt (x::a) (y::b)=if x=y then lexLt a b else decide (x<y):=rfl
def zld (A:zP)(s:zm)(a:Int)(t:Tok)(c:Int)(u:Tok):∃ e,Q1b A s (.int a t) (.int c u) e/\(e=true↔a=c) :=
 ⟨(a == c),Iu a t c u,by simp⟩
section
variable {prog:zO}{w:Q0k}{A:zP}{E:yM}{s:zm}
def cat_tup {t:Addr} {d a:zC} {Q:yM} (x:IsTup s.heap t d.toArray) (B:IsTup s.heap b a.toArray) (u:d≠[]) (z:a=[]->Q (.ref t) s) (y:a≠[]->Q (.ref ⇑s) { s with heap:=s.heap.push { cls:=.type "tuple",data:=.seq (d++a).toArray } }) (l:↥d+↥a<=sizeLine):Q0d (Q0i prog w) A (Q0O .Add (.ref t) (.ref b)) Q E s:=by
 obtain⟨⟨cls,o,data,v⟩,j,q,n,p⟩:=id x
 obtain⟨⟨m,h,k,g⟩,c,f,r,i⟩:=id B
 simp only at q p f i
 subst q p f i
 have e:d.toArray++a.toArray=(d++a).toArray:=by simp
 by_cases hw:a=[]
 .exact concat_meets ⟨_,j,rfl⟩ ⟨_,c,rfl⟩ Q1O seq_tuple_add Jp Jj (Jl _ _)
   (tuple_addW1 t b d.toArray a.toArray n r o h v g (by simpa using u) (by simp[hw])) ⟨j,c,z hw⟩
 .refine concat_meets ⟨_,j,rfl⟩ ⟨_,c,rfl⟩ Q1O seq_tuple_add Jp Jj (Jl _ _)
   (tuple_addW2 t b d.toArray a.toArray n r o h v g (by simpa using u) (by simpa using hw) (by rw[j0,j0];exact l)) ⟨j,c,?_⟩
  rw[e]
  exact y hw
def sIx (n d:Nat):yl->Nat
 |none=>d
 |some v=>if v<0 then (v+(n:Int)).toNat else min v.toNat n
def sIx_none (n d:Nat):sIx n d none=d:=rfl
def sIx_nat (n d k:Nat):sIx n d (some (k:Int))=min k n:=by
 show(if (k:Int)<0 then ((k:Int)+(n:Int)).toNat else min (k:Int).toNat n)=min k n
 rw[j5 ∅,jy]
def zql (n d:Nat)(b:d<=n)(o:yl):sIx n d o<=n:=by
 cases o with
 |none=>exact b
 |some v =>
  show(if v<0 then (v+(n:Int)).toNat else min v.toNat n)<=n
  by_cases a:v<0
  .rw[t5 a];omega
  .rw[j5 a];exact HW _ _
def Ol (v:Int)(n d:Nat):(if v<0 then max (v+(n:Int)) 0 else min v (n:Int))=((sIx n d (some v):Nat):Int):=by
 show(if v<0 then max (v+(n:Int)) 0 else min v (n:Int))=(((if v<0 then (v+(n:Int)).toNat else min v.toNat n):Nat):Int)
 by_cases a:v<0
 .simp only[t5 a];omega
 .simp only[j5 a];omega
def zgi (b a:yl)(n:Nat):Q01 b a 1 (n:Int)=(((sIx n 0 b:Nat):Int),((sIx n n a:Nat):Int)):=by
 have c:¬ ((1:Int)<0):=by omega
 unfold Q01
 simp only[c,gC]
 refine gD ?_ ?_
 .cases b with
  |none=>rfl
  |some v=>exact Ol v n 0
 .cases a with
  |none=>rfl
  |some v=>exact Ol v n n
def zgw (i j:Nat):Q0G (i:Int) (j:Int) 1=j-i:=by
 unfold Q0G
 have a:(1:Int)>0:=by omega
 simp only[a,dD,Int.ediv_one]
 split <;> omega
def RP {Q:yl->Q0u->Prop}(p:Q2p v o)(h:Q o s):Q0d (Q0i prog w) A (Builtin.Slice.slicePartIndex v) Q E s:=by
 cases p with
 |none=>exact slicePart_none h
 |int i t=>exact slicePart_int h
def Yx {g:Addr}{f:Q0e}{Q:Int × Int × Nat->Q0u->Prop}(k:s.heap.IsSliceOf g f e .none)(pl:Q2p f a)(i:Q2p e b)(h:Q (((sIx n 0 a:Nat):Int),1,sIx n n b-sIx n 0 a) s):Q0d (Q0i prog w) A (Q1q (.ref g) (pure (n:Int))) Q E s:=by
 obtain⟨os,c,j,d⟩:=id k
 unfold Q1q Builtin.Slice.sliceFields
 refine u3 (u3 (dj c d (x:=f) rfl (u3 (dj c d (x:=e) rfl (u3 (dj c d (x:=.none) rfl (t4 ?_)))))))
 refine u3 (slicePart_none ?_)
 show Q0d _ _ (if ((1:Int) == 0) then _ else _) _ _ s
 rw[j5 ⋯]
 refine u3 (RP pl (u3 (RP i (u3 (t4 ?_)))))
 show Q0d _ _ (match Q01 a b 1 (n:Int)with | (a,b)=>pure (a,(1:Int),Q0G a b 1)) _ _ s
 rw[zgi a b n]
 show Q0d _ _ (pure (((sIx n 0 a:Nat):Int),(1:Int),Q0G ((sIx n 0 a:Nat):Int) ((sIx n n b:Nat):Int) 1)) _ _ s
 rw[zgw]
 exact t4 h
def zli (a:wc)(i k:Nat):((Q0g k).filterMap λ(m:Nat)=>a[((i:Int)+(m:Int)*1).toNat]?).toArray=((a.toList.drop i).take k).toArray:=by
 have e:(λ(m:Nat)=>a[((i:Int)+(m:Int)*1).toNat]?)=λm=>a[i+m]?:=by
  funext m
  have:((i:Int)+(m:Int)*1).toNat=i+m:=by omega
  rw[this]
 rw[e]
 have:=pick_run a i k
 rw[List.filterMap_map]at this
 have b:((λx=>a[x]?)∘λx=>i+x)=λm=>a[i+m]?:=rfl
 rw[b]at this
 rw[this]
def getItem_tuple_cut {t:Addr} {a:wc} {Q:yM} (e:IsTup s.heap t a) (l:s.heap.IsSliceOf j o n .none) (pl:Q2p o c) (p:Q2p n d) (hw:¬ (sIx a.size 0 c=0/\sIx a.size a.size d=a.size)) (h:Q (.ref ⇑s) { s with heap:=s.heap.push { cls:=.type "tuple",data:=.seq ((a.toList.drop (sIx a.size 0 c)).take (sIx a.size a.size d-sIx a.size 0 c)).toArray } }) (r:a.size<=sizeLine):Q0d (Q0i prog w) A (Q2F (.ref t) (.ref j)) Q E s:=by
 have b:sizeOk (.seq ((a.toList.drop (sIx a.size 0 c)).take (sIx a.size a.size d-sIx a.size 0 c)).toArray):=by
  show((a.toList.drop (sIx a.size 0 c)).take (sIx a.size a.size d-sIx a.size 0 c)).toArray.size<=sizeLine
  rw[j0,fW,qH,i8]
  omega
 have v:sIx a.size a.size d<=a.size:=zql _ _ (t6 _) d
 obtain⟨os,i,f,u⟩:=id l
 have g:s.TypeIs (.ref j) "slice":=⟨os,i,f⟩
 unfold Q2F
 try with_reducible refine h9 ?_
 first|refine u3 (t4 ?_)|skip
 refine u3 (wpAny_sequenceKey e.typeIs ⋯ ?_)
 refine u3 (p9 (name:=Q0b "__getitem__") e.typeIs i5
  (fG i5 e.typeIs entry_tuple_getitem ?_ (args_tuple_getitem _ _)))
 show Q0d _ _ (Q1s (.ref t)>>=_) _ _ s
 refine u3 (tupleItemsOf_ e ?_)
 refine u3 (qD g ?_)
 rw[t5 ⋯]
 refine u3 (Yx l pl p ?_)
 have k:¬ ((((sIx a.size 0 c:Nat):Int) == 0&&(1:Int) == 1&&(sIx a.size a.size d-sIx a.size 0 c) == a.size)=true):=by
  intro q
  rw[k9,k9]at q
  have y:((sIx a.size 0 c:Nat):Int)=0:=eq_of_beq q.1.1
  have x:sIx a.size a.size d-sIx a.size 0 c=a.size:=eq_of_beq q.2
  exact hw ⟨by omega,by omega⟩
 show Q0d _ _ (if (((sIx a.size 0 c:Nat):Int) == 0&&(1:Int) == 1&&(sIx a.size a.size d-sIx a.size 0 c) == a.size) then _ else _) _ _ s
 rw[j5 k,zli]
 first
  |exact u3 (m:=Q0J _) (l9 (t4 ⟨_,rfl,t4 h⟩) b)
  |exact u3 (m:=Q0J _) (l9 (u3 (t4 (t4 ⟨_,rfl,t4 h⟩))) b)
  |exact u3 (u3 (m:=Q0J _) (l9 (t4 (t4 ⟨_,rfl,t4 h⟩)) b))
  |exact u3 (u3 (m:=Q0J _) (l9 (t4 ⟨_,rfl,t4 h⟩) b))
end
end HT
namespace L2
open PySem PySem.Spec PyProof.Rows
abbrev TO:=St->Hp->(yl->Hp->Prop)->Prop
def PO (X:Cx)(e:Option Expr)(t:TO):Prop :=
 ∀ (a:xz) (s:zm) (σ:St) (H:Hp) (Q:yl->Hp->Prop),aj X a σ H s->t σ H Q ->
  Q0d (Q0i X.prog X.w) X.A (evalPart e X.env) (λu b=>∃ o H',aj X a σ H' b/\Q2p u o/\Q o H') X.xe s
def zoL:TO:=λ_ H Q=>Q none H
def Tn (t:TE):TO:=fun σ H Q=>t σ H λx H1=>∃ i,x=.int i/\Q (some i) H1
def vY {ns:zr}:∀ {a:zC},yy (ns.map V.int) a->Q0R a ns:=by
 induction ns with
 |nil=>intro a r;rw[Q2K]at r;cases r;exact .nil
 |cons n ns d =>
  intro a r
  rw[n0]at r
  cases r with
  |cons b c =>
   obtain⟨t,e⟩:=b
   subst e
   exact .cons n t (d c)
section
variable {X:Cx}{e:Expr}{te:TE}{lo hi:Option Expr}{tl th:TO}{pos p2:Pos}
def zoS:PO X none zoL:=by
 intro a s σ H Q I h
 rw[evalPart_none]
 exact t4 ⟨none,H,I,.none,h⟩
def zm4 (h:PE X e te):PO X (some e) (Tn te):=by
 intro a s σ H Q I hw
 rw[evalPart_some]
 refine aG (h a s σ H _ I hw) λu d hh9=>?_
 obtain⟨x,H1,I1,b,c⟩:=hh9
 obtain⟨i,rfl,q⟩:=c
 obtain⟨t,rfl⟩:=b
 exact⟨some i,H1,I1,.int i t,q⟩
def jE (X:Cx)(r:V->yl->yl->Hp->VK->Prop):Prop :=
 ∀ (a:xz) (s:zm) (σ:St) (H:Hp) (x:V) (v c b:Q0e) (lo hi:yl) (d:Addr) (Q:VK),aj X a σ H s->y6 x v->s.heap.IsSliceOf d c b .none->Q2p c lo->Q2p b hi->r x lo hi H Q ->
  ∃ T id,typeLookup (.type T) "__getitem__"=pure (some (.builtin id))/\s.TypeIs v T/\Q0d (Q0i X.prog X.w) X.A (Q2F v (.ref d)) (EP X a σ Q) X.xe s
def jE.or {r f:V->yl->yl->Hp->VK->Prop}(h:jE X r)(j:jE X f):jE X (λx lo hi H Q=>r x lo hi H Q\/f x lo hi H Q):=by
 intro a s σ H x v g e lo hi i Q I d c pl b q
 rcases q with q|q
 .exact h a s σ H x v g e lo hi i Q I d c pl b q
 .exact j a s σ H x v g e lo hi i Q I d c pl b q
def tSl (r:V->yl->yl->Hp->VK->Prop)(te:TE)(tl th:TO):TE:=fun σ H Q=>te σ H λx H1=>tl σ H1 λl H2=>th σ H2 λu H3=>r x l u H3 Q
def zjL (w:jE X r)(p:PE X e te)(j:PO X lo tl)(y:PO X hi th):PE X (.Subscript e (.Slice lo hi none p2) pos) (tSl r te tl th):=by
 intro a s σ H Q I h
 refine Subscript_ (aG (p a s σ H _ I h) λv n hh9=>?_)
 obtain⟨x,H1,I1,o,A⟩:=hh9
 refine wpAny_Slice (aG (j a n σ H1 _ I1 A) λf t ⟨l,H2,I2,pl,k⟩=>aG (y a t σ H2 _ I2 k) λd c hh9=>?_)
 obtain⟨u,H3,I3,g,z⟩:=hh9
 rw[evalPart_none]
 refine t4 ?_
 have I4:aj X a σ H3 { c with heap:=c.heap.push { cls:=.type "slice",data:=.fields #[f,d,.none] } }:=I3.kept (t':=c.toks) λb C q=>u6 _ q
 obtain⟨T,id,m,i,B⟩:=w a { c with heap:=c.heap.push { cls:=.type "slice",data:=.fields #[f,d,.none] } } σ H3 x v f d l u ⇑c Q I4 o (Heap.IsSliceOf.new ..) pl g z
 show Q0d (Q0i X.prog X.w) X.A (subscriptTail e (.Slice lo hi none p2) v (.ref ⇑c)) (EP X a σ Q) X.xe { c with heap:=c.heap.push { cls:=.type "slice",data:=.fields #[f,d,.none] } }
 exact tail_any (ops:=[.ref ⇑c,v]) i m B (by with_unfolding_all rfl)
def du (a:zD)(lo hi:yl):zD:=(a.drop (HT.sIx ↥a 0 lo)).take (HT.sIx ↥a ↥a hi-HT.sIx ↥a 0 lo)
def VI (a:zD)(lo hi:yl):(du a lo hi).length<=↥a:=by
 unfold du
 rw[fW,qH]
 omega
def Jy (K:zA):V->yl->yl->Hp->VK->Prop:=λx lo hi H Q=>∃ a b,x=.ref a/\aM K H a b /\
 ¬ (HT.sIx ↥b 0 lo=0/\HT.sIx ↥b ↥b hi=↥b)/\∀ p,H p=none->Q (.ref p) (aA H p (.tup (du b lo hi)))
def zrP:jE X (Jy X.K):=by
 intro g s σ H x v t p lo hi u Q I m k pl j h
 obtain⟨a,d,rfl,l,hw,q⟩:=h
 cases m
 obtain⟨e,r,f,i⟩:=I.tuple l
 have c:e.toArray.size=↥d:=by rw[j0];exact r.length.symm
 refine⟨"tuple",_,i5.lookup,f.typeIs,?_⟩
 refine HT.getItem_tuple_cut f k pl j (by rw[c];exact hw) ?_ (by rw[c];exact i)
 rw[c]
 refine⟨.ref ⇑s,_,I.laid (t':=s.toks) (o:=.tup (du d lo hi)) (λb n q=>u6 _ q) (t6 _) ?_,rfl,q _ (I.hok.fresh (t6 _))⟩
 exact⟨k8 (VI d lo hi) i,_,(r.drop (HT.sIx ↥d 0 lo)).take (HT.sIx ↥d ↥d hi-HT.sIx ↥d 0 lo),IsTup.new _ _⟩
def Tj (K:zA):R2:=λx y H Q=>∃ a b d c,x=.ref a/\y=.ref b/\aM K H a d/\aM K H b c/\d≠[]/\↥d+↥c<=sizeLine /\
 (c=[]->Q (.ref a) H)/\(c≠[]->∀ p,H p=none->Q (.ref p) (aA H p (.tup (d++c))))
def yy.nil_iff (r:yy a b):b=[]↔a=[]:=by
 cases r with
 |nil=>simp
 |cons _ _=>simp
def zok:aQ X (Q0O .Add) (Tj X.K):=by
 intro e s σ H x y v u Q I n r h
 obtain⟨a,b,B,j,rfl,rfl,k,A,m,g,t,p⟩:=h
 cases n
 cases r
 obtain⟨i,d,l,_⟩:=I.tuple k
 obtain⟨f,c,p2,_⟩:=I.tuple A
 refine HT.cat_tup l p2 (λz=>m (d.nil_iff.mp z)) (λz=>⟨.ref a,H,I,rfl,t (c.nil_iff.mp z)⟩) (λz=>?_) (by rw[<-↥d,<- ↥c];exact g)
 refine⟨.ref ⇑s,_,I.laid (t':=s.toks) (o:=.tup (B++j)) (λb C q=>u6 _ q) (t6 _) ?_,rfl,p (λw=>z (c.nil_iff.mpr w)) _ (I.hok.fresh (t6 _))⟩
 exact⟨by rw[j9];exact g,_,d.append c,IsTup.new _ _⟩
end
def ixN (n:Nat)(i:Int):Option Nat:=if 0<=i then (if i<n then some i.toNat else none)else if -(n:Int)<=i then some (i+n).toNat else none
def atI {α:Type}(a:List α)(i:Int):Option α:=(ixN ↥a i).bind λj=>a[j]?
def Pq (h:ixN n i≈j):seqIndex? i n≈j/\j<n/\-(n:Int)<=i/\i<n:=by
 unfold ixN at h
 by_cases h0:0<=i
 .rw[t5 h0]at h
  by_cases a:i<n
  .rw[t5 a]at h
   have e:i.toNat=j:=g0 h
   exact⟨by rw[seqIndex_of h0 a,e],by omega,by omega,a⟩
  .rw[j5 a]at h;cases h
 .rw[j5 h0]at h
  by_cases a:-(n:Int)<=i
  .rw[t5 a]at h
   have e:(i+n).toNat=j:=g0 h
   exact⟨by rw[seqIndex_neg ∅ a,e],by omega,a,by omega⟩
  .rw[j5 a]at h;cases h
def Gg {α:Type}{a:List α}{v:α}(h:atI a i≈v):∃ j,seqIndex? i ↥a≈j/\a[j]?≈v/\j<↥a/\-(↥a:Int)<=i/\i<↥a:=by
 unfold atI at h
 cases e:ixN ↥a i with
 |none=>rw[e]at h;cases h
 |some j =>
  rw[e]at h
  obtain⟨c,b,f,d⟩:=Pq e
  exact⟨j,c,h,b,f,d⟩
def Oe {α:Type}{a:List α}{j:Nat}{v:α}(h:a[j]?≈v):atI a (j:Int)≈v:=by
 have b:j<↥a:=(t8.mp h).1
 have e:ixN ↥a (j:Int)≈j:=by
  unfold ixN
  rw[t5 ∅,t5 ∅];simp
 unfold atI;rw[e];exact h
def Gp (b:Expr):Prop:=∀ o i,subscripted b false o i=operate [o,i] (Q2F o i)
def iW (X:Cx)(r:R2):Prop :=
 ∀ (c a:Expr) (b:xz) (s:zm) (σ:St) (H:Hp) (x y:V) (v u:Q0e) (Q:VK),aj X b σ H s->y6 x v->y6 y u->r x y H Q ->
  subscripted a false v u=operate [v,u] (Q2F v u)->Q0d (Q0i X.prog X.w) X.A (subscriptTail c a v u) (EP X b σ Q) X.xe s
def Ds (X:Cx)(id:String)(r:V->zD->Hp->VK->Prop):Prop :=
 ∀ (a:xz) (s:zm) (σ:St) (H:Hp) (x:V) (b:zD) (v:Q0e) (c:zC) (Q:VK),aj X a σ H s->y6 x v->yy b c->r x b H Q ->
  Q0d (Q0i X.prog X.w) X.A (call (.builtin id) (v::c)) (EP X a σ Q) X.xe s
section
variable {X:Cx}{a b:Expr}{ta tb:TE}{pos:Pos}
def iW.or {r g:R2}(h:iW X r)(i:iW X g):iW X (λx y H Q=>r x y H Q\/g x y H Q):=by
 intro a b c s σ H x y v u Q I e f q d
 rcases q with q|q
 .exact h a b c s σ H x y v u Q I e f q d
 .exact i a b c s σ H x y v u Q I e f q d
def Kd (i:iW X r)(d:PE X a ta)(k:PE X b tb)(e:Gp b):PE X (.Subscript a b pos) (kZ r ta tb):=by
 intro c s σ H Q I h
 exact Subscript_ (Ea d k I h λv u f x y H2 I2 g j q=>i a b c f σ H2 x y v u Q I2 g j q (e _ _))
def rW (K:zA):R2:=λx y H Q=>∃ p a i v,x=.ref p/\y=.int i/\aN K H p a/\atI a i≈v/\Q v H
def rT (K:zA):R2:=λx y H Q=>∃ p a i v,x=.ref p/\y=.int i/\aM K H p a/\atI a i≈v/\Q v H
def DP:R2:=λx y H Q=>∃ z i c,x=.str z/\y=.int i/\↥z<=sizeLine/\atI z.cps.toList i≈c/\Q (.str ⟨#[c]⟩) H
def znO:iW X (rW X.K):=by
 intro f g a s σ H x y v u Q I D A h k
 obtain⟨p,J,i,z,rfl,rfl,E,B,q⟩:=h
 cases D
 obtain⟨t,rfl⟩:=A
 obtain⟨c,r,pl,L⟩:=I.list E
 obtain⟨j,b,o,G,m,C⟩:=Gg B
 obtain⟨w,l,e⟩:=r.get o
 have n:=↥r
 have K:=X4
 have fin:EP X a σ Q w s:=⟨z,H,I,e,q⟩
 by_cases h0:0<=i
 .have d:i.toNat=j:=by
   rw[seqIndex_of h0 C]at b
   exact g0 b
  exact item_listR pl.isList h0 ∅ (by rw[d];simpa using l) fin k
 .have d:(i+(c.toArray.size:Int)).toNat=j:=by
   rw[seqIndex_neg ∅ m]at b
   rw[j0,<- n]
   exact g0 b
  exact subscriptTail_builtinR (x:=w) pl.isList.typeIs slot_list_getitem.lookup
   (wpAny_getItem_list_neg (Q:=λr F=>r=w/\EP X a σ Q r F) pl.isList ∅ (by rw[j0] <;> omega) ∅ (by rw[d];simpa using l) ⟨rfl,fin⟩) k
def zrA:iW X (rT X.K):=by
 intro c d a s σ H x y v u Q I A l h n
 obtain⟨p,F,i,z,rfl,rfl,B,m,q⟩:=h
 cases A
 obtain⟨t,rfl⟩:=l
 obtain⟨e,r,pl,K⟩:=I.tuple B
 obtain⟨j,k,g,E,D,J⟩:=Gg m
 obtain⟨w,o,b⟩:=r.get g
 have f:=↥r
 have G:=X4
 have fin:EP X a σ Q w s:=⟨z,H,I,b,q⟩
 exact subscriptTail_builtinR (x:=w) pl.typeIs slot_tuple_getitem.lookup
  (getItem_tuple (j:=j) (Q:=λr C=>r=w/\EP X a σ Q r C) pl ∅ ∅ (by rw[j0,<- f];exact k) (by simpa using o) ⟨rfl,fin⟩) n
def Ni:iW X DP:=by
 intro a b d s σ H x y v u Q I o r h m
 obtain⟨z,i,c,rfl,rfl,C,k,q⟩:=h
 obtain⟨t,rfl⟩:=o
 obtain⟨D,rfl⟩:=r
 obtain⟨j,e,p,B,g,l⟩:=Gg k
 have n:z.cps.toList.length=↥z:=by simp[Str.length]
 rw[n]at e g l
 have A:=X4
 exact tail_any (mL s z t) slot_str_getitem.lookup (getItem_str (c:=c) (by
  have w:decide (i < -(2^63:Int))=false:=r0 ∅
  have f:decide (i >= 2^63)=false:=r0 ∅
  rw[w,f,Q2n]) (by rw[e];simpa using p) ⟨.str ⟨#[c]⟩,H,I.tok _,⟨_,rfl⟩,q⟩) m
def Sx (K:zA):R2:=λx y H Q=>rW K x y H Q\/rT K x y H Q\/DP x y H Q
def UL:iW X (Sx X.K):=znO.or (zrA.or Ni)
def zfU (a:zC) (n j:Nat) (u:Q0e):Q0t (·.setIfInBounds j u) { cls:=.type "list",data:=.seq a.toArray n }={ cls:=.type "list",data:=.seq (a.set j u).toArray n }:=by
 simp[Q0t]
def aj.lst {b:xz}{σ:St}{H:Hp}{s:zm}{p:Addr}{xs:zD}(I:aj X b σ H s)(h:H p≈(.lst xs)) :
 ∃ (a:zC) (n:Nat),yy xs a/\s.heap.get? p≈{ cls:=.type "list",data:=.seq a.toArray n }/\↥xs<=sizeLine:=by
 obtain⟨z,a,n,r,e⟩:=I.hok p _ h
 exact⟨a,n,r,e,z⟩
def aj.lstUpd {H:Hp} {s:zm} {g:zD} {d a:zC} {f:Obj->Obj} (I:aj X c σ H s) (h:H p≈(.lst m)) (k:s.heap.get? p≈{ cls:=.type "list",data:=.seq d.toArray n }) (j:f { cls:=.type "list",data:=.seq d.toArray n }={ cls:=.type "list",data:=.seq a.toArray i }) (r:yy g a) (o:↥g<=sizeLine) (t:Nat) :
 aj X c σ (aA H p (.lst g)) { s with heap:=s.heap.update p f,toks:=t }:=by
 have e:(s.heap.update p f).get? p≈{ cls:=.type "list",data:=.seq a.toArray i }:=by
  rw[i6 f k (by rw[j] <;> rfl),j]
 refine I.write (x:=p) (e:=p) (by rw[h];trivial) (.inl rfl) (λb u l q=>(g6 _ _ (bh l)).trans q) ⟨_,e⟩ ?_
 exact⟨o,a,i,r,e⟩
def Ul:V->V->V->Hp->(Hp->Prop)->Prop:=λo i v H Q=>∃ p a k j,o=.ref p/\i=.int k/\H p≈(.lst a)/\ixN ↥a k≈j/\Q (aA H p (.lst (a.set j v)))
def zlr:tu X Ul:=by
 intro b s σ H o i v D F u Q I A x z h
 obtain⟨p,y,k,j,rfl,rfl,m,w,q⟩:=h
 cases A
 obtain⟨t,rfl⟩:=x
 obtain⟨a,n,r,f,B⟩:=I.lst m
 obtain⟨c,C,l,g⟩:=Pq w
 have e:=↥r
 have E:=X4
 have I':aj X b σ (aA H p (.lst (y.set j v))) { s with heap:=s.heap.update p (Q0t (·.setIfInBounds j u)) } :=
  I.lstUpd m f (zfU a n j u) (r.set z j) (by rw[qX];exact B) s.toks
 by_cases h0:0<=k
 .have d:k.toNat=j:=by
   rw[seqIndex_of h0 g]at c
   exact g0 c
  exact W.ki_setAt f h0 ∅ (by rw[j0,<- e];exact g) (by rw[d];exact⟨_,I',q⟩)
 .have d:(k+(a.toArray.size:Int)).toNat=j:=by
   rw[seqIndex_neg ∅ l]at c
   rw[j0,<- e]
   exact g0 c
  exact W.ki_setBack f ∅ (by rw[j0,<- e];exact l) ∅ (by rw[d];exact⟨_,I',q⟩)
def zbX (b a:yl)(n:Nat):(Q1e b a none n).1=((HT.sIx n 0 b:Nat):Int)/\(Q1e b a none n).2.1=((HT.sIx n n a:Nat):Int)/\(Q1e b a none n).2.2=1:=by
 refine⟨?_,?_,rfl⟩
 .cases b with
  |none=>simp[Q1e,HT.sIx]
  |some i =>
   simp only[Q1e,HT.sIx,Option.getD_none,show(1:Int)>0 by decide,dD]
   by_cases h:i<0
   .simp only[h,dD] <;> omega
   .simp only[h,gC] <;> omega
 .cases a with
  |none=>simp[Q1e,HT.sIx]
  |some i =>
   simp only[Q1e,HT.sIx,Option.getD_none,show(1:Int)>0 by decide,dD]
   by_cases h:i<0
   .simp only[h,dD] <;> omega
   .simp only[h,gC] <;> omega
def zaP (a:zC)(b c:yl):slicePick a.toArray b c none=((a.drop (HT.sIx ↥a 0 b)).take (HT.sIx ↥a ↥a c-HT.sIx ↥a 0 b)).toArray:=by
 obtain⟨f,d,e⟩:=zbX b c a.toArray.size
 unfold slicePick
 rw[f,d,e]
 simp only[sliceRange_one,pick_run,j0] <;> rfl
def JB (K:zA):V->yl->yl->Hp->VK->Prop:=λx d c H Q=>∃ a b,x=.ref a/\aN K H a b/\∀ p,H p=none->Q (.ref p) (aA H p (.lst (du b d c)))
def znD:jE X (JB X.K):=by
 intro i s σ H x v w u e f y Q I n l pl k h
 obtain⟨a,c,rfl,m,q⟩:=h
 cases n
 obtain⟨j,r,g,p⟩:=I.list m
 have d:=↥r
 refine⟨"list",_,slot_list_getitem.lookup,g.isList.typeIs,?_⟩
 refine wpAny_getItem_list_slice g.isList l pl k .none (by simp) ?_ (by rw[j0] <;> omega)
 rw[zaP,<- d]
 refine⟨.ref ⇑s,_,I.laid (t':=s.toks) (o:=.lst (du c e f)) (λb t q=>u6 _ q) (t6 _) ?_,rfl,q _ (I.hok.fresh (t6 _))⟩
 exact⟨k8 (VI c e f) p,_,0,(r.drop (HT.sIx ↥c 0 e)).take (HT.sIx ↥c ↥c f-HT.sIx ↥c 0 e),j6 _ rfl⟩
def Ey:V->Bool
 |.non=>true
 |.bl _=>true
 |.int _=>true
 |.str _=>true
 |_=>false
def SN:V->V->Bool
 |.non,.non=>true
 |.bl a,.bl b=>a == b
 |.bl a,.int b=>(if a then 1 else 0) == b
 |.int a,.bl b=>a == (if b then 1 else 0)
 |.int a,.int b=>a == b
 |.str a,.str b=>a == b
 |_,_=>false
def M7 (e:y6 y u)(c:y6 x v)(g:Ey y=true)(f:Ey x=true):Q1b A s u v (SN y x):=by
 cases y with
 |non =>
  cases e
  cases x with
  |non=>cases c;exact SeqAt.EqAt.same _
  |bl b=>cases c;exact SeqAt.EqAt.none_bool b
  |int b=>obtain⟨t,rfl⟩:=c;exact SeqAt.EqAt.none_int b t
  |str b=>obtain⟨t,rfl⟩:=c;exact SeqAt.EqAt.none_str b t
  |_=>exact absurd (show false=true from f) u7
 |bl a =>
  cases e
  cases x with
  |non=>cases c;exact SeqAt.EqAt.bool_none a
  |bl b=>cases c;exact SeqAt.EqAt.bool_bool a b
  |int b=>obtain⟨t,rfl⟩:=c;exact SeqAt.EqAt.bool_int a b t
  |str b=>obtain⟨t,rfl⟩:=c;exact SeqAt.EqAt.bool_str a b t
  |_=>exact absurd (show false=true from f) u7
 |int a =>
  obtain⟨d,rfl⟩:=e
  cases x with
  |non=>cases c;exact SeqAt.EqAt.int_none a d
  |bl b=>cases c;exact SeqAt.EqAt.int_bool a d b
  |int b=>obtain⟨t,rfl⟩:=c;exact Iu a d b t
  |str b=>obtain⟨t,rfl⟩:=c;exact Q2s a d b t
  |_=>exact absurd (show false=true from f) u7
 |str a =>
  obtain⟨d,rfl⟩:=e
  cases x with
  |non=>cases c;exact SeqAt.EqAt.str_none a d
  |bl b=>cases c;exact SeqAt.EqAt.str_bool a d b
  |int b=>obtain⟨t,rfl⟩:=c;exact Q2t a d b t
  |str b=>obtain⟨t,rfl⟩:=c;exact SeqAt.EqAt.str_str a d b t
  |_=>exact absurd (show false=true from f) u7
 |_=>exact absurd (show false=true from g) u7
def ww:vq X (.builtin "len") (λg H Q=>∃ p b,g=[.ref p]/\(aN X.K H p b\/aM X.K H p b)/\Q (.int ↥b) H):=by
 intro f s σ H g l Q I r h
 obtain⟨p,b,rfl,c,q⟩:=h
 obtain⟨u,rfl,i⟩:=Zj r
 cases i
 have k:=X4
 rcases c with c|c
 .obtain⟨d,e,pl,j⟩:=I.list c
  have a:=↥e
  exact Calls.call_len_list pl.isList (by simp only[j0] <;> omega) ⟨.int ↥b,H,I.tok _,⟨s.toks+1,by rw[j0,a]⟩,q⟩
 .obtain⟨d,e,pl,j⟩:=I.tuple c
  have a:=↥e
  exact len_tuple pl (by simp only[j0] <;> omega) ⟨.int ↥b,H,I.tok _,⟨s.toks+1,by rw[j0,a]⟩,q⟩
def Wk:vq X (.builtin "len") (λb H Q=>∃ z,b=[.str z]/\↥z<=sizeLine/\Q (.int ↥z) H):=by
 intro a s σ H b c Q I r h
 obtain⟨z,rfl,e,q⟩:=h
 obtain⟨u,rfl,t,rfl⟩:=Zj r
 have d:=X4
 exact len_str ∅ ⟨.int ↥z,H,I.tok _,⟨_,rfl⟩,q⟩
def zcw:vq X (.type "list") (λy H Q=>∃ p f,y=[.ref p]/\(aN X.K H p f\/aM X.K H p f)/\∀ l,H l=none->Q (.ref l) (aA H l (.lst f))):=by
 intro k s σ H y B Q I r h
 obtain⟨p,f,rfl,m,q⟩:=h
 obtain⟨u,rfl,A⟩:=Zj r
 cases A
 have fin:∀ (a:zC),yy f a->↥f<=sizeLine->∀ (c:Heap) (g:Nat),(∀ b z,s.heap.get? b≈z->c.get? b≈z) ->
  c.get? ⇑s≈{ cls:=.type "list",dict:=none,data:=.seq a.toArray g,slots:=#[] }->EP X k σ Q (.ref ⇑s) { s with heap:=c }:=λa d t c g i e =>
  ⟨.ref ⇑s,_,I.laid (t':=s.toks) i (t6 _) (show yU X.prog X.w _ c _ (.lst f) from⟨t,a,g,d,e⟩),rfl,q _ (I.hok.fresh (t6 _))⟩
 rcases m with m|m
 .obtain⟨a,d,pl,t⟩:=I.list m
  have j:=↥d
  obtain⟨o,v,x,n,w⟩:=pl.isList
  exact call_list_seq p (.inl rfl) v x w (λc g i e=>fin a d t c g i e) (by simp only[j0] <;> omega)
 .obtain⟨a,d,pl,t⟩:=I.tuple m
  have j:=↥d
  obtain⟨o,v,x,n,w⟩:=pl
  exact call_list_seq p (.inr rfl) v x w (λc g i e=>fin a d t c g i e) (by simp only[j0] <;> omega)
def zbr:vq X (.type "tuple") (λk H Q=>∃ p d,k=[.ref p]/\((aN X.K H p d/\∀ l,H l=none->Q (.ref l) (aA H l (.tup d)))\/(aM X.K H p d/\Q (.ref p) H))):=by
 intro a s σ H k v Q I r h
 obtain⟨p,d,rfl,h⟩:=h
 obtain⟨u,rfl,t⟩:=Zj r
 cases t
 rcases h with ⟨g,q⟩|⟨g,q⟩
 .obtain⟨c,i,pl,m⟩:=I.list g
  have j:=↥i
  refine call_tuple_list pl.isList (λf n=>?_) (by simp only[j0] <;> omega)
  have I1:aj X a σ H { s with heap:=f }:=I.kept (t':=s.toks) n
  have I2:aj X a σ (aA H f.objs.size (.tup d)) { s with heap:=f.push { cls:=.type "tuple",data:=.seq c.toArray } } :=
   I1.laid (t':=s.toks) (λb o e=>u6 _ e) (t6 _) (show yU X.prog X.w _ _ _ (.tup d) from⟨m,c,i,IsTup.new _ _⟩)
  exact⟨.ref f.objs.size,_,I2,rfl,q _ (I1.hok.fresh (t6 _))⟩
 .obtain⟨c,i,pl,m⟩:=I.tuple g
  exact call_tuple_same pl ⟨.ref p,H,I,rfl,q⟩
def Su (K:zA)(T:String)(x:V)(H:Hp):Prop:=match x with
 | .str _=>T="str"
 | .int _=>T="int"
 | .ref p=>(T="list"/\∃ b,aN K H p b)\/(T="tuple"/\∃ o,K.lookup p≈o/\o.cls=.type "tuple"/\o.dict=none) \/
  (T="dict"/\((∃ a,H p≈(.dK a))\/∃ a,H p≈(.dT a)))\/(T="set"/\∃ S n,H p≈(.set S n))
 |_=>False
def zqm {s:zm}(I:aj X d σ H s)(r:y6 x v)(ty:Su X.K T x H) :
 s.TypeIs v T/\∀ a,v=.ref a->∃ j,s.heap.get? a≈j/\j.dict=none:=by
 cases x with
 |str z =>
  obtain⟨t,rfl⟩:=r
  cases (show T="str" from ty)
  exact⟨mL s z t,λ_ e=>nomatch e⟩
 |int i =>
  obtain⟨t,rfl⟩:=r
  cases (show T="int" from ty)
  exact⟨qm s i t,λ_ e=>nomatch e⟩
 |ref p =>
  cases r
  rcases ty with ⟨rfl,q,m⟩|⟨rfl,o,b,l,h⟩|⟨rfl,b⟩|⟨rfl,S,n,b⟩
  .obtain⟨k,_,pl,_⟩:=I.list m
   refine⟨pl.isList.typeIs,λa e=>?_⟩
   cases e
   obtain⟨o,n,e,c,h,_⟩:=pl
   exact⟨o,e,h⟩
  .refine⟨⟨o,I.kIn p o b,l⟩,λa e=>?_⟩
   cases e
   exact⟨o,I.kIn _ o b,h⟩
  .have z:∃ o,s.heap.get? p≈o/\o.ExactDict:=by
    rcases b with ⟨g,b⟩|⟨g,b⟩
    .obtain⟨_,_,_,_,o,_,_,e,ex,_⟩:=I.hok p _ b
     exact⟨o,e,ex⟩
    .obtain⟨_,_,_,_,o,_,_,e,ex,_⟩:=I.hok p _ b
     exact⟨o,e,ex⟩
   obtain⟨o,e,ex⟩:=z
   refine⟨⟨o,e,ex.1⟩,λa f=>?_⟩
   cases f
   exact⟨o,e,ex.2.1⟩
  .obtain⟨o,_,_,_,e,ex,_⟩:=I.hok p _ b
   refine⟨⟨o,e,ex.1⟩,λa f=>?_⟩
   cases f
   exact⟨o,e,ex.2.1⟩
 |_=>exact Q0o ty
def jA (K:zA)(T:String)(r:V->zD->Hp->VK->Prop)(b:TE)(t:TA):TE:=fun σ H Q=>b σ H λx H1=>Su K T x H1/\t σ H1 λa H2=>r x a H2 Q
variable {o e:Expr}{es:y0}{to:TE}{t:TA}{name:Str}{apos cpos:Pos}{T id:String}{r:V->zD->Hp->VK->Prop}
theorem Z5 (m:PlainAttrs T) (g:Slot T name id) (i:typeOf (.builtin id)=pure (.type "method_descriptor")) (D:Ds X id r) (A:PE X o to) (l:PA X (e::es) t)
 (c:Q0F o name X.env (eval o X.env)=eval o X.env:=by rfl)
 (f:((Q0v cpos (Q0c (e::es) X.env)).all (λx=>!x.1)&&(Q1N cpos (Q06 [] X.env)).all (λx=>x.1.isSome)
  && decide ((e::es).length+([]:List Q2f).length+(if ([]:List Q2f).isEmpty then 0 else 1) < 30))=true:=by rfl)
 (d:(apos.endLine == cpos.line)=true:=by rfl) (u:Q0c (e::es) X.env=(false,eval e X.env)::Q0c es X.env:=by rfl) (b:(Q0v cpos (Q0c es X.env)).any (·.1)=false:=by rfl) :
 PE X (.Call (.Attribute o name apos) (e::es) [] cpos) (jA X.K T r to t):=by
 intro a s σ H Q I h
 refine Jo c f d rfl (aG (A a s σ H _ I h) λv n hh9=>?_)
 obtain⟨x,H1,I1,j,ty,E⟩:=hh9
 obtain⟨C,z⟩:=zqm I1 j ty
 refine⟨T,id,m,g,i,C,z,?_⟩
 have k:=l cpos a n σ H1 _ I1 E
 rw[u]at k ⊢
 refine Ji (by show(false||(Q0v cpos (Q0c es X.env)).any (·.1))=false;rw[b] <;> rfl) (Ij ?_)
 exact aG k λy w ⟨q,H2,I2,p,B⟩=>D a w σ H2 x q v y Q I2 j p B
/- xs.append(e),list.index on a module's tuple .. are Ds facts of 06m -/
end
def Dt (X:Cx)(id:String)(r:V->zD->Hp->VK->Prop):Prop :=
 ∀ (a:xz) (s:zm) (σ:St) (H:Hp) (x:V) (b:zD) (v:Q0e) (c:zC) (Q:VK),aj X a σ H s->y6 x v->yy b c->r x b H Q ->
  Q0d (Q0i X.prog X.w) X.A (call (.builtin id) (v::c)) (EP X a σ Q) X.xe s
def yy.one:∀ {x:V} {a:zC},yy [x] a->∃ u,a=[u]/\y6 x u:=by
 intro x a h
 cases h with|cons r t=>cases t;exact⟨_,rfl,r⟩
def yy.two:∀ {x y:V} {a:zC},yy [x,y] a->∃ u v,a=[u,v]/\y6 x u/\y6 y v:=by
 intro x y a h
 cases h with|cons r t=>cases t with|cons q t=>cases t;exact⟨_,_,rfl,r,q⟩
def yy.rep (h:yy a b):∀ k:Nat,yy (Q0a k a).flatten (Q0a k b).flatten
 |0=>.nil
 |k+1=>by
  rw[l7,l7,kI,kI]
  exact yy.append h (yy.rep h k)
def WX (a:zC):∀ (k:Nat) (b:zC),
 Q1D (λd f=>d++f) b.toArray (Q0a k a.toArray)=(b++(Q0a k a).flatten).toArray
 |0,b=>by simp
 |k+1,b=>by
  have e:b.toArray++a.toArray=(b++a).toArray:=by simp
  have c:(b++a)++(Q0a k a).flatten=b++(Q0a (k+1) a).flatten:=by
   rw[l7,kI,qM]
  rw[<-c,<- WX a k (b++a),<- e,l7,List.foldl_cons]
section
variable {X:Cx}{pins:xz}{σ:St}{H:Hp}{s:zm}{l b:Addr}{xs ys zs:zD}
def aj.lset {a its':zC} {f:wc->wc} {c:Nat} (I:aj X pins σ H s) (d:H l≈(.lst xs)) (e:s.heap.get? l≈{ cls:=.type "list",data:=.seq a.toArray n }) (j:f a.toArray=its'.toArray) (h:yy ys its') (i:↥ys<=sizeLine) :
 aj X pins σ (aA H l (.lst ys)) { s with heap:=s.heap.update l (Q0t f),toks:=c }:=by
 have q:=PySem.IsL.update e f
 rw[j]at q
 refine I.write (x:=l) (e:=l) (by rw[d];exact trivial) (.inl rfl) (λk u g b=>(g6 s.heap (Q0t f) (bh g)).trans b) ⟨_,q⟩ ?_
 exact⟨i,its',_,h,q⟩
def aj.lnew {its:zC}{t':Nat}(I:aj X pins σ H s)(a:yy ys its)(b:↥ys<=sizeLine) :
 aj X pins σ (aA H ⇑s (.lst ys)) { s with heap:=s.heap.push { cls:=.type "list",data:=.seq its.toArray },toks:=t' } :=
 I.laid (λ_ _ q=>u6 _ q) (t6 _) ⟨b,its,0,a,j6 _ rfl⟩
def aj.fresh (I:aj X pins σ H s):H ⇑s=none:=I.hok.fresh (t6 _)
def aj.lstM (I:aj X pins σ H s) (b:H l≈(.lst xs)):↥xs<=sizeLine/\∃ (a:zC) (n:Nat),yy xs a/\↥xs=↥a/\s.heap.get? l≈{ cls:=.type "list",data:=.seq a.toArray n }:=by
 obtain⟨z,a,n,r,e⟩:=I.hok l _ b
 exact⟨z,a,n,r,↥r,e⟩
def Qo {n:Nat}(h:n<=sizeLine):Q0I n=false:=by
 unfold Q0I
 exact r0 ∅
end
section
variable {X:Cx}
def Gy:V->zD->Hp->VK->Prop:=λx b H Q=>∃ l a y,x=.ref l/\b=[y]/\H l≈(.lst a)/\↥a<sizeLine/\Q .non (aA H l (.lst (a++[y])))
def Xq:Dt X "list.append" Gy:=by
 intro b s σ H x i v k Q I g d h
 obtain⟨l,m,y,rfl,rfl,c,o,q⟩:=h
 cases g
 obtain⟨u,rfl,f⟩:=d.one
 obtain⟨z,a,n,r,j,e⟩:=I.lstM c
 refine eV F.slot_list_append ⟨_,e,rfl⟩ F.entry_list_append (F.args_list_append_2 _ _) (PySem.list_append l a.toArray n u (by rw[j0];omega)) ⟨e,?_⟩
 refine⟨.non,_,I.lset (its':=a++[u]) c e (by simp) (r.append (.cons f .nil)) ?_,rfl,q⟩
 rw[j9,Q1X]
 omega
def Nt:V->zD->Hp->VK->Prop:=λx c H Q=>∃ l b a zs,x=.ref l/\c=[.ref b]/\H l≈(.lst a)/\H b≈(.lst zs)/\↥a+↥zs<=sizeLine/\Q .non (aA H l (.lst (a++zs)))
def zhi:Dt X "list.extend" Nt:=by
 intro i s σ H x B v D Q I w p h
 obtain⟨l,b,E,zs,rfl,rfl,g,y,G,q⟩:=h
 cases w
 obtain⟨u,rfl,t⟩:=p.one
 cases t
 obtain⟨z,c,n,r,C,e⟩:=I.lstM g
 obtain⟨A,a,m,k,o,j⟩:=I.lstM y
 have f:c.toArray.size+a.toArray.size<=sizeLine:=by rw[j0,j0];omega
 have d:¬ (!c.toArray.isEmpty&&Q0I (c.toArray.size+a.toArray.size))=true:=by
  rw[Qo f,qx]
  exact u7
 refine eV F.slot_list_extend ⟨_,e,rfl⟩ F.entry_list_extend (F.args_list_extend_2 _ _)
  (AutoSeq1.list_extend_list_list_0 l c.toArray n b a.toArray m d (by rw[j0];omega) ∅) ⟨e,j,?_⟩
 refine⟨.non,_,I.lset (its':=c++a) g e (by simp) (r.append k) ?_,rfl,q⟩
 rw[j9]
 omega
def Eh:R2:=λx y H Q=>∃ l b a zs,x=.ref l/\y=.ref b/\H l≈(.lst a)/\H b≈(.lst zs)/\↥a+↥zs<=sizeLine/\∀ p,H p=none->Q (.ref p) (aA H p (.lst (a++zs)))
def Ak:aQ X (Q0O .Add) Eh:=by
 intro d s σ H x y v u Q I k m h
 obtain⟨l,b,B,zs,rfl,rfl,o,p,C,q⟩:=h
 cases k
 cases m
 obtain⟨z,c,n,r,w,e⟩:=I.lstM o
 obtain⟨t,a,A,j,f,g⟩:=I.lstM p
 refine PySem.P.add_list e g ?_ (by rw[j0,j0];omega)
 have i:c.toArray++a.toArray=(c++a).toArray:=by simp
 rw[i]
 exact⟨.ref _,_,I.lnew (t':=s.toks) (r.append j) (by rw[j9];omega),rfl,q _ I.fresh⟩
def rQ:R2:=λx y H Q=>∃ l k a,x=.ref l/\y=.int k/\H l≈(.lst a)/\-(2^63)<=k/\k<2^63/\↥a*k.toNat<=sizeLine /\
 ∀ p,H p=none->Q (.ref p) (aA H p (.lst (Q0a k.toNat a).flatten))
def Gx {α:Type}(a:List α)(k:Nat):(Q0a k a).flatten.length=k*↥a:=by
 induction k with
 |zero=>simp
 |succ k b=>rw[l7,kI,j9,b,Nat.succ_mul,Nat.add_comm]
theorem Lq:aQ X (Q0O .Mult) rQ:=by
 intro p s σ H x y v u Q I G D h
 obtain⟨l,k,M,rfl,rfl,E,C,B,w,q⟩:=h
 cases G
 obtain⟨t,rfl⟩:=D
 obtain⟨z,b,n,r,A,e⟩:=I.lstM E
 have i:b.toArray.size*k.toNat<=sizeLine:=by rw[j0,<- A];exact w
 have g:¬ b.toArray.size*k.toNat > (2 ^ 63 - 1) / 8:=by
  have:(sizeLine:Nat)<=(2 ^ 63 - 1) / 8:=by decide
  omega
 have d:¬ (!Builtin.List.listFitsIndex k)=true:=by
  rw[fitsIndex_both C B]
  exact u7
 have c:¬ Q0I (b.toArray.size*k.toNat)=true:=by
  rw[Qo i]
  exact u7
 have f:Q1D (λo j=>o++j) #[] (Q0a (if b.toArray.isEmpty then 0 else k.toNat) b.toArray)=(Q0a k.toNat b).flatten.toArray:=by
  have J:∀ m:Nat,Q1D (λo j=>o++j) #[] (Q0a m b.toArray)=(Q0a m b).flatten.toArray:=λm=>by
   have:=WX b m []
   rw[HR]at this
   exact this
  rw[J]
  cases b with
  |nil=>simp
  |cons a L=>rw[j5 (by simp)]
 refine wpAny_binaryOp_repeat_ref (T:="list") (U:="int") ⋯ ⟨_,e,rfl⟩ (λK=>qm K k t) noFill_list_mul F.fills_int_mul BZ repeat_list F.slot_int_index.lookup
  (eV BZ (qm s k t) F.entry_int_rmul (F.args_int_rmul_2 _ _) (int___rmul___int_list k t l b.toArray n)
   ⟨e,rfl,⟨_,e,rfl⟩,eV F.slot_list_mul ⟨_,e,rfl⟩ F.entry_list_mul (F.args_list_mul_2 _ _) (AutoListH.list___mul___list_int_3 l b.toArray n k t d g c) ⟨e,?_⟩⟩)
 rw[f]
 exact⟨.ref _,_,I.lnew (t':=s.toks) (r.rep k.toNat) (by rw[Gx,qz];exact w),rfl,q _ I.fresh⟩
end
end L2
namespace Att
open PySem PySem.W PySem.Calls PyProof.Rows
def Vd:∀ (ns:zr) (c:zC),WellAll P h c (ns.map WData.int)->Q0R c ns:=by
 intro ns
 induction ns with
 |nil =>
  intro c w
  rw[Q2K]at w
  cases w
  exact .nil
 |cons n ns d =>
  intro c w
  rw[n0]at w
  cases w with
  |cons a b =>
   cases a
   exact .cons _ _ (d _ b)
def ziL {l:OpenLaw}(p:l.most≈n){h:Heap}(c:l.row.toRowW.claim.pre args=true)(j:WellAll P h b args) :
 ∃ a m ns,b=[Q0f a]/\args=[WData.list (ns.map WData.int)]/\h.get? a≈{ cls:=.type "list",data:=.seq m.toArray }/\Q0R m ns/\↥ns<=n:=by
 have k:WShape.hasAll [] args [.list .int]=true:=(pre_splitW c).1
 have o:l.pre.holds [] { args:=args }=true:=(pre_splitW c).2
 obtain⟨d,r,rfl,x,v⟩:=hasAllW_cons k
 obtain rfl:=hasAllW_nil v
 obtain⟨z,rfl,s⟩:=hasW_list x
 obtain⟨ns,rfl⟩:=items_int s
 have f:↥ns<=n:=by
  unfold OpenLaw.pre at o
  have g:(WTm.not (.lt (.lit (.int (n:Int))) (.len (.arg 0)))).holds [] { args:=[.list (ns.map .int)] }=true:=by
   have g:=(holds_andW o).1
   rw[p]at g
   exact g
  have i:=condW_of g (w_not (w_lt w_lit (w_len_list (w_arg rfl))))
  rw[u5]at i
  refine jx λq=>?_
  have y:(n:Int)<((↥ns:Nat):Int):=by omega
  first
   | (rw[j3 y]at i;exact absurd i ⋯)
   | (simp at i;omega)
 cases j with
 |cons u t =>
  cases t
  cases u with
  |list w e=>exact⟨_,_,ns,rfl,rfl,w,Vd ns _ e,f⟩
def zg7 (l:OpenLaw)(args:List WData):l.row.toRowW.claim.post args (.bool true) args=true :=
 postW_of (r:=l.row.toRowW) (X:=(true == true))
  (show WShape.has [] (.bool true) .bool=true by first|rfl|decide|simp[WShape.has,WShape.arms,WShape.armsAll])
  (show(WTm.eq .res (.lit (.bool true))).value [] { args:=args,res:=some (.bool true),after:=args }≈(.bool (true == true))from w_eq_bool (w_res rfl) w_lit) rfl
def attach_call {l:OpenLaw}{YP:Q0k->Heap->Prop}{d:DefRec}(L:l.most≈n)(v:d.params.defaults=[]) (call:∀ (w:Q0k) (s₀ b:zm) (s A:wA) (m:Addr) (o:Obj) (z p e:Q0e) (a:Addr) (h:zC) (ns:zr),
 Ground q c [] XP w s₀ s A b.heap->YP w b.heap ->
 b.heap.get? m≈o->o.data=.func (docDef d.name d.params d.body d.scope z p e)->b.heap.CodeRec p d.name->s d.name≈(.ref m) ->
 b.heap.get? a≈{ cls:=.type "list",data:=.seq h.toArray }->Q0R h ns->↥ns<=n->b.gens=#[] ->
 Q05 (Q0i l.prog w) Q2E (.call (.ref m) ⟨[.ref a],[]⟩) (λr t=>r=.ok (.ret (.bool true))/\OldK b.heap t.heap/\t.os=b.os/\Q1y t.gens) b) :
 WalkO q c XP YP l.row.toRowW d [] (λf h=>PySem.call f h):=by
 intro w s₀ b s A G Y m o z p e K kV I M x hD y P args B Q i C J u D
 obtain rfl:K=.none:=Dflts.none hD v
 obtain rfl:kV=.none:=Dflts.noKw hD
 obtain⟨a,h,ns,rfl,rfl,k,g,j⟩:=ziL L i u
 refine enter_call (mQ (call w s₀ b s A m o z p e a h ns G Y I (fd_plain M) x y k g j P) λr t N=>?_)
 obtain⟨rfl,H,F,E⟩:=N
 exact⟨.inl ⟨.bool true,.bool true,[],rfl,λ_=>rfl,.bool true,zg7 l _,λ_=>⟨Q2B,λ_ O=>(nomatch O)⟩⟩,H,F,E⟩
section
variable {prog:zO}{w:Q0k}{A:zP}{E:yM}{s:zm}{K:Frag}
def JF (h:Heap)(L d:Addr):xz:=(Q0g h.objs.size).filterMap λa=>if a=L\/a=d then none else (h.get? a).map λo=>(a,o)
end
end Att
namespace L2
open PySem PySem.Spec PyProof.Rows
def QQ:∀ {a:zC} {ns:zr},Q0R a ns->yy (ns.map V.int) a:=by
 intro a ns h
 induction h with
 |nil=>exact .nil
 |cons n t h b=>exact .cons ⟨t,rfl⟩ b
def DY (H:Hp):Prop:=∀ b,H b=none\/∃ o a,H b≈(.frz o (.lst a))
def zkr {w:Q0k} {K:zA} {D S:wA} {CX:dq} {k:Nat} {sp:Sp} {c:zm} {y:zC} {ns:zr} (KX:K.In c.heap) (J:c.heap.Ns Q0h D) (g:c.heap.Ns builtinsNs S) (X:∀ x:Str,x≠"__name__"->S x=Q0j x) (M:c.heap.NoLimit) (hg:c.gens=#[]) (O:c.heap.get? a≈{ cls:=.type "list",data:=.seq y.toArray }) (hi:Q0R y ns) (hl:↥ns<=sizeLine) (hr:xH k Q2E) (F:∀ j:Heap,K.In j->j.Ns Q0h D->wt P w K D j CX k Y fd [x] sp) (t:∀ (s:zm) (u:Q0e),Q1T s fd ⟨[u],[]⟩ [(x,u)]) (W:∀ H:Hp,DY H->aN K H a (ns.map V.int)->sp [.ref a] H (λv _=>v=.bl true) λ_ _ _=>False) (R:∀ H e i,CX [] H c (λ_ _ _=>False) e i->False) :
 Q05 (Q0i P w) Q2E (.call (.ref Y) ⟨[.ref a],[]⟩) (λr i=>r=.ok (.ret (.bool true))/\OldK c.heap i.heap/\i.os=c.os/\Q1y i.gens) c:=by
 have rv:=QQ hi
 have C:=↥hi
 -- from an abstract heap in which nothing but the script may be tracked
 have p:∀ H:Hp,DY H->aN K H a (ns.map V.int)->aW P w H c.heap->(∀ b,H b≠none->b=a)->(H a≠none->K.lookup a=none) ->
  Q05 (Q0i P w) Q2E (.call (.ref Y) ⟨[.ref a],[]⟩) (λr i=>r=.ok (.ret (.bool true))/\OldK c.heap i.heap/\i.os=c.os/\Q1y i.gens) c:=by
  intro H hO hS N hA hK
  have f:∀ {b:Addr} {o:Obj},c.heap.get? b≈o->H b=none->(ig c.heap H).get? b≈o:=λe n=>zls e n
  have U:∀ {b:Addr} {o:Obj} {G:Array Q07} {A:Nat},c.heap.get? b≈o->o.data=.dict G A->H b=none:=λ{b o G A} e d=>by
   cases q:H b with
   |none=>rfl
   |some u =>
    have Q:b=a:=hA b (by rw[q];simp)
    subst Q
    rw[O]at e;cases e
    have d':Data.seq y.toArray _=Data.dict G A:=d
    cases d'
  have l:∀ {b:Addr} {m:wA},c.heap.Ns b m->(ig c.heap H).Ns b m:=λ{b m} ⟨o,G,A,e,d,r⟩=>⟨o,G,A,f e (U e d),d,r⟩
  have B:K.In (ig c.heap H):=λb o e=>f (KX b o e) (by
   cases q:H b with
   |none=>rfl
   |some u =>
    have Q:b=a:=hA b (by rw[q];simp)
    subst Q
    rw[hK (by rw[q];simp)]at e;cases e)
  have hM:Mod K D (ig c.heap H):=⟨B,l J,⟨S,l g,X⟩,let ⟨mc,h1,h2⟩:=M;⟨mc,l h1,h2⟩⟩
  have e0:ie P w K D (ig c.heap H) Q2E [] c H:=⟨rfl,hM,λb o e=>znI e,Nat.le_of_eq (zhq _ _),trivial,λb g=>absurd (show b∈([]:xt)from g) (by simp),N,.of_eq hg⟩
  refine mQ ((F _ B (l J)).run Q2E [] c H ⟨[.ref a],[]⟩ [.ref a] [.ref a] _ _ hr e0 (t c (.ref a)) (.cons rfl .nil) (W H hO hS)) λr i h=>?_
  cases r with
  |error e=>exact(R H e i h).elim
  |ok fl =>
   cases fl with
   |next=>exact Q0o h
   |brk=>exact Q0o h
   |cont=>exact Q0o h
   |ret u =>
    obtain⟨v,H',os,L,Z,I,r',q⟩:=h
    have q':v=.bl true:=q
    subst q'
    obtain rfl:u=Q0K true:=r'
    refine⟨rfl,OldK.of_keep λb o e=>?_,os,L⟩
    cases q:H b with
    |none=>exact Z.keep b o e q (by intro z;exact absurd (show b∈([]:xt)from z) (by simp)) (by simp)
    |some u =>
     rcases hO b with z|⟨ob,xs,z⟩
     .rw[q]at z;cases z
     .have z2:=Z.frzs b ob _ z
      obtain⟨e1,_⟩:=N b _ z
      obtain⟨e2,_⟩:=I b _ z2
      rw[e]at e1;cases e1
      exact e2
 cases T:K.lookup a with
 |some o =>
  -- the script is one of the module's own objects
  have e:=KX a o T
  rw[O]at e
  cases e
  refine p (λ_=>none) (λ_=>.inl rfl) (.inr ⟨_,y.toArray,_,T,rfl,rfl,rfl,by rw[j0,C];exact hl,by simpa using rv⟩) (λb u z=>by have E:(none:Option HO)≈u:=z;cases E) (λb z=>absurd rfl z) λz=>absurd rfl z
 |none =>
  refine p (λb=>if b=a then some (.frz { cls:=.type "list",data:=.seq y.toArray } (.lst (ns.map V.int)))else none) (λb=>?_) (.inl (.inr ⟨{ cls:=.type "list",data:=.seq y.toArray },t5 rfl⟩)) (λb u z=>?_) (λb z=>?_) λ_=>T
  .by_cases g:b=a
   .exact .inr ⟨_,_,t5 g⟩
   .exact .inl (j5 g)
  .by_cases g:b=a
   .have E:=(t5 g).symm.trans z
    cases E
    subst g
    exact⟨O,by rw[u5];exact hl,y,_,rv,O⟩
   .have E:=(j5 g).symm.trans z
    cases E
  .by_cases g:b=a
   .exact g
   .exact absurd (j5 g) z
def walk_of {l:PySem.W.OpenLaw}{k:Nat}{YP:Q0k->Heap->Prop}{d:DefRec}{K:Params->PySem.W.Frag}{CX:Q0k->dq}{sp:Q0k->Sp}(L:l.most≈n)(z:n<=sizeLine)(r:d.params.defaults=[])(S:xH k Q2E)(M:∀ (w:Q0k) (h:Heap),YP w h->(K w.params).In h) (F:∀ (w:Q0k) (j:wA) (p:Addr) (h:Heap),(K w.params).In h->h.Ns Q0h j->j d.name≈(.ref p) ->
 ∃ A:Q1I,(∀ (s:zm) (u:Q0e),Q1T s A ⟨[u],[]⟩ [(x,u)]) /\
  ∀ b:Heap,(K w.params).In b->b.Ns Q0h j->wt l.prog w (K w.params) j b (CX w) k p A [x] (sp w)) (B:∀ (w:Q0k) (H:Hp) (a:Addr) (ns:zr),↥ns<=n->DY H->aN (K w.params) H a (ns.map V.int)->sp w [.ref a] H (λv _=>v=.bl true) λ_ _ _=>False) (t:∀ (w:Q0k) (H:Hp) (s:zm) (e:Q0e) (y:zm),CX w [] H s (λ_ _ _=>False) e y->False) :
 PySem.W.WalkO q i XP YP l.row.toRowW d [] (λf D=>PySem.call f D):=by
 refine Att.attach_call L r λw s₀ J j T p o Z U O a D ns G Y W X I C m g c N=>?_
 have KX:=M w _ Y
 obtain⟨A,P,E⟩:=F w j p _ KX G.T.g C
 exact zkr KX G.T.g G.T.b G.T.builtins G.T.nolimit N m g (k8 c z) S E P (λH R Q=>B w H a ns c R Q) λH e y=>t w H J e y
def wL (s:Stmt):Arguments:=match s with
 |.FunctionDef _ a _ _ _ _ _ _ _ _=>a
 |_=>{ posonlyargs:=[],args:=[],vararg:=none,kwonlyargs:=[],kw_defaults:=[],kwarg:=none,defaults:=[] }
def ym (s:Stmt):vu:=match s with
 |.FunctionDef _ _ b _ _ _ _ _ _ _=>b
 |_=>[]
def zo (s:Stmt):Scope:=match s with
 |.FunctionDef _ _ _ _ _ _ sc _ _ _=>sc
 |_=>{ kind:=.function,names:=[],isGenerator:=false,isCoroutine:=false }
abbrev aV:dq:=λ_ _ _ _ _ _=>False
abbrev E0:XK:=λ_ _ _=>False
def pI:vr aV X E0:=λ_ _ _ _ _ _ _ h=>h.elim
structure cg (K:zA) (x qual:Str) (st:Stmt) (f:Addr) (fd:vv):Prop where
 ex:∃ (oc:Q0e) (od:y1) (kV doc pm:Q0e) (an:y1) (cdv ct:Q0e) (osl:Array (Option Q0e)),
  fd=Q11 x qual (wL st) (ym st) (zo st) .none kV doc pm an cdv ct/\K.lookup f≈⟨oc,od,.func fd,osl⟩/\Q15 K cdv qual=true
 kp:Q0H K (.ref f)=true
section
variable {P:zO}{w:Q0k}{K:zA}{mg:wA}{base:Heap}
def cg.ok {f:Addr}{N ps:zF}{k:Nat}{l:Sp}(F:cg K x a e f m)(S:yZ N ps (zo e))(g:∀ c H Q E,l c H Q E->↥c=↥ps) (d:∀ (b:Q0e) (A:zP) (outer:List Env) (s:zm) (H:Hp) (c:zD) (Q:VK) (E:XK),xH k (A.deeper (Q19 a (zo e) ⇑s f b))->l c H Q E ->
 ∃ t,bH (ZR aV P w K mg base N a (zo e) f b A outer s H E).nox (ym e) t/\t { nx:=λ_ H'=>Q .non H',rt:=Q } (start N c) H):wt P w K mg base aV (k+1) f m ps l:=by
 obtain⟨u,y,kV,n,v,z,b,ct,p,rfl,o,j⟩:=F.ex
 refine K4 o j S g λA outer s H c Q E r i=>?_
 obtain⟨t,h,q⟩:=d b A outer s H c Q E r i
 exact⟨t,h.nox,q⟩
def cg.binds {f:Addr}{ps:zF}(F:cg K x a d f j)(h:∀ (kV c e:Q0e) (i:y1) (b ct:Q0e) (g:zC),↥g=↥ps->bindArgs (Q11 x a (wL d) (ym d) (zo d) .none kV c e i b ct) ⟨g,[]⟩=pure (ps.zip g)):vf K j ps []:=by
 obtain⟨m,n,kV,c,e,i,b,ct,k,rfl,o,l⟩:=F.ex
 exact .all (h kV c e i b ct)
def mC {x a:Str}{st:Stmt}{f:Addr}{i:Q0e}{j h:y1}{e:Array (Option Q0e)}{kV d g b ct:Q0e}(l:K.lookup f≈⟨i,j,.func (Q11 x a (wL st) (ym st) (zo st) .none kV d g h b ct),e⟩)
 (c:Q15 K b a=true) (k:Q0H K (.ref f)=true):cg K x a st f (Q11 x a (wL st) (ym st) (zo st) .none kV d g h b ct):=⟨⟨i,j,kV,d,g,h,b,ct,e,rfl,l,c⟩,k⟩
end
def pH {A:zP}{k:Nat}(a:xH k A):A.units+1<cLine:=l6 (Cr (by decide:1<=64) _) a.units
def vm {n:Nat}(h:n<=1000):n<sizeLine:=l6 h ⋯
section
variable {X:Cx}
def pv (i:Nat) (c:X.N[i]?≈x:=by rfl) (d:bR X.env.scope x:=by first | exact Q0n rfl | exact Q2L (Q0n rfl) | exact Q2L (Q2L rfl)) (e:(x == ("__debug__":Str))=false:=by decide) (b:(x == ("__classdict__":Str))=false:=by decide):PE X (.Name x a) (Wd i):=zpz c d e b
end
def zZ (H H':Hp):Prop:=∀ b o,H b≈o->H' b≈o
def zZ.refl (H:Hp):zZ H H:=λ_ _ h=>h
def zZ.trans (a:zZ H H1)(b:zZ H1 H2):zZ H H2:=λc o h=>b c o (a c o h)
def zZ.free {H H':Hp}(e:zZ H H')(h:H' l=Option.none):H l=Option.none:=by
 cases q:H l with
 |none=>rfl
 |some o =>
  rw[e l o q]at h
  cases h
def zZ.seq {K:zA}{H H':Hp}{a:Addr}{b:zD}(e:zZ H H')(h:aN K H a b):aN K H' a b:=by
 rcases h with (h|⟨o,h⟩)|h
 .exact .inl (.inl (e _ _ h))
 .exact .inl (.inr ⟨o,e _ _ h⟩)
 .exact .inr h
section
variable {κ:Type}[DecidableEq κ]
def dN (a:List (κ × V))(k:κ):Option V:=(a.find? λb=>decide (b.1=k)).map (·.2)
def dw (a:List (κ × V))(k:κ)(v:V):List (κ × V) :=
 if (a.any λb=>decide (b.1=k)) then a.map (λb=>if b.1=k then (b.1,v)else b)else a++[(k,v)]
def WG {k:κ}(e:p.1=k):dN (p::r) k≈p.2:=by simp[dN,mW,e]
def WC {k:κ}(e:¬ p.1=k):dN (p::r) k=dN r k:=by simp[dN,mW,e]
def Hg (k:κ):∀ a:List (κ × V),(a.any λb=>decide (b.1=k))=(dN a k).isSome
 |[]=>rfl
 |p::r=>by
  rw[qt]
  by_cases e:p.1=k
  .simp only[WG e,j3 e,Bool.true_or,Option.isSome_some]
  .rw[WC e,r0 e,Bool.false_or];exact Hg k r
def VM (a:List (κ × V))(k:κ)(v:V):(dw a k v).length<=↥a+1:=by
 unfold dw
 split
 .rw[u5];omega
 .rw[j9,g5,BW];omega
def dU.isSome_eq {o:Option V}{u:Option Q0e}(r:dU o u):o.isSome=u.isSome:=by
 cases o with
 |none=>cases u with
  |none=>rfl
  |some _=>exact(show False from r).elim
 |some _=>cases u with
  |none=>exact(show False from r).elim
  |some _=>rfl
def KV.val {f:List (κ × Q0e)}(r:KV a f)(k:κ):dU (dN a k) (valueAt f k):=by
 unfold KV at r
 induction r with
 |nil=>exact Q0D
 | @cons p q l d h t j =>
  obtain⟨g,i⟩:=h
  by_cases e:p.1=k
  .have c:q.1=k:=g.symm.trans e
   have b:valueAt (q::d) k≈q.2:=by simp[valueAt,mW,c]
   rw[WG e,b];exact i
  .have c:¬ q.1=k:=λz=>e (g.trans z)
   have b:valueAt (q::d) k=valueAt d k:=by simp[valueAt,mW,c]
   rw[WC e,b];exact j
def KV.any {a:List (κ × V)}{c:List (κ × Q0e)}(r:KV a c)(k:κ):(a.any λb=>decide (b.1=k))=c.any λb=>decide (b.1=k):=by
 unfold KV at r
 induction r with
 |nil=>rfl
 |cons h t d=>rw[qt,qt,d,h.1]
def KV.repl {b:List (κ × V)}{d:List (κ × Q0e)}(r:KV b d)(k:κ)(g:y6 y u) :
 KV (b.map λa=>if a.1=k then (a.1,y)else a) (d.map λa=>if a.1=k then (a.1,u)else a):=by
 unfold KV at r ⊢
 induction r with
 |nil=>exact .nil
 | @cons p q j l h t i =>
  rw[n0,n0]
  refine .cons ?_ i
  obtain⟨c,f⟩:=h
  by_cases e:p.1=k
  .rw[t5 e,t5 (c.symm.trans e)];exact⟨c,g⟩
  .rw[j5 e,j5 (λz=>e (c.trans z))];exact⟨c,f⟩
def KV.put (r:KV a b)(k:κ)(c:y6 y u):KV (dw a k y) (stored b k u):=by
 unfold dw stored
 rw[r.any k]
 by_cases e:(b.any λd=>decide (d.1=k))=true
 .rw[t5 e,t5 e];exact r.repl k c
 .rw[j5 e,j5 e];exact Paired.snoc r ⟨rfl,c⟩
def KV.keys {a:List (κ × V)}{b:List (κ × Q0e)}(r:KV a b):a.map (·.1)=b.map (·.1):=by
 unfold KV at r
 induction r with
 |nil=>rfl
 |cons h t c=>rw[n0,n0,c,h.1]
def KV.length {a:List (κ × V)}{b:List (κ × Q0e)}(r:KV a b):↥a=↥b:=qp r
end
def uJ {w:Q0k}{k:aJ}(r:y6 (kV k) u):(xf P w).is k u=true:=by
 cases k with
 |inl i=>obtain⟨t,e⟩:=(show ∃ t,u=Q03 i t from r);subst e;exact zd2 P w i t
 |inr x=>obtain⟨t,e⟩:=(show ∃ t,u=Q2u x t from r);subst e;exact zer P w x t
def Ro {w:Q0k}:∀ {a:List aJ} {b:zC},yy (a.map kV) b->ItemsAre (xf P w) a b
 |[],_,r=>by rw[Q2K]at r;cases r;exact .nil
 |k::a,_,r=>by
  rw[n0]at r
  cases r with
  |cons h t=>exact .cons (uJ h) (Ro t)
abbrev KT (H:Hp):VV->List (List aJ × Addr × Q0e)->Prop:=Paired λp q=>p.1=q.1/\H q.2.1≈(.tup (p.1.map kV))/\y6 p.2 q.2.2
def KT.val {g:List (List aJ × Addr × Q0e)}(r:KT H a g)(k:List aJ):dU (dN a k) ((atKey g k).map (·.2)):=by
 induction r with
 |nil=>exact Q0D
 | @cons p q l d h t j =>
  obtain⟨f,_,i⟩:=h
  by_cases e:p.1=k
  .have c:q.1=k:=f.symm.trans e
   have b:atKey (q::d) k≈q.2:=by simp[atKey,mW,c]
   rw[WG e,b];exact i
  .have c:¬ q.1=k:=λz=>e (f.trans z)
   have b:atKey (q::d) k=atKey d k:=by simp[atKey,mW,c]
   rw[WC e,b];exact j
def KT.repl {a:VV}{f:List (List aJ × Addr × Q0e)}(r:KT H a f)(k:List aJ)(i:y6 y u) :
 KT H (a.map λc=>if c.1=k then (c.1,y)else c) (f.map (putAt k u)):=by
 induction r with
 |nil=>exact .nil
 | @cons p q l m h t j =>
  rw[n0,n0]
  refine .cons ?_ j
  obtain⟨b,d,g⟩:=h
  unfold putAt
  by_cases e:p.1=k
  .rw[t5 e,t5 (b.symm.trans e)];exact⟨b,d,i⟩
  .rw[j5 e,j5 (λz=>e (b.trans z))];exact⟨b,d,g⟩
def KT.put {H:Hp}(r:KT H a c)(k:List aJ)(f:H b≈(.tup (k.map kV)))(d:y6 y u) :
 KT H (dw a k y) (storedH c k b u):=by
 have e:(a.any λg=>decide (g.1=k))=(atKey c k).isSome:=by
  rw[Hg,(r.val k).isSome_eq,nG]
 unfold dw storedH
 rw[e]
 by_cases q:(atKey c k).isSome=true
 .rw[t5 q,t5 q];exact r.repl k d
 .rw[j5 q,j5 q];exact Paired.snoc r ⟨rfl,f,d⟩
def KT.keeps {H H':Hp}(r:KT H a d)(e:∀ b c,H b≈(.tup c)->H' b≈(.tup c)):KT H' a d :=
 Paired.mapP r λ_ _ z=>⟨z.1,e _ _ z.2.1,z.2.2⟩
section
variable {P:zO}{w:Q0k}{H:Hp}{h:Heap}{a:Addr}
def K1 (ok:aW P w H h)(e:Rd H a u):yU P w H h a u:=e.ok ok
def Fj {b:List (aJ × V)}(ok:aW P w H h)(e:Rd H a (.dK b)):↥b<=sizeLine/\(a == Q0B)=false/\∃ c,KV b c/\h.DictOf (xf P w) a c :=
 show yU P w H h a (.dK b)from K1 ok e
def Uc {b:List (aJ × V)}(ok:aW P w H h)(e:H a≈(.dK b)):↥b<=sizeLine/\(a == Q0B)=false/\∃ c,KV b c/\h.DictOf (xf P w) a c:=Fj ok (.inl e)
def qj {c:List aJ}(ok:aW P w H h)(e:H a≈(.tup (c.map kV))):(Q1p (xf P w)).is h c a:=by
 obtain⟨_,b,r,o,f,d,n,g⟩:=(show yU P w H h a (.tup (c.map kV))from ok a _ e)
 exact⟨o,b.toArray,n,f,d,g,by simpa using Ro r⟩
def uC {b:VV}(ok:aW P w H h)(e:Rd H a (.dT b)):↥b<=sizeLine/\(a == Q0B)=false /\
 ∃ d,KT H b d/\h.DictOfH (Q1p (xf P w)) a d:=by
 obtain⟨z,y,d,r,o,A,u,s,n,k,i,j⟩:=(show yU P w H h a (.dT b)from K1 ok e)
 refine⟨z,y,d,r,o,A,u,s,n,k,i,λx c=>?_,j⟩
 have f:∀ {l:VV} {m:List (List aJ × Addr × Q0e)},KT H l m->∀ x∈m,(Q1p (xf P w)).is h x.1 x.2.1:=by
  intro l m q
  induction q with
  |nil=>intro x c;exact nomatch c
  | @cons p q B C g t v =>
   intro x c
   rcases t9.mp c with e|c
   .subst e
    exact qj ok (by rw[<-g.1];exact g.2.1)
   .exact v x c
 exact f r x c
def KC {b:VV}(ok:aW P w H h)(e:H a≈(.dT b)):↥b<=sizeLine/\(a == Q0B)=false /\
 ∃ c,KT H b c/\h.DictOfH (Q1p (xf P w)) a c:=uC ok (.inl e)
end
def tY (H:Hp)(a:Addr)(y:V)(r:Option V):Prop :=
 (∃ c k,Rd H a (.dK c)/\y=kV k/\r=dN c k)\/∃ c k b,Rd H a (.dT c)/\y=.ref b/\H b≈(.tup (k.map kV))/\r=dN c k
def gR (H:Hp)(a:Addr)(y v:V)(H':Hp):Prop :=
 (∃ c k,H a≈(.dK c)/\y=kV k/\↥c<sizeLine/\H'=aA H a (.dK (dw c k v))) \/
 ∃ c k b,H a≈(.dT c)/\y=.ref b/\H b≈(.tup (k.map kV))/\↥c<sizeLine/\H'=aA H a (.dT (dw c k v))
def gR.k {H:Hp}{b:List (aJ × V)}{k:aJ}(e:H a≈(.dK b))(c:↥b<sizeLine):gR H a (kV k) v (aA H a (.dK (dw b k v))):=.inl ⟨b,k,e,rfl,c,rfl⟩
def gR.t {H:Hp}{c:VV}{k:List aJ}(e:H a≈(.dT c))(d:H b≈(.tup (k.map kV)))(f:↥c<sizeLine) :
 gR H a (.ref b) v (aA H a (.dT (dw c k v))):=.inr ⟨c,k,b,e,rfl,d,f,rfl⟩
section
variable {X:Cx}{pins:xz}{σ:St}{H:Hp}{s:zm}{a:Addr}{y v:V}{u r:Q0e}{o:Option V}{A:zP}{E:yM}
def aj.big (I:aj X pins σ H s):Q0B<⇑s:=by
 have h:Q0h<⇑s:=(I.mod.glob.keeps I.bk).lt
 exact Nat.lt_trans ⋯ h
def JS {Q:yM}(p:A.units+1<cLine)(I:aj X pins σ H s)(g:tY H a y o)(m:y6 y u)(h:∀ n,aj X pins σ H n->Q (.bool o.isSome) n) :
 Q0d (Q0i X.prog X.w) A (Q0l .In u (.ref a)) Q E s:=by
 rcases g with ⟨d,k,e,j,l⟩|⟨d,k,b,e,j,r,l⟩
 .subst j
  obtain⟨z,i,t,c,f⟩:=Fj I.hok e
  refine wpAny_in_of (uJ m) i f.mapOf ?_
  rw[<-(c.val k).isSome_eq,<- l]
  exact h _ (I.tok _)
 .subst j
  cases (show u=Q0f b from m)
  obtain⟨z,i,v,c,f⟩:=uC I.hok e
  refine wpAny_in_heap (Ip p) (qj I.hok r) i f ?_
  have q:=(c.val k).isSome_eq
  rw[nG]at q
  rw[<-q,<- l]
  exact h _ (I.tok _)
def znF {Q:yM}(p:A.units+1<cLine)(I:aj X pins σ H s)(g:tY H a y o)(m:y6 y u)(h:∀ n,aj X pins σ H n->Q (.bool (!o.isSome)) n) :
 Q0d (Q0i X.prog X.w) A (Q0l .NotIn u (.ref a)) Q E s:=by
 rcases g with ⟨d,k,e,j,l⟩|⟨d,k,b,e,j,r,l⟩
 .subst j
  obtain⟨z,i,t,c,f⟩:=Fj I.hok e
  refine wpAny_notIn_of (uJ m) i f.mapOf ?_
  rw[<-(c.val k).isSome_eq,<- l]
  exact h _ (I.tok _)
 .subst j
  cases (show u=Q0f b from m)
  obtain⟨z,i,v,c,f⟩:=uC I.hok e
  refine wpAny_notIn_heap (Ip p) (qj I.hok r) i f ?_
  have q:=(c.val k).isSome_eq
  rw[nG]at q
  rw[<-q,<- l]
  exact h _ (I.tok _)
def GK {c:Heap}{t':Nat}(I:aj X pins σ H s)(f:nR (H a))(i:Q0U a s.heap c)(g:∃ q,c.get? a≈q)(d:yU X.prog X.w (aA H a ob) c a ob) :
 aj X pins σ (aA H a ob) { s with heap:=c,toks:=t' } :=
 I.write (x:=a) (e:=a) f (.inl rfl) (λb q h z=>(i.2 b h).trans z) g d
def zrK {w:Q0k}{e:Heap}{b:List (aJ × V)}(z:↥b<=sizeLine)(g:(a == Q0B)=false)(c:KV b d)(f:e.DictOf (xf P w) a d) :
 yU P w H' e a (.dK b):=⟨z,g,d,c,f⟩
def zil {Q:Unit->Q0u->Prop}(T:A.units+1<cLine)(I:aj X pins σ H s)(g:gR H a y v H')(C:y6 y u)(F:y6 v r)(h:∀ J,aj X pins σ H' J->Q () J) :
 Q0d (Q0i X.prog X.w) A (setItem (.ref a) u r) Q E s:=by
 rcases g with ⟨d,k,e,t,l,w⟩|⟨d,k,b,e,t,D,l,w⟩
 .subst t w
  obtain⟨z,o,L,f,n⟩:=Uc I.hok e
  have x:↥L<=sizeLine:=by rw[<-↥f];exact z
  have m:(dw d k v).length<=sizeLine:=by have:=VM d k v;omega
  refine wpAny_setItem_pairs (hsz:=x) (uJ C) n λG i p=>h _ ?_
  have R:∃ q,G.get? a≈q:=let ⟨q,_,_,j,_⟩:=i;⟨q,j⟩
  exact GK I (by rw[e];exact Q0D) p R (zrK m o (f.put k F) i)
 .subst t w
  cases (show u=Q0f b from C)
  obtain⟨z,o,P,f,n⟩:=KC I.hok e
  have x:↥P<=sizeLine:=by rw[<-qp f];exact z
  have m:(dw d k v).length<=sizeLine:=by have:=VM d k v;omega
  refine wpAny_setItem_heap (hsz:=x) (Ip T) (qj I.hok D) n λG i p=>h _ ?_
  obtain⟨q,U,O,j,N,M,K,_,S⟩:=i
  refine GK I (by rw[e];exact Q0D) p ⟨q,j⟩ ⟨m,o,_,(f.put k D F).keeps λc V B=>?_,q,U,O,j,N,M,K,S⟩
  rw[zj (uV B e (λz=>nomatch z))]
  exact B
end
def T5 (b ty c:TE):TS:=λD σ H=>c σ H λv H1=>b σ H1 λx H2=>ty σ H2 λy H3=>∃ a H4,x=.ref a/\gR H3 a y v H4/\D.nx σ H4
section
variable {X:Cx}{o i e value:Expr}{pos pos' tpos:Pos}{td ty tv:TE}
def zna (p:X.A.units+1<cLine)(c:PE X o td)(f:PE X i ty)(w:PE X value tv)(l:Q0q value (some (.Subscript o i pos')) pos.line X.env=pure false) :
 PS X (.Assign [.Subscript o i pos'] value pos) (T5 td ty tv):=by
 intro b s σ H D I h
 refine wpAny_Assign_Subscript (aG (w b s σ H _ I h) λr j ⟨v,H1,I1,k,t⟩=>aG (c b j σ H1 _ I1 t) λu m ⟨x,H2,I2,n,d⟩=>aG (f b m σ H2 _ I2 d) λB z hh9=>?_) l
 obtain⟨y,H3,I3,e,a,H4,ex,g,q⟩:=hh9
 subst ex
 obtain rfl:u=Q0f a:=n
 exact zil p I3 g e k λA I4=>⟨σ,H4,I4,q⟩
end
def zlA {w:Q0k} (h:Heap) (a:Q0B<h.objs.size):yU P w H (h.push { cls:=.type "dict",data:=.dict #[] }) h.objs.size (.dK []) :=
 ⟨cO _,l8.mpr (bh (r4 a)),[],.nil,Heap.DictOf.new h⟩
def Qs {w:Q0k} (h:Heap) (a:Q0B<h.objs.size):yU P w H (h.push { cls:=.type "dict",data:=.dict #[] }) h.objs.size (.dT []) :=
 ⟨cO _,l8.mpr (bh (r4 a)),[],.nil,_,#[],0,j6 _ rfl,⟨rfl,rfl,rfl⟩,rfl,rfl,jY⟩
def U5:TE:=λ_ H Q=>∀ p,H p=none->Q (.ref p) (aA H p (.dK []))
def zqW:TE:=λ_ H Q=>∀ p,H p=none->Q (.ref p) (aA H p (.dT []))
section
variable {X:Cx}{pos:Pos}
def zlD:PE X (.Dict [] [] pos) U5:=λb s σ H Q I h =>
 wpAny_Dict_empty ⟨.ref ⇑s,_,I.laid (a:=⇑s) (o:=.dK []) (t':=s.toks) (λ_ _ q=>u6 _ q) (t6 _) (zlA s.heap I.big),rfl,h _ (I.hok.fresh (t6 _))⟩
def zkY:PE X (.Dict [] [] pos) zqW:=λb s σ H Q I h =>
 wpAny_Dict_empty ⟨.ref ⇑s,_,I.laid (a:=⇑s) (o:=.dT []) (t':=s.toks) (λ_ _ q=>u6 _ q) (t6 _) (Qs s.heap I.big),rfl,h _ (I.hok.fresh (t6 _))⟩
end
structure M1 (X:Cx) (o:Expr) (m:Str) (apos:Pos) (e:Expr) (cpos:Pos):Prop where
 base:Q0F o m X.env (eval o X.env)=eval o X.env
 few:((Q0v cpos (Q0c [e] X.env)).all (λx=>!x.1)&&(Q1N cpos (Q06 [] X.env)).all (λx=>x.1.isSome)
  && decide (([e]:y0).length+([]:List Q2f).length+(if ([]:List Q2f).isEmpty then 0 else 1)<30))=true
 line:(apos.endLine == cpos.line)=true
 trees:Q0v cpos (Q0c [e] X.env)=[(false,eval e X.env)]
def zeC {X:Cx}:vq X (.builtin "isinstance") (λc H Q=>∃ x n t b,c=[x,.ty n]/\dJ X.K H x t/\Q0Y X.K t (.type n)≈b/\Q (.bl b) H):=by
 intro a s σ H c i Q I r h
 obtain⟨x,n,t,b,rfl,ty,e,q⟩:=h
 obtain⟨u,d,rfl,f,rt⟩:=lZ r
 cases (show d=Q0A n from rt)
 exact zhc I f ty e λg=>⟨.bl b,H,I.tok _,rfl,q⟩
def zkp:aQ X (Q0l .Is) (λx y H Q=>∃ i j,x=.bl i/\y=.bl j/\Q (.bl (i == j)) H):=by
 intro a s σ H x y v u Q I b c h
 obtain⟨i,j,rfl,rfl,q⟩:=h
 cases b
 cases c
 refine wpAny_is_plain (by rfl) ⟨.bl (i == j),H,I,?_,q⟩
 cases i <;> cases j <;> rfl
def zdZ:aQ X (Q0l .IsNot) (λx y H Q=>∃ i j,x=.bl i/\y=.bl j/\Q (.bl (!(i == j))) H):=by
 intro a s σ H x y v u Q I b c h
 obtain⟨i,j,rfl,rfl,q⟩:=h
 cases b
 cases c
 refine wpAny_isNot_plain (by rfl) ⟨.bl (!(i == j)),H,I,?_,q⟩
 cases i <;> cases j <;> rfl
def Lg (K:zA):R2:=λx y H Q=>∃ a b c d,x=.ref a/\y=.ref b/\aM K H a c/\aM K H b d/\↥c+↥d<=sizeLine /\
 (c=[]->Q (.ref b) H)/\(c≠[]->d=[]->Q (.ref a) H)/\(c≠[]->d≠[]->∀ p,H p=none->Q (.ref p) (aA H p (.tup (c++d))))
def zlH {X:Cx}:aQ X (Q0O .Add) (Lg X.K):=by
 intro g s σ H x y v u Q I D q h
 obtain⟨a,b,w,K,rfl,rfl,z,t,P,M,O,F⟩:=h
 by_cases j:w=[]
 .subst j
  cases D
  cases q
  obtain⟨E,r,p,_⟩:=I.tuple z
  obtain⟨i,R,N,_⟩:=I.tuple t
  cases r
  obtain⟨⟨cls,L,data,J⟩,o,C,n,B⟩:=id p
  obtain⟨⟨A,k,m,l⟩,d,c,G,f⟩:=id N
  simp only at C B c f
  subst C B c f
  exact concat_meets ⟨_,o,rfl⟩ ⟨_,d,rfl⟩ Q1O seq_tuple_add Jp Jj (Jl _ _)
   (tuple_addW0 a b #[] i.toArray n G L k J l rfl) ⟨o,d,⟨.ref b,H,I,rfl,M rfl⟩⟩
 .refine zok g s σ H (.ref a) (.ref b) v u Q I D q ⟨a,b,w,K,rfl,rfl,z,t,j,P,?_⟩
  exact⟨λe=>O j e,λe=>F j e⟩
inductive ZI:St->St->Prop where
 |nil:ZI [] []
 |non {a:Option V} {s t:St}:ZI s t->ZI (none::s) (a::t)
 |same {a:Option V} {s t:St}:ZI s t->ZI (a::s) (a::t)
def ZI.refl:∀ s:St,ZI s s
 |[]=>.nil
 |_::r=>.same (ZI.refl r)
def ZI.length {s t:St}(h:ZI s t):↥s=↥t:=by
 induction h with
 |nil=>rfl
 |non _ a=>simp[a]
 |same _ a=>simp[a]
def ZI.get {t:St}(h:ZI s t):∀ (i:Nat) (v:V),s[i]?≈(some v)->t[i]?≈(some v):=by
 induction h with
 |nil=>intro i v e;exact e
 |non _ a =>
  intro i v e
  cases i with
  |zero=>simp at e
  |succ i=>simpa using a i v (by simpa using e)
 |same _ a =>
  intro i v e
  cases i with
  |zero=>simpa using e
  |succ i=>simpa using a i v (by simpa using e)
def ZI.set {n:Nat}:∀ {s t:St},ZI s t->s[n]?≈none->ZI s (t.set n (some v))
 |_,_,.nil,_=>.nil
 |_,_,.non (a:=a) h,e=>by
  cases n with
  |zero=>exact .non h
  |succ n=>exact .non (ZI.set h (by simpa using e))
 |_,_,.same (a:=a) h,e=>by
  cases n with
  |zero =>
   have b:a=none:=by simpa using e
   subst b
   exact .non h
  |succ n=>exact .same (ZI.set h (by simpa using e))
def aj.sub (I:aj X a σ H s)(h:ZI b σ):aj X a b H s:=I.weak ↥h h.get
def lz (X:Cx)(b:y0)(t:TT):Prop :=
 ∀ (a:xz) (s:zm) (σ:St) (H:Hp) (Q:Bool->Hp->Prop),aj X a σ H s->t σ H Q ->
  Q0d (Q0i X.prog X.w) X.A (forIn b true λc r=>if r then do let ok<-isTrue c X.env (eval c X.env);pure (Q0T ok)else pure (Q0T r)) (TP X a σ Q) X.xe s
def rE:TT:=λ_ H Q=>Q true H
def Pj:lz X [] rE:=by
 intro a s σ H Q I h
 rw[mU]
 exact t4 ⟨H,I,h⟩
def Ou {t:TT}(d:PT X c t):lz X [c] t:=by
 intro a s σ H Q I h
 rw[mV]
 refine u3 ?_
 rw[t5 rfl]
 refine u3 (aG (d a s σ H Q I h) λb e q=>t4 ?_)
 show Q0d _ _ (forIn [] b _) _ _ _
 rw[mU]
 exact t4 q
section
variable {prog:zO}{w:Q0k}{A:zP}{R:Result->Q0u->Prop}{s:zm}
def wP {f:Expr}{k:Pos}{g:Q0e}(I:Nat->Q0u->Prop) (turn:∀ n s,I n s->Q0d (Q0i prog w) A (Q1o l) (λr p=>match r with
 |none=>R (.ok .next) p
 |some v=>Q0d (Q0i prog w) A (Q1n a l v) (λ_ j=>Q0d (Q0i prog w) A (Q2v a env v) (λ_ t =>
  Q0d (Q0i prog w) A (forIn i true λc r=>if r then do let ok<-isTrue c env (eval c env);pure (Q0T ok)else pure (Q0T r)) (λok o =>
   if ok then Q0d (Q0i prog w) A (eval f env) (λx u =>
    Q0d (Q0i prog w) A (call (.builtin "list.append") [g,x]) (λ_ y=>∃ m,m<n/\I m y) (λ_ _=>False) u) (λ_ _=>False) o
   else ∃ m,m<n/\I m o) (λ_ _=>False) t) (λ_ _=>False) j) (λ_ _=>False) p) (λ_ _=>False) s) (n:Nat) (h:I n s) :
 Q05 (Q0i prog w) A (.compLoop (.ListComp f [⟨a,e,i,0⟩] b k) 0 l g env) R s:=by
 refine codeAny_loop rfl I (λn s D=>?_) n h
 show Q0d _ A ((compTurn (.ListComp f [⟨a,e,i,0⟩] b k) 0 l g env).onRaise (λx=>do noteFrame x env;theTreesLotGoes x)) _ _ s
 refine wpAny_noted ?_
 rw[compTurn_list]
 refine u3 (wpAny_standAt (u3 (cG (turn n s D) (λr p z=>?_) λ_ _ d=>d.elim)))
 cases r with
 |none=>exact t4 z
 |some v =>
  refine u3 (cG z (λ_ j q=>?_) λ_ _ d=>d.elim)
  refine u3 (cG q (λ_ t E=>u3 (cG E (λok o B=>?_) λ_ _ d=>d.elim)) λ_ _ d=>d.elim)
  cases ok with
  |false=>exact t4 ⟨rfl,B⟩
  |true =>
   exact u3 (u3 (cG B (λx u F=>u3 (cG F (λ_ y C=>t4 (t4 ⟨rfl,C⟩)) λ_ _ d=>d.elim)) λ_ _ d=>d.elim))
end
def nJ (h:TI)(n:Nat)(g:TG)(f:TT)(e:TE):TE:=fun σ H Q=>h σ H λJ H1=>∀ D,H1 D=none->∃ W:Nat->Nat->zD->Hp->Prop,(∃ m,W 0 m [] (aA H1 D (.lst []))) /\
 ∀ i m a H2,W i m a H2->(J.stop i H2/\Q (.ref D) H2)\/(J.go i H2/\↥a<sizeLine/\∀ x H3,J.yld i H2 x H3->g x (Q0a n none++σ) H3 λd H4=>f d H4 λb H5 =>
  if b then e d H5 λy H6=>H6 D≈(.lst a)/\∃ c,c<m/\W (i+1) c (a++[y]) (aA H6 D (.lst (a++[y])))else ∃ c,c<m/\W (i+1) c a H5)
def vI {α:Type}:∀ {l:List (Str × α)} {y:Str},y∈l.map Q2O->∃ c,l.lookup y≈c
 |[],_,h=>by simp at h
 | (k,v)::r,y,h=>by
  by_cases e:y=k
  .exact⟨v,by simp[Q0W,e]⟩
  .obtain⟨c,b⟩:=vI (l:=r) (y:=y) (by simpa [e]using h)
   have a:(y == k)=false:=l8.mpr e
   exact⟨c,by simp only[Q0W,a];exact b⟩
def yI {α:Type}{P:α->Prop}:∀ p∈([]:List α),P p:=λ_ h=>nomatch h
def all_cons {α:Type}{P:α->Prop}{a:α}{l:List α}(h:P a)(t:∀ p∈l,P p):∀ p∈a::l,P p:=λp b=>by
 rcases t9.mp b with e|b
 .rw[e];exact h
 .exact t p b
def dI (σ:St)(v:V)(H:Hp)(Q:wS)(h:Zi 0 v (Q0a 1 none++σ) H Q):Zi 0 v (Q0a 1 none++σ) H (λa H2=>ZI (Q0a 1 none++σ) a/\Q a H2):=⟨.set (.refl _) rfl,h⟩
def JN {K:zA}(σ:St)(v:V)(H:Hp)(Q:wS)(h:ue K 2 (jQ (Zi 0) (jQ (Zi 1) tU)) v (Q0a 2 none++σ) H Q) :
 ue K 2 (jQ (Zi 0) (jQ (Zi 1) tU)) v (Q0a 2 none++σ) H (λb H2=>ZI (Q0a 2 none++σ) b/\Q b H2):=by
 obtain⟨a,f,e,j,i,x,r,k,y,d,c,g,q⟩:=h
 exact⟨a,f,e,j,i,x,r,k,y,d,c,g,.set (.set (.refl _) rfl) rfl,q⟩
def WK (X:Cx)(L M:zF)(a:Scope)(b:Zg)(s₀:zm)(H₀:Hp)(ex:xt)(pn:xz):Cx :=
 { X with N:=L++M,s₀:=s₀,H₀:=H₀,env:=compEnvC a b ⇑s₀ X.env,outer:=X.stack,stack:=X.stack,ex:=ex,fn:=λ_=>false,pn:=pn,xe:=λ_ _=>False }
structure x5 (X:Cx) (L M:zF) (scope:Scope) (cl:Zg):Prop where
 clos:Q1F scope X.env=pure cl
 cell:∀ y∈scope.names,y.2≠.cell
 kind:scope.kind=.function
 names:∀ y∈scope.names,y.2=.local->scope.names.lookup y.1≈.local
 sub:∀ y c,cl.lookup y≈c->X.env.cells.lookup y≈c
 has:∀ y,((Q0S scope X.env).names.lookup y≈.cell\/(Q0S scope X.env).names.lookup y≈.free)->∃ c,cl.lookup y≈c
 mlen:↥M=X.N.length
 msk:∀ (i:Nat) y,M[i]?≈y->bR (Q0S scope X.env) y->X.N[i]?≈y
 vis:∀ (i:Nat) y,M[i]?≈y->bR (Q0S scope X.env) y->((Q0S scope X.env).names.lookup y≈.cell\/(Q0S scope X.env).names.lookup y≈.free)
 out:∀ (i:Nat) y,M[i]?≈y->bR (Q0S scope X.env) y->bR X.env.scope y/\X.env.kindOf y≠some .local
def aj.letGo {s:zm}(I:aj X a σ H s)(f:cZ X a H C)(g:Q0U C s.heap j):aj X a σ H { s with heap:=j }:=by
 obtain⟨k,m,x,l,u,r⟩:=f
 have h:∀ b,b∉[C]->b≠C:=λb i z=>i (by rw[z];exact t7.mpr rfl)
 refine I.call' (s':={ s with heap:=j }) (ch:=[C]) rfl ⟨λb o e _ _ d=>(g.2 b (h b d)).trans e,λb o e _ _ d=>⟨o.slots,(g.2 b (h b d)).trans e⟩,λ_ _ _ n _=>n,λb o e d=>⟨o,(g.2 b (h b d)).trans e⟩,λ_ _ q=>q,λ_ _ _ q=>q,λ_ w q=>⟨#[],by rw[q];simp⟩⟩ ?_ I.bare λb i=>?_
 .intro b p e
  refine(I.hok b p e).stay (λc v t q=>(g.2 c ?_).trans q) (λ_ q=>q) λ_ _ q=>q
  rintro rfl
  rcases t with z|z
  .rw[<-z,k]at e;cases e
  .rw[k]at z;cases z
 .rw[t7.mp i]
  exact⟨l,m,u,r⟩
def NZ {X:Cx}{t:Expr}{L:zF}{g:TG}{tt:TT}(hc:X.calm=true)(S:x5 X L M a cl)(hi:PI X tg t wi)(d2:∀ (σ:St) (v:V) (H:Hp) (Q:wS),g v (Q0a ↥L none++σ) H Q->g v (Q0a ↥L none++σ) H (fun σ2 H2=>ZI (Q0a ↥L none++σ) σ2/\Q σ2 H2))(hg:∀ s₀ H₀ ex pn,PG (WK X L M a cl s₀ H₀ ex pn) tg g)(ht:∀ s₀ H₀ ex pn,lz (WK X L M a cl s₀ H₀ ex pn) b4 tt)(he:∀ s₀ H₀ ex pn,PE (WK X L M a cl s₀ H₀ ex pn) a6 te)(hs:∀ x,Q0m t X.env x=pure x:=by intro _;rfl) :
 ∀ (Z:Pos) (f:xz) (s:zm) (σ:St) (H:Hp) (Q:VK),aj X f σ H s->nJ wi ↥L g tt te σ H Q ->
  (∀ (D C:Addr) (H':Hp) (F:zm),aj X f σ H' F->(∃ m,F.heap.Ns C m)->cZ X f H' C->Q (.ref D) H'->Q2w (Q0i X.prog X.w) X.A X.xe use Qf (.ref D) C (.ok .next) F) ->
  Q0d (Q0i X.prog X.w) X.A (comprehension (.ListComp a6 [⟨tg,t,b4,0⟩] a b7) a X.env Z (newList []) false (eval t X.env) use) Qf X.xe s:=by
 intro Z f s σ H Q I h fin
 refine wpAny_comprehension_free (use:=use) rfl hs S.clos S.kind S.names (aG (hi f s σ H _ I h) λv s1 h1=>aG h1 λe8 l h2=>?_)
 obtain⟨it,E,tn,J,H2,e,I2,T,c7,f2,q⟩:=h2
 subst e
 have hD:H2 ⇑l=none:=I2.hok.fresh (t6 _)
 obtain⟨W,⟨m0,w0⟩,turn⟩:=q _ hD
 refine l9 (wpAny_newFunctionEnv S.cell (by intro y hy;simp at hy) (λh₁ N U=>?_) S.kind)
 have I3:aj X f σ (aA H2 ⇑l (.lst [])) { l with heap:=l.heap.push { cls:=.type "list",data:=.seq ([]:zC).toArray } }:=by
  refine I2.laid (t':=l.toks) (λb u e=>u6 _ e) (t6 _) ?_
  exact⟨cO _,[],0,.nil,j6 _ rfl⟩
 generalize c3:({ l with heap:=l.heap.push { cls:=.type "list",data:=.seq ([]:zC).toArray } }:zm)=s3 at I3 N U ⊢
 have O:∀ b∈E,b<⇑l:=λb j=>by
  obtain⟨o,ho,_⟩:=T.obj _ _ c7 b j
  exact j4 ho
 have e6:⇑s3=⇑l+1:=by rw[<-c3];exact s0 ..
 have d3:∀ b o,l.heap.get? b≈o->s3.heap.get? b≈o:=λb o e=>by rw[<-c3];exact u6 _ e
 have w:∀ b o,s3.heap.get? b≈o->h₁.get? b≈o:=λb o e=>(U.2 b (r4 (j4 e))).trans (u6 _ e)
 generalize d9:aA H2 ⇑l (.lst [])=H3 at I3 w0
 have c5:∀ b∈E,H3 b=none:=λb j=>by
  rw[<-d9,zj (r4 (O b j))]
  exact(f2 b j).1
 have c9:∀ b∈E,b∉bM X.stack:=λb j z=>by
  obtain⟨_,n1,n2,_⟩:=f2 b j
  rcases t9.mp (I3.stkSub b z)with e|e
  .exact n1 e
  .exact n2 e
 let Y:Cx:=WK X L M a cl s3 H3 E (X.pn++f)
 have OkY:Y.Ok:=by
  refine⟨I.ok.mod,S.kind,I.ok.glob,I.ok.blt,t6 _,λx y c h1 h2=>I.ok.inj x y c (S.sub x c h1) (S.sub y c h2),λx hx=>S.has x hx,(λx c h _=>absurd h u7),I.ok.hd,I.ok.frames,.inl rfl,λb j=>⟨?_,λx c e z=>?_⟩,
   λb o e=>I3.bs b o e,k8 I.ok.bsz I3.sz,λb o e j=>?_,c9,I3.stack,I3.stkFree⟩
  .show b≠⇑s3
   exact r4 (q5 (O b j) (by rw[e6];exact eX _))
  .exact(f2 b j).2.2.2.2.1 x c (S.sub x c e) z
  .rcases(f2 b j).2.2.2.1 with z|z
   .exact I.ok.noex b o e z
   .have h1:=j4 e
    have h2:=I.ok.bsz
    exact absurd (q5 h1 (k8 h2 z)) (dW _)
 have I4:aj Y [] (Q0a ↥L none++σ) H3 { s3 with heap:=h₁,toks:=s3.toks+([]:List (Str × Q0e)).length }:=by
  refine⟨OkY,rfl,I3.bare,Un.kept w,⟨_,N,λi y v e1 e2 e3=>?_⟩,λx c e=>?_,I3.hok.fresh (t6 _),λx c e=>I3.freeC x c (S.sub x c e),λp hp=>?_,I3.hok.kept w,?_⟩
  .have hi:¬ i<↥L:=λd6=>by
    rw[l0 (by simpa using d6),p8]at e2
    split at e2 <;> cases e2
   have b0:M[i-↥L]?≈y:=by
    have e1:(L++M)[i]?≈y:=e1
    rw[p6 ∅]at e1
    exact e1
   have d7:σ[i-↥L]?≈(some v):=by rw[p6 (by simpa using jx hi)]at e2;simpa using e2
   have d8:=S.msk _ y b0 e3
   obtain⟨ov,ok⟩:=S.out _ y b0 e3
   obtain⟨m,hn,hl⟩:=I3.loc
   obtain⟨u,ru,lk⟩:=hl _ y v d8 d7 ov
   refine⟨u,ru,?_⟩
   rcases lk with ⟨hk,_⟩|⟨_,c,d4,a9⟩
   .exact absurd hk ok
   .have kn:=S.vis _ y b0 e3
    obtain⟨c',c0⟩:=S.has y kn
    have:=S.sub y c' c0
    rw[d4]at this
    cases this
    refine .inr ⟨kn,c,c0,?_⟩
    obtain⟨o,ho,hd⟩:=a9
    exact⟨o,w _ _ ho,hd⟩
  .obtain⟨v,o,ho,hd⟩:=I3.cell x c (S.sub x c e)
   exact⟨v,o,w _ _ ho,hd⟩
  .have a7:p∈X.pn++f:=p7 (X.pn++f) ▸ hp
   obtain⟨a1,a2,a3,a4,a5⟩:=I3.pin p a7
   refine⟨w _ _ a1,a2,r4 (j4 a1),λz=>?_,a5⟩
   rcases t9.mp (I3.stkSub p.1 z)with e|e
   .exact a3 e
   .exact a4 e
  .show(Q0a ↥L none++σ).length=(L++M).length
   rw[j9,j9,jt,I.len,S.mlen]
 have a8:∀ {H':Hp},(∀ b∈E,H' b=none)->∀ b∈E,cZ Y [] H' b:=λ{H'} hn b j=>by
  refine⟨hn b j,(OkY.exf b j).1,c9 b j,.inl j,(OkY.exf b j).2,λp hp=>?_⟩
  have a7:p∈X.pn++f:=p7 (X.pn++f) ▸ hp
  exact(f2 b j).2.2.2.2.2 p a7
 have b5:tn 0 h₁:=T.keep _ _ _ c7 λb j o e=>w b o (d3 b o e)
 -- behind the B
 have c8:∀ (H':Hp) (F:zm),aj Y [] (Q0a ↥L none++σ) H' F->Q (.ref ⇑l) H'->Q2w (Q0i X.prog X.w) X.A X.xe use Qf (.ref ⇑l) ⇑s3 (.ok .next) F:=λH' F J' q'=>by
  obtain⟨m,hn,_⟩:=J'.loc
  refine fin _ _ H' F (I3.call' (ch:=E) J'.os J'.base J'.hok J'.bare λb j=>?_) ⟨m,hn⟩ (I3.fpOk (t6 _) J'.free) q'
  obtain⟨_,n1,_,n3,n4,n5⟩:=f2 b j
  exact⟨n3,n1,n4,n5⟩
 have B:Q05 (Q0i X.prog X.w) X.A (.compLoop (.ListComp a6 [⟨tg,t,b4,0⟩] a b7) 0 (.ref it) (.ref ⇑l) (compEnvC a cl ⇑s3 X.env))
  (Q2w (Q0i X.prog X.w) X.A X.xe use Qf (.ref ⇑l) ⇑s3) { s3 with heap:=h₁,toks:=s3.toks+([]:List (Str × Q0e)).length }:=by
  refine wP (λn F=>∃ i K H',aj Y [] (Q0a ↥L none++σ) H' F/\tn i F.heap/\(∀ b∈E,H' b=none)/\W i n K H') ?_ m0 ⟨0,[],H3,I4,b5,c5,w0⟩
  rintro n s5 ⟨i,K,H5,I5,c6,c4,w5⟩
  rcases turn i n K H5 w5 with ⟨b9,qn⟩|⟨go,b8,step⟩
  .refine aG (T.done Y rfl rfl rfl hc i [] s5 _ H5 _ I5 (a8 c4) c6 b9) λr s6 hh9=>?_
   obtain⟨hr,I6⟩:=hh9
   subst hr
   exact c8 H5 s6 I6 qn
  .refine aG (T.item Y rfl rfl rfl hc i [] s5 _ H5 _ I5 (a8 c4) c6 go) λr s6 hh9=>?_
   obtain⟨u,hr,h6⟩:=hh9
   subst hr
   refine aG h6 λ_ s7 hh9=>?_
   obtain⟨x,H7,I7,r7,y7,a0,d1⟩:=hh9
   have I7':=I7.pinned (a8 d1) (T.obj _ _ a0)
   have g7:=d2 σ x H7 _ (step x H7 y7)
   refine aG (hg _ _ _ _ _ s7 _ H7 x u _ I7' r7 g7) λ_ s8 hh9=>?_
   obtain⟨σ8,H8,I8,P,q8⟩:=hh9
   have again:∀ {σ9:St} {H9:Hp} {s9:zm} {zs:zD},aj Y ([]++X0 E s7.heap) σ9 H9 s9->ZI (Q0a ↥L none++σ) σ9->(∃ m',m'<n/\W (i+1) m' zs H9) ->
    ∃ m,m<n/\∃ i K H',aj Y [] (Q0a ↥L none++σ) H' s9/\tn i s9.heap/\(∀ b∈E,H' b=none)/\W i m K H':=λ{σ9 H9 s9 zs} I9 sub9 w9=>by
    obtain⟨m',hm,w9⟩:=w9
    refine⟨m',hm,i+1,zs,H9,(I9.sub sub9).unpinned,T.keep _ _ _ a0 λb j o e=>(I9.pin (b,o) (r9 _ (r9 _ (wb j e)))).1,λb j=>?_,w9⟩
    obtain⟨o,e,d⟩:=T.obj _ _ a0 b j
    exact(I9.pin (b,o) (r9 _ (r9 _ (wb j e)))).2.1
   refine aG (ht _ _ _ _ _ s8 σ8 H8 _ I8 q8) λb s9 hh9=>?_
   obtain⟨H9,I9,q9⟩:=hh9
   cases b with
   |false =>
    rw[j5 u7]at q9
    rw[j5 u7]
    exact again I9 P q9
   |true =>
    rw[t5 rfl]at q9
    rw[t5 rfl]
    refine aG (he _ _ _ _ _ s9 σ8 H9 _ I9 q9) λy G hh9=>?_
    obtain⟨yv,H10,I10,d5,R,e4⟩:=hh9
    obtain⟨e5,A,k,rv,e0⟩:↥K<=sizeLine/\∃ (A:zC) (n:Nat),yy K A/\G.heap.get? ⇑l≈{ cls:=.type "list",data:=.seq A.toArray n }:=I10.hok _ _ R
    have c1:G.heap.PlainList ⇑l A.toArray:=⟨k,e0⟩
    refine wpAny_list_append_plain (hsz:=by rw[j0,<- ↥rv];exact e5) c1 λe7 d0 c2=>?_
    obtain⟨k',b6⟩:=d0
    have I11:aj Y ([]++X0 E s7.heap) σ8 (aA H10 ⇑l (.lst (K++[yv]))) { G with heap:=e7 }:=by
     refine I10.write (x:=⇑l) (e:=⇑l) (t':=G.toks) (by rw[R];exact Q0D) (.inl rfl) (λb u j e=>(c2.2 b j).trans e) ⟨_,b6⟩ ?_
     refine⟨by rw[j9];show ↥K+1<=sizeLine;exact b8,A++[y],k',rv.append (.cons d5 .nil),?_⟩
     rw[b6]
     simp
    exact again I11 P e4
 exact codeAny_compStart_list B (T.self _ 0 _ _ _ b5 B)
def La {X:Cx}{L:zF}{k:Pos}{g:TG}(y:X.calm=true)(S:x5 X L M a i)(t:PI X l b o)(j:∀ (σ:St) (v:V) (H:Hp) (Q:wS),g v (Q0a ↥L none++σ) H Q->g v (Q0a ↥L none++σ) H (λp H2=>ZI (Q0a ↥L none++σ) p/\Q p H2))(z:∀ s₀ H₀ ex pn,PG (WK X L M a i s₀ H₀ ex pn) l g)(A:∀ s₀ H₀ ex pn,lz (WK X L M a i s₀ H₀ ex pn) e n)(u:∀ s₀ H₀ ex pn,PE (WK X L M a i s₀ H₀ ex pn) c r)(B:∀ x,Q0m b X.env x=pure x:=by intro _;rfl) :
 PE X (.ListComp c [⟨l,b,e,0⟩] a k) (nJ o ↥L g n r):=by
 intro d s σ H Q I h
 rw[eval_ListComp]
 refine NZ y S t j z A u B _ d s σ H Q I h λD C H' G I' ⟨m,w⟩ f q=>⟨m,w,λF E=>⟨.ref D,_,I'.letGo f E,rfl,q⟩⟩
def UG {i:Nat}{t n:Pos}{X:Cx}{L:zF}{w:Zg}{k:Pos}{g:TG}(hN:X.N.Nodup)(G:X.N[i]?≈x)(W:eF X.env.scope x)(Y:X.calm=true)(S:x5 X L M a w)(T:PI X u c O)(E:∀ (σ:St) (v:V) (H:Hp) (Q:wS),g v (Q0a ↥L none++σ) H Q->g v (Q0a ↥L none++σ) H (λy H2=>ZI (Q0a ↥L none++σ) y/\Q y H2))(hg:∀ s₀ H₀ ex pn,PG (WK X L M a w s₀ H₀ ex pn) u g)(ht:∀ s₀ H₀ ex pn,lz (WK X L M a w s₀ H₀ ex pn) l J)(U:∀ s₀ H₀ ex pn,PE (WK X L M a w s₀ H₀ ex pn) j R)(hs:∀ x,Q0m c X.env x=pure x:=by intro _;rfl)(A:Q0q (.ListComp j [⟨u,c,l,0⟩] a k) (some (.Name x t)) n.line X.env=pure true:=by rfl)(hf:X.fn x=true\/X.env.scope.names.lookup x≈.local:=by first|exact .inl rfl|exact .inr rfl|assumption) :
 PS X (.Assign [.Name x t] (.ListComp j [⟨u,c,l,0⟩] a k) n) (lF (nJ O ↥L g J R) (Zi i)):=by
 intro p s σ H D I h
 rw[exec_Assign_Name_used _ _ _ _ A]
 refine u3 (wpAny_standAt (u3 ?_))
 show Q0d _ X.A (do let _<-comprehension (.ListComp j [⟨u,c,l,0⟩] a k) a X.env _ (newList []) false (eval c X.env) (some (Q2v (.Name x t) X.env))) _ _ s
 refine u3 (aG (NZ (use:=some (Q2v (.Name x t) X.env)) (Qf:=λ_ r=>SP X p D .next r) Y S T E hg ht U hs _ p s σ H _ I h λD' C H' r I' ⟨m,N⟩ f q=>?_) λ_ r hq=>t4 (t4 hq))
 have B:∀ b∈[C],∃ o,r.heap.get? b≈o/\∀ v,o.data≠.cell v:=λb F=>by
  rw[t7.mp F]
  obtain⟨o,P,K,e,d,_⟩:=N
  exact⟨o,e,λv z=>by rw[z]at d;cases d⟩
 have I2:=I'.pinned (fp:=[C]) (λb F=>by rw[t7.mp F];exact f) B
 refine aG (zT (pos:=t) hN G W hf _ r σ H' (.ref D') (.ref D') _ I2 rfl q) λ_ s2 hh9=>?_
 obtain⟨y,H2,I3,Z⟩:=hh9
 obtain⟨o,P,K,e,d⟩:=N
 have pn:=I3.pin (C,o) (r9 _ (r9 _ (wb (t7.mpr rfl) e)))
 exact⟨m,⟨o,P,K,pn.1,d⟩,λh' sb=>⟨y,H2,I3.unpinned.letGo ⟨pn.2.1,f.2⟩ sb,Z⟩⟩
def Ze (names a b:List (Str × NameKind))(N M c:zF):Bool :=
 names.all (λy=>decide (y.2≠.cell))&&names.all (λy=>decide (y.2=.local->names.lookup y.1≈.local)) &&
 a.all (λy=>decide ((y.2=.cell\/y.2=.free)->y.1∈c)) &&
 (↥M == ↥N)&&(M.zip N).all (λp=>decide ((a.lookup p.1≈.local\/a.lookup p.1≈.cell\/a.lookup p.1≈.free)->p.1=p.2)) &&
 M.all (λy=>decide ((a.lookup y≈.local\/a.lookup y≈.cell\/a.lookup y≈.free) ->
  (a.lookup y≈.cell\/a.lookup y≈.free)/\(b.lookup y≈.local\/b.lookup y≈.cell\/b.lookup y≈.free)/\b.lookup y≠some .local))
def wy {X:Cx}{N:zF}{a:Scope}{j:Zg}(g:(Q0S a X.env).names=r)(o:X.env.scope.names=m)(s:X.N=N)(d:Q1F a X.env=pure j)(kind:a.kind=.function)(B:j.map Q2O=l)(b:Ze a.names r m N M l=true)(k:∀ p∈j,X.env.cells.lookup p.1≈p.2):x5 X L M a j:=by
 unfold Ze at b
 simp only[k9,l5,k7]at b
 obtain⟨⟨⟨⟨⟨E,A⟩,q⟩,f⟩,w⟩,t⟩:=b
 have f:↥M=↥N:=by simpa using f
 refine⟨d,E,kind,A,λy c h=>k (y,c) (i0 h),λy h=>?_,by rw[s];exact f,λi y e v=>?_,λi y e v=>?_,λi y e v=>?_⟩
 .rw[g]at h
  have C:y∈l:=by
   rcases h with h|h
   .exact q _ (i0 h) (.inl rfl)
   .exact q _ (i0 h) (.inr rfl)
  exact vI (by rw[B];exact C)
 .unfold bR at v
  rw[g]at v
  have z:=(t8.mp e).1
  have n:i<↥N:=by rw[<-f];exact z
  have u:(M.zip N)[i]?≈(y,N[i]):=by
   rw[Sg]
   exact⟨e,j7 n⟩
  have:=w _ (k6 u) v
  rw[s,j7 n]
  exact bJ some this.symm
 .unfold bR at v
  rw[g]at v ⊢
  exact(t y (k6 e) v).1
 .unfold bR at v
  rw[g]at v
  obtain⟨_,x,D⟩:=t y (k6 e) v
  refine⟨?_,?_⟩
  .unfold bR;rw[o];exact x
  .show X.env.scope.names.lookup y≠_;rw[o];exact D
end L2
namespace PySem
open Sem (wp)
open AutoSeq1 (wpAny_loadPart')
section
variable {prog:zO}{w:Q0k}{A:zP}{E:yM}{s:zm}
def YX {items}{Q:yM}(hit:s.heap.IsTupleIter a l i)(hl:s.heap.IsTuple l items)(hx:items[i]?≈x)(hQ:∀ f,f.IsTupleIter a l (i+1)->Q0U a s.heap f->Q x { s with heap:=f }) :
 Q0d (Q0i prog w) A (Q0r (.ref a)) Q E s:=by
 obtain⟨o,c,g,b⟩:=id hit
 obtain⟨h,e,_,j,d⟩:=hl
 unfold Q0r
 refine u3 (p9 (name:=Q0b "__next__") hit.typeIs CT
  (fG CT hit.typeIs F.entry_tuple_iterator_next ?_ (F.args_tuple_iterator_next_1 _)))
 show Q0d _ _ (field (.ref a) 0>>=_) _ _ s
 refine u3 (dj c b (x:=.ref l) rfl ?_)
 show Q0d _ _ (if (Q0f l == Q0z) then _ else _) _ _ s
 rw[j5 (show ¬ ((Q0f l == Q0z)=true)from u7)]
 show Q0d _ _ (field (.ref a) 1>>=_) _ _ s
 refine u3 (dj c b (x:=.int i 0) rfl ?_)
 show Q0d _ _ (Q2y (.ref l)>>=_) _ _ s
 refine u3 (gG e d ?_)
 simp only[jy,hx]
 refine u3 (Ca c b (by simp) (t4 ⟨x,rfl,t4 (hQ _ ?_ (Cw ..))⟩))
 exact⟨_,i6 _ c (Obj.isFreed_of_fields (Ck b _)),(Obj.cls_mapFields ..).trans g,by
  rw[Ck b];simp[Q1H]⟩
def wQ {items} (hh:A.handled=none) (hit:s.heap.IsTupleIter b l i) (hl:s.heap.IsTuple l items) (hx:items[i]?=none) (hE:∀ g e,Heap.ExtBut b s.heap g->(∃ o,g.get? e≈o/\o.cls=.type "StopIteration")->E (.ref e) { s with heap:=g }) :
 Q0d (Q0i prog w) A (Q0r (.ref b)) Q E s:=by
 obtain⟨o,f,n,h⟩:=id hit
 obtain⟨j,d,_,k,c⟩:=hl
 unfold Q0r
 refine u3 (p9 (name:=Q0b "__next__") hit.typeIs CT
  (fG CT hit.typeIs F.entry_tuple_iterator_next ?_ (F.args_tuple_iterator_next_1 _)))
 show Q0d _ _ (field (.ref b) 0>>=_) _ _ s
 refine u3 (dj f h (x:=.ref l) rfl ?_)
 show Q0d _ _ (if (Q0f l == Q0z) then _ else _) _ _ s
 rw[j5 (show ¬ ((Q0f l == Q0z)=true)from u7)]
 show Q0d _ _ (field (.ref b) 1>>=_) _ _ s
 refine u3 (dj f h (x:=.int i 0) rfl ?_)
 show Q0d _ _ (Q2y (.ref l)>>=_) _ _ s
 refine u3 (gG d c ?_)
 simp only[jy,hx]
 refine u3 (iI (u3 (Ca f h (by simp) ?_)))
 show Q0d _ _ (newExc (.type "StopIteration") []>>=_) _ _ _
 refine u3 ?_
 simp only[newExc,newTuple]
 refine u3 (l9 ?_ (by size_fits))
 refine u3 (m:=Q1z _ _) (wpAny_of_eq (a:=Q0z) (by first|rfl | (simp only[Q1z];rfl)) ?_)
 refine l9 ?_ (by size_fits)
 simp only[raiseNew]
 refine u3 (wpAny_handled ?_)
 first|rw[show A.in1.handled=none from hh]|rw[hh]
 refine u3 (t4 (wpAny_throw ?_))
 exact hE _ _ (((Cw ..).extBut.push _).push _) ⟨_,j6 _ rfl,rfl⟩
end
def Zk {c:zO}{w:Q0k}{A:zP}{E:yM}{s:zm}{e d l:Addr}{i:Nat}{a:wc}{h:Q0e}{Q:Option Q0e->Q0u->Prop}(v:A.handled=none)
 (m:IsEnum s.heap e d i h) (g:s.heap.IsTupleIter d l i) (p:s.heap.IsTuple l a) (r:a[i]?=none)
 (q:∀ k,Heap.ExtBut d s.heap k->Q none { s with heap:=k }):Q0d (Q0i c w) A (Q1o (.ref e)) Q E s:=by
 have n:s.TypeIs (.ref e) "enumerate":=⟨_,m,rfl⟩
 unfold Q1o
 refine u3 (jr (p9 (name:=Q0b "__next__") n F.slot_enumerate_next
  (fG F.slot_enumerate_next n F.entry_enumerate_next ?_ (F.args_enumerate_next_1 _))))
 show Q0d _ _ (field (.ref e) 2>>=_) _ _ _
 refine u3 (dj m rfl (x:=.ref d) rfl ?_)
 refine u3 (wQ v g p r λk x f j=>?_)
 obtain⟨o,u,t⟩:=j
 refine u3 (Q1P (T:="StopIteration") (b:=true) ⟨o,u,t⟩ isSubtype_stop ?_)
 exact t4 (q _ f)
def YS {prog:zO}{w:Q0k}{A:zP}(hh:A.handled=none)(it l:Addr)(hne:l≠it)(items:wc) :
 Draws prog w A it [it,l] items.size (λi v=>items[i]?≈v) (λi h=>h.IsTupleIter it l i/\h.IsTuple l items) where
 live:=λ_ _ st=>let ⟨o,ho,_⟩:=st.1;⟨o,ho⟩
 frame:=λ_ _ _ st hk=>by
  obtain⟨⟨o,ho,r⟩,⟨o2,ho2,r2⟩⟩:=st
  exact⟨⟨o,hk it (by simp) o ho,r⟩,⟨o2,hk l (by simp) o2 ho2,r2⟩⟩
 item:=λi s Q E hi st hQ=>by
  refine YX st.1 st.2 (x:=items[i]) (by simp[hi]) λh' hit' hs'=>?_
  exact hQ _ h' s.toks (by simp[hi]) ⟨hit',st.2.extBut hs'.extBut hne⟩ hs'
 done:=λs Q E st hE=>wQ hh st.1 st.2 (by simp) hE
def Xc (l:Addr)(a:wc)(n:Nat)(j:y1)(o:Array (Option Q0e)) :
 Meets (Builtin.«enumerate.__new__» ⟨[.type "enumerate",.ref l],[]⟩) (λ_ R s=>s.heap.get? l≈{ cls:=.type "tuple",dict:=j,data:=.seq a n,slots:=o } /\
  R (.ok (.ret (.ref (s.heap.push { cls:=.type "tuple_iterator",data:=.fields #[.ref l,.int 0 0] }).objs.size)))
   { s with heap:=(s.heap.push { cls:=.type "tuple_iterator",data:=.fields #[.ref l,.int 0 0] }).push { cls:=.type "enumerate",data:=.fields #[.none,.bool false,.ref ⇑s,Q1H 0,.none,.none] } }) :=
 .of_wp λf w A R s h=>by
  obtain⟨m,g,d,k,os⟩:=s;obtain⟨b,h⟩:=h
  have i:=sub_enumerate
  have e:Q1V (Q1c ⟨m,g,d,k,os⟩) l a:=⟨_,b,rfl,n,rfl⟩
  wp_walk using nA b
  refine wpAny_stack_any λp=>t4 ?_
  split
  .rename_i c _ _ _ _ _
   cases (c == Q0A "enumerate")
   .wp_walk using nA b,iM e
    exact⟨_,rfl,h⟩
   .wp_walk using nA b,iM e
    exact⟨_,rfl,h⟩
  .wp_walk using nA b,iM e
   exact⟨_,rfl,h⟩
section
variable {prog:zO}{w:Q0k}{A:zP}{E:yM}{s:zm}
def Zl {Q:yM}(j:s.heap.IsTuple l a) (h:∀ c,IsEnum c (⇑s+1) ⇑s 0 .none->c.IsTupleIter ⇑s l 0->c.objs.size=⇑s+2 ->
 (∀ b o,s.heap.get? b≈o->c.get? b≈o)->Q (.ref (⇑s+1)) { s with heap:=c }) :
 Q0d (Q0i prog w) A (call (.type "enumerate") [.ref l]) Q E s:=by
 obtain⟨⟨cls,i,data,m⟩,k,g,n,f⟩:=j
 simp only at g f
 subst g f
 refine callType_new F.called_enumerate ⋯ (F.typeCall_enumerate_1 _) (F.newCall_enumerate_1 _) (λobj=>F.args_object_init_2 obj _) F.entry_enumerate_new
  (Xc l a n i m) ⟨k,?_⟩
 have d:(s.heap.push { cls:=.type "tuple_iterator",data:=.fields #[.ref l,.int 0 0] }).objs.size=⇑s+1:=s0 ..
 show _/\_
 rw[d]
 have e:IsEnum ((s.heap.push { cls:=.type "tuple_iterator",data:=.fields #[.ref l,.int 0 0] }).push
  { cls:=.type "enumerate",data:=.fields #[.none,.bool false,.ref ⇑s,Q1H 0,.none,.none] }) (⇑s+1) ⇑s 0 .none:=by
  have:=j6 (s.heap.push { cls:=.type "tuple_iterator",data:=.fields #[.ref l,.int 0 0] })
   (o:={ cls:=.type "enumerate",data:=.fields #[.none,.bool false,.ref ⇑s,Q1H 0,.none,.none] }) rfl
  rw[d]at this;exact this
 refine⟨⟨_,e,rfl⟩,h _ e ⟨_,u6 _ (j6 _ rfl),rfl,rfl⟩ (by rw[s0,d]) λb o x=>u6 _ (u6 _ x)⟩
end
end PySem
namespace L2
open PySem PySem.Spec PyProof.Rows
section
variable {X:Cx}{pins:xz}{σ:St}{H:Hp}{s:zm}{h':Heap}
def aj.grown {ch:xt}{T:Addr}{o:HO}{A:Nat}(I:aj X pins σ H s)(a:∀ b∈ch,cZ X pins H b)(l:⇑s<=T)(k:∀ b u,b∉ch->s.heap.get? b≈u->h'.get? b≈u)
 (i:yU X.prog X.w (aA H T o) h' T o):aj X pins σ (aA H T o) { s with heap:=h',toks:=A }:=by
 have f:H T=none:=I.hok.fresh l
 have j:∀ b u,s.heap.get? b≈u->b≠T:=λb u e=>r4 (q5 (j4 e) l)
 have g:∀ b u,H b≈u->b∉ch:=λb u e z=>by rw[(a b z).1]at e;cases e
 refine I.step (g':=s.gens) (d':=s.drawn) (ch:=ch) (λb h=>?_) (λb u _ _ d e _=>k b u d e) (λb u _ _ d e _=>⟨u.slots,k b u d e⟩) (λb u _ e n=>by rw[zj (j b u e)];exact n)
  (λb u d e=>⟨u,k b u d e⟩) (λb p e=>by rw[zj (zf e f)];exact e) (λb u p e=>by rw[zj (zf e f)];exact e) (λb G e=>⟨#[],by rw[zj (zf e f),e];simp⟩) (λm C=>?_) (λb u e=>?_) I.bare
 .obtain⟨_,E,_,B,D,w⟩:=a b h
  exact⟨B,E,D,w⟩
 .obtain⟨t,F,y,x,r⟩:=C
  exact⟨t,F,y,k _ t (λz=>(a _ z).2.1 rfl) x,r⟩
 .by_cases h:b=T
  .subst h;rw[zn]at e;cases e;exact i
  .rw[zj h]at e
   refine(I.hok b u e).stay (λc v d q=>k c v ?_ q) (λc q=>by rw[zj (zf q f)];exact q) λc p q=>by rw[zj (zf q f)];exact q
   rcases d with z|z
   .rw[z];exact g b u e
   .exact g c _ z
def aj.turnedN {ch:xt}{t':Nat}(I:aj X pins σ H s)(a:∀ b∈ch,cZ X pins H b)(k:∀ b u,b∉ch->s.heap.get? b≈u->h'.get? b≈u):aj X pins σ H { s with heap:=h',toks:=t' }:=by
 have f:∀ b u,H b≈u->b∉ch:=λb u e z=>by rw[(a b z).1]at e;cases e
 refine I.step (g':=s.gens) (d':=s.drawn) (ch:=ch) (λb t=>?_) (λb u _ _ d e _=>k b u d e) (λb u _ _ d e _=>⟨u.slots,k b u d e⟩) (λb u _ e n=>n)
  (λb u d e=>⟨u,k b u d e⟩) (λb h e=>e) (λb u h e=>e) (λb A e=>⟨#[],by rw[e];simp⟩) (λm o=>?_) (λb u e=>?_) I.bare
 .obtain⟨_,x,_,j,p,i⟩:=a b t
  exact⟨j,x,p,i⟩
 .obtain⟨g,y,w,l,r⟩:=o
  exact⟨g,y,w,k _ g (λz=>(a _ z).2.1 rfl) l,r⟩
 .refine(I.hok b u e).stay (λc v d q=>k c v ?_ q) (λc q=>q) λc h q=>q
  rcases d with z|z
  .rw[z];exact f b u e
  .exact f c _ z
end
def S9 (K:zA)(a:Addr):It :=
 ⟨λi H=>∃ b x,aN K H a b/\b[i]?≈x,λi H v H'=>∃ T x,v=.ref T/\H T=none/\H'=aA H T (.tup [.int i,x])/\∀ b,aN K H a b->b[i]?≈x,λi H=>∃ b,aN K H a b/\↥b<=i⟩
def S8 (K:zA)(a:Addr):It :=
 ⟨λi H=>∃ b x,aM K H a b/\b[i]?≈x,λi H v H'=>∃ T x,v=.ref T/\H T=none/\H'=aA H T (.tup [.int i,x])/\∀ b,aM K H a b->b[i]?≈x,λi H=>∃ b,aM K H a b/\↥b<=i⟩
def zf6 {P:zO}{w:Q0k}{K:zA}{es:y0}{k:Nat}{tp:Pos}(a e it:Addr)(hne:e≠it) :
 gQ P w K (.Tuple es k tp) (S9 K a) [e,it] e (λi h=>(∃ old,IsEnum h e it i old)/\h.IsListIter it a i) where
 mem:=by simp
 obj:=λi h st b hb=>by
  obtain⟨⟨old,he⟩,o,ho,_,hd⟩:=st
  rcases t9.mp hb with rfl|hb
  .exact⟨_,he,λv z=>by cases z⟩
  .rw[t7.mp hb]
   exact⟨o,ho,λv z=>by rw[hd]at z;cases z⟩
 keep:=λi h h' st kk=>by
  obtain⟨⟨old,he⟩,hit⟩:=st
  exact⟨⟨old,kk e (by simp) _ he⟩,hit.at λo q=>kk it (by simp) o q⟩
 item:=by
  intro X hP hw hK hc i pins s σ H E I hf st hg
  subst hP hw hK
  obtain⟨⟨old,he⟩,hit⟩:=st
  obtain⟨xs,x,hq,hx⟩:=hg
  obtain⟨its,rv,p,hz⟩:=I.list hq
  obtain⟨u,hu,ru⟩:=rv.get hx
  refine wpAny_pyNext_enum_item he hit p.isList (x:=u) (by simpa using hu) hne λh1 ho1 hit1 hT1 hz1 hk1=>?_
  refine⟨_,rfl,Q1v ho1 λh2 he2 hs2=>?_⟩
  have hfr:H ⇑s=none:=I.hok.fresh (t6 _)
  have neE:⇑s≠e:=iR (j4 he)
  have hT2:h2.get? ⇑s≈{ cls:=.type "tuple",data:=.seq #[.int i s.toks,u] }:=(hs2.2 _ neE).trans hT1
  refine⟨.ref ⇑s,aA H ⇑s (.tup [.int i,x]),?_,rfl,⟨_,x,rfl,hfr,rfl,λys hy=>by rw[I.list_inj hy hq];exact hx⟩,⟨⟨_,by simpa using he2⟩,hit1.at λo q=>(hs2.2 it (bh hne)).trans q⟩,λb hb=>?_⟩
  .refine I.grown (ch:=[e,it]) hf (t6 _) (λb v hb q=>?_) ?_
   .have n1:b≠e:=λz=>hb (by simp[z])
    have n2:b≠it:=λz=>hb (by simp[z])
    exact(hs2.2 b n1).trans (hk1 b v n1 n2 q)
   .exact⟨by show 2<=sizeLine;decide,[.int i s.toks,u],.cons ⟨_,rfl⟩ (.cons ru .nil),⟨_,hT2,rfl,0,rfl⟩⟩
  .obtain⟨o,cV,_⟩:∃ o,s.heap.get? b≈o/\True:=by
    rcases t9.mp hb with rfl|hb
    .exact⟨_,he,trivial⟩
    .rw[t7.mp hb]
     obtain⟨o,ho,_⟩:=hit
     exact⟨o,ho,trivial⟩
   rw[zj (r4 (j4 cV))]
   exact(hf b hb).1
 done:=by
  intro X hP hw hK hc i pins s σ H E I hf st hg
  subst hP hw hK
  obtain⟨⟨old,he⟩,hit⟩:=st
  obtain⟨xs,hq,hx⟩:=hg
  obtain⟨its,rv,p,hz⟩:=I.list hq
  have hl:=↥rv
  exact wpAny_pyNext_enum_end (I.ok.hd hc) he hit p.isList (by simp;omega) λh1 hx1=>⟨rfl,I.turnedN (ch:=[e,it]) (t':=s.toks) hf λb v hb q=>hx1 b v (λz=>hb (by simp[z])) q⟩
 self:=λ_ _ _ _ _ st h=>BL st.1.choose_spec h
def zf7 {P:zO}{w:Q0k}{K:zA}{es:y0}{k:Nat}{tp:Pos}(a e it:Addr)(hne:e≠it)(hai:a≠it)(hae:a≠e) :
 gQ P w K (.Tuple es k tp) (S8 K a) [e,it] e (λi h=>(∃ old,IsEnum h e it i old)/\h.IsTupleIter it a i) where
 mem:=by simp
 obj:=λi h st b hb=>by
  obtain⟨⟨old,he⟩,o,ho,_,hd⟩:=st
  rcases t9.mp hb with rfl|hb
  .exact⟨_,he,λv z=>by cases z⟩
  .rw[t7.mp hb]
   exact⟨o,ho,λv z=>by rw[hd]at z;cases z⟩
 keep:=λi h h' st kk=>by
  obtain⟨⟨old,he⟩,o,ho,r⟩:=st
  exact⟨⟨old,kk e (by simp) _ he⟩,o,kk it (by simp) o ho,r⟩
 item:=by
  intro X hP hw hK hc i pins s σ H E I hf st hg
  subst hP hw hK
  obtain⟨⟨old,he⟩,hit⟩:=st
  obtain⟨xs,x,hq,hx⟩:=hg
  obtain⟨its,rv,p,hz⟩:=I.tuple hq
  obtain⟨u,hu,ru⟩:=rv.get hx
  have p':s.heap.IsTuple a its.toArray:=p
  have D:=YS (prog:=X.prog) (w:=X.w) (A:=X.A.in1) (I.ok.hd hc) it a hai its.toArray
  have hlt:i<its.toArray.size:=by
   obtain⟨h1,_⟩:=t8.mp hu
   simpa using h1
  refine wpAny_pyNext_enum_itemD D he ⟨hit,p'⟩ hlt hne (by simp[hne,bh hae]) λu' h1 tk hP1 ho1 hit1 hT1 hz1 hk1=>?_
  have eu:u'=u:=by
   have:its[i]?≈u':=by simpa using hP1
   rw[hu]at this
   exact(g0 this).symm
  subst eu
  refine⟨_,rfl,Q1v ho1 λh2 he2 hs2=>?_⟩
  have hfr:H ⇑s=none:=I.hok.fresh (t6 _)
  have neE:⇑s≠e:=iR (j4 he)
  have hT2:h2.get? ⇑s≈{ cls:=.type "tuple",data:=.seq #[.int i tk,u'] }:=(hs2.2 _ neE).trans hT1
  refine⟨.ref ⇑s,aA H ⇑s (.tup [.int i,x]),?_,rfl,⟨_,x,rfl,hfr,rfl,λys hy=>by rw[I.tuple_inj hy hq];exact hx⟩,⟨⟨_,by simpa using he2⟩,?_⟩,λb hb=>?_⟩
  .refine I.grown (ch:=[e,it]) hf (t6 _) (λb v hb q=>?_) ?_
   .have n1:b≠e:=λz=>hb (by simp[z])
    have n2:b≠it:=λz=>hb (by simp[z])
    exact(hs2.2 b n1).trans (hk1 b v n1 n2 q)
   .exact⟨by show 2<=sizeLine;decide,[.int i tk,u'],.cons ⟨_,rfl⟩ (.cons ru .nil),⟨_,hT2,rfl,0,rfl⟩⟩
  .obtain⟨o,ho,r⟩:=hit1.1
   exact⟨o,(hs2.2 it (bh hne)).trans ho,r⟩
  .obtain⟨o,cV,_⟩:∃ o,s.heap.get? b≈o/\True:=by
    rcases t9.mp hb with rfl|hb
    .exact⟨_,he,trivial⟩
    .rw[t7.mp hb]
     obtain⟨o,ho,_⟩:=hit
     exact⟨o,ho,trivial⟩
   rw[zj (r4 (j4 cV))]
   exact(hf b hb).1
 done:=by
  intro X hP hw hK hc i pins s σ H E I hf st hg
  subst hP hw hK
  obtain⟨⟨old,he⟩,hit⟩:=st
  obtain⟨xs,hq,hx⟩:=hg
  obtain⟨its,rv,p,hz⟩:=I.tuple hq
  have hl:=↥rv
  have p':s.heap.IsTuple a its.toArray:=p
  exact Zk (I.ok.hd hc) he hit p' (by simp;omega) λh1 hx1=>⟨rfl,I.turnedN (ch:=[e,it]) (t':=s.toks) hf λb v hb q=>hx1 b v (λz=>hb (by simp[z])) q⟩
 self:=λ_ _ _ _ _ st h=>BL st.1.choose_spec h
def T7 (K:zA)(c:TA):TI:=fun σ H R=>c σ H λd H1=>∃ a,d=[.ref a]/\((∃ b,H1 a≈(.lst b)/\R (S9 K a) H1)\/(∃ b,aM K H1 a b/\R (S8 K a) H1))
def zn5 {X:Cx} {k:Nat} {t:Pos} (N:Gl X "enumerate") (L:X.mg "enumerate"=none) (g:Q0j "enumerate"≈(.type "enumerate")) (F:PA X [a] y) (K:Q0c [a] X.env=[(false,eval a X.env)]:=by rfl):PI X (.Tuple O k E) (.Call (.Name "enumerate" p) [a] [] t) (T7 X.K y):=by
 intro d s σ H R I h
 refine Call_ (Wn I N L g (rA (aG (F t d s σ H _ I h) λS f hh9=>?_) K rfl))
 obtain⟨Q,H1,I1,G,M⟩:=hh9
 obtain⟨l,e,q⟩:=M
 subst e
 obtain⟨u,rfl,J⟩:=Zj G
 cases J
 have z:∀ b,⇑f<=b->cZ X d H1 b:=λb g=>I1.fpOk g (I1.hok.fresh g)
 have m:⇑f+1≠⇑f:=by omega
 have j:∀ b∈[⇑f+1,⇑f],cZ X d H1 b:=λb g=>by
  rcases t9.mp g with rfl|g
  .exact z _ (eX _)
  .rw[t7.mp g];exact z _ (t6 _)
 rcases q with ⟨w,x,q⟩|⟨w,x,q⟩
 .obtain⟨_,c,n,_,e⟩:↥w<=sizeLine/\∃ (c:zC) (n:Nat),yy w c/\f.heap.get? l≈{ cls:=.type "list",data:=.seq c.toArray n }:=I1.hok _ _ x
  refine call_enumerate_1 e λC r i P v=>BL r ?_
  exact⟨_,_,_,_,H1,rfl,I1.kept (t':=f.toks) v,zf6 l _ _ m,⟨⟨_,r⟩,i⟩,j,q⟩
 .obtain⟨c,_,A,_⟩:=I1.tuple x
  have B:l<⇑f:=by
   obtain⟨o,D,_⟩:=A
   exact j4 D
  refine Zl (show f.heap.IsTuple l c.toArray from A) λC r i P v=>BL r ?_
  exact⟨_,_,_,_,H1,rfl,I1.kept (t':=f.toks) v,zf7 l _ _ m (r4 B) (r4 (qK B)),⟨⟨_,r⟩,i⟩,j,q⟩
end L2
namespace HT
open PySem PyProof.Rows
def lexLe:zr->zr->Bool
 |[],_=>true
 |_::_,[]=>false
 |x::xs,y::ys=>if x=y then lexLe xs ys else decide (x<=y)
def zfZ (x y:Int)(a b:zr):lexLe (x::a) (y::b)=if x=y then lexLe a b else decide (x<=y):=rfl
def zkQ (A:zP)(s:zm)(a:Int)(t:Tok)(c:Int)(u:Tok)(b:zO)(w:Q0k)(E:yM)(Q:yM)(h:Q (.bool (decide (a<=c))) s) :
 Q0d (Q0i b w) A (richCompare .LtE (.int a t) (.int c u)) Q E s :=
 (PyProof.Rows.le_int h:Q0d (Q0i b w) A (Q0l .LtE (.int a t) (.int c u)) Q E s)
section
open PySem.SeqAt
open PySem.AutoSeq1 (wpAny_loadPart')
open PySem.MeetsSeq PySem.MeetsSeq2 PySem.MeetsSeq3
theorem zbs (l b:Addr)(i f:wc)(n U:Nat)(W L:y1)(V M:Array (Option Q0e))(ns G:zr)(P:Q0R i.toList ns)(O:Q0R f.toList G) :
 Meets (Builtin.«tuple.__le__» ⟨[.ref l,.ref b],[]⟩)
  (λ_ R s=>s.heap.get? l≈{ cls:=.type "tuple",dict:=W,data:=.seq i n,slots:=V }/\s.heap.get? b≈{ cls:=.type "tuple",dict:=L,data:=.seq f U,slots:=M } /\
   R (.ok (.ret (.bool (lexLe ns G)))) s) :=
 .of_wp λp w A R s h=>by
  obtain⟨I,g,d,F,os⟩:=s;obtain⟨S,T,h⟩:=h
  have f2:=AutoSeq1.sub_tuple_tuple
  have Z:i.size=↥ns:=by rw[<-↥P];simp
  have Y:f.size=↥G:=by rw[<-↥O];simp
  wp_walk using nA S,nA T,wpAny_forIn_list _ (λrest b N=>b.1=none/\N=⟨I,g,d,F,os⟩/\∃ (H J:zC) (k m:zr),rest=H.zip J /\
   Q0R H k/\Q0R J m/\↥k+f.size=↥m+i.size/\R (.ok (.ret (.bool (lexLe k m)))) ⟨I,g,d,F,os⟩) _
  case turn =>
   rintro⟨y,x⟩ rest b N ⟨C,rfl,H,J,k,m,o,z,B,j,r⟩
   cases z with
   |nil=>rw[List.zip_nil_left]at o;cases o
   |cons a t D =>
    cases B with
    |nil=>rw[List.zip_nil_right]at o;cases o
    |cons c u E =>
     rw[Iw]at o
     injection o with hyx hrest
     injection hyx with hy hx
     subst hy hx
     rw[zfZ]at r
     simp only[g5]at j
     obtain⟨e,X,v⟩:=zld A.in1 ⟨I,g,d,F,os⟩ a t c u
     refine u3 (X p w _ _ ?_)
     cases e with
     |true =>
      rw[t5 (v.mp rfl)]at r
      wp_walk
      exact⟨rfl,rfl,_,_,_,_,hrest,D,E,by omega,r⟩
     |false =>
      rw[j5 (λq=>absurd (v.mpr q) u7)]at r
      have K:=zkQ A.in1 ⟨I,g,d,F,os⟩ a t c u p w
      wp_walk using K
      exact⟨_,rfl,by simpa using r⟩
  case fin =>
   rintro⟨b1,b2⟩ N ⟨C,rfl,H,J,k,m,o,z,B,j,r⟩
   simp only at C
   subst C
   have Q:lexLe k m=decide (i.size<=f.size):=by
    cases z with
    |nil =>
     simp only[BW]at j
     show true=_
     exact(j3 ∅).symm
    |cons a t Q =>
     cases B with
     |nil =>
      simp only[BW,g5]at j
      show false=_
      exact(r0 ∅).symm
     |cons c u hw =>
      rw[Iw]at o
      cases o
   rw[Q]at r
   wp_walk
   exact⟨_,rfl,by simpa [Builtin.Tuple.tupleCompareSizes]using r⟩
  case h =>
   exact⟨rfl,rfl,i.toList,f.toList,ns,G,rfl,P,O,by omega,h⟩
end
section
variable {prog:zO}{w:Q0k}{A:zP}{E:yM}{s:zm}
def le_tupInts {c a:wc}{f:zr}{Q:yM}(v:IsTup s.heap l c)(z:IsTup s.heap b a)(t:Q0R c.toList ns)(r:Q0R a.toList f)(y:A.units<cLine)(h:Q (.bool (lexLe ns f)) s):Q0d (Q0i prog w) A (Q0l .LtE (.ref l) (.ref b)) Q E s:=by
 obtain⟨⟨cls,u,data,C⟩,q,p,n,o⟩:=id v
 obtain⟨⟨m,k,j,i⟩,e,d,B,g⟩:=id z
 simp only at p o d g
 subst p o d g
 exact richCompare_meets_room (op:=.LtE) ⟨_,q,rfl⟩ ⟨_,e,rfl⟩ PySem.F.slot_tuple_le PySem.F.entry_tuple_le (PySem.F.args_tuple_le_2 _ _) (zbs l b c a n B u k C i ns f t r)
  ⟨q,e,show Q0K (lexLe ns f)≠Q17/\Q (.bool (lexLe ns f)) s from⟨(λx=>nomatch x),h⟩⟩ y
end
end HT
namespace L2
open PySem PySem.Spec PyProof.Rows
def rR (K:zA):R2:=λx y H Q=>∃ a b ns c,x=.ref a/\y=.ref b/\aM K H a (ns.map V.int)/\aM K H b (c.map V.int)/\Q (.bl (HT.lexLe ns c)) H
def zrE {X:Cx}(n:X.A.units<cLine):aQ X (Q0l .LtE) (rR X.K):=by
 intro f s σ H x y v u Q I m p h
 obtain⟨a,b,ns,e,rfl,rfl,i,r,q⟩:=h
 cases m
 cases p
 obtain⟨d,j,l,_⟩:=I.tuple i
 obtain⟨c,k,g,_⟩:=I.tuple r
 have t:Q0R d.toArray.toList ns:=vY j
 have o:Q0R c.toArray.toList e:=vY k
 exact HT.le_tupInts l g t o n ⟨.bl (HT.lexLe ns e),H,I,rfl,q⟩
end L2
namespace HT
open PySem PyProof.Rows
section
variable {prog:zO}{w:Q0k}{A:zP}{E:yM}{s:zm}
def own_getItem_whole {t:Addr}{a:wc}{Q:yM}(c:IsTup s.heap t a)(k:s.heap.IsSliceOf j n l .none)(pl:Q2p n b)(o:Q2p l e)(hw:sIx a.size 0 b=0/\sIx a.size a.size e=a.size)(h:Q (.ref t) s):Q0d (Q0i prog w) A (Q2F (.ref t) (.ref j)) Q E s:=by
 obtain⟨os,i,f,p⟩:=id k
 have g:s.TypeIs (.ref j) "slice":=⟨os,i,f⟩
 unfold Q2F
 try with_reducible refine h9 ?_
 first|refine u3 (t4 ?_)|skip
 refine u3 (wpAny_sequenceKey c.typeIs ⋯ ?_)
 refine u3 (p9 (name:=Q0b "__getitem__") c.typeIs i5
  (fG i5 c.typeIs entry_tuple_getitem ?_ (args_tuple_getitem _ _)))
 show Q0d _ _ (Q1s (.ref t)>>=_) _ _ s
 refine u3 (tupleItemsOf_ c ?_)
 refine u3 (qD g ?_)
 rw[t5 ⋯]
 refine u3 (Yx k pl o ?_)
 have d:(((sIx a.size 0 b:Nat):Int) == 0&&(1:Int) == 1&&(sIx a.size a.size e-sIx a.size 0 b) == a.size)=true:=by
  rw[hw.1,hw.2]
  simp
 show Q0d _ _ (if (((sIx a.size 0 b:Nat):Int) == 0&&(1:Int) == 1&&(sIx a.size a.size e-sIx a.size 0 b) == a.size) then _ else _) _ _ s
 rw[t5 d]
 refine u3 (m:=Q1r (.ref t)) ?_
 unfold Q1r
 refine u3 (qD c.typeIs (t4 ?_))
 rw[t5 ⋯]
 refine u3 (iI ?_)
 first
  |exact t4 ⟨_,rfl,t4 h⟩
  |exact u3 (t4 (t4 ⟨_,rfl,t4 h⟩))
end
end HT
namespace PySem
open Sem (wp)
def xX {w:Q0k}{f:xt}{k:Nat}{St:Nat->Heap->Prop}(D:Draws c w A i f n P St)(g:St k h)(j:Q0U a h d)(l:a∉f):St k d :=
 D.frame _ _ _ g λb m o e=>(j.2 b λz=>l (z ▸ m)).trans e
structure uR (z TI TO i1 i2:Addr) (fp1 fp2:xt):Prop where
 nd:[z,TI,TO,i1,i2].Nodup
 z1:z∉fp1
 z2:z∉fp2
 o1:TO∉fp1
 o2:TO∉fp2
 i12:i1∉fp2
 i21:i2∉fp1
section
variable {prog:zO}{w:Q0k}{A:zP}{E:yM}{s:zm}{z TI TO i1 i2:Addr}{fp1 fp2:xt}{n1 n2 k1 k2:Nat}{P1 P2:Nat->Q0e->Prop}{St1 gM:Nat->Heap->Prop}{a b:Q0e}
theorem zcD {Q:yM}(D1:Draws prog w A i1 fp1 n1 P1 St1)(D2:Draws prog w A i2 fp2 n2 P2 gM)(ap:uR z TI TO i1 i2 fp1 fp2)
 (p:IsZip s.heap z TI TO .none) (M:Q08 s.heap TI (.ref i1) (.ref i2)) (L:Q08 s.heap TO a b) (h1:St1 k1 s.heap) (h2:gM k2 s.heap) (l1:k1 < n1) (l2:k2 < n2)
 (hQ:∀ x y g Z,P1 k1 x->P2 k2 y->IsZip g z TI TO (Q1H ⇑s)->Q08 g TO x y->St1 (k1+1) g->gM (k2+1) g->Q08 g ⇑s x y ->
  (∀ c o,c∉[z,TO,i1,i2]->s.heap.get? c≈o->g.get? c≈o)->Q (.ref ⇑s) { s with heap:=g,toks:=Z }) :
 Q0d (Q0i prog w) A (Builtin.«zip.__next__» ⟨[.ref z],[]⟩) (λfin s'=>∃ v,fin=.done (.ret v)/\Q v s') E s:=by
 obtain⟨Y,m,l,k,u,J,N⟩:=ap
 simp only[iQ,t9,g8,cP,fV,Cy,jY,and_true]at Y
 obtain⟨⟨a1,f,K,G⟩,⟨n5,n6,n7⟩,⟨n8,n9⟩,a2⟩:=Y
 show Q0d _ _ (field (.ref z) 2>>=_) _ _ _
 refine u3 (dj p rfl (x:=.bool false) rfl ?_)
 show Q0d _ _ (field (.ref z) 3>>=_) _ _ _
 refine u3 (dj p rfl (x:=.ref TI) rfl (u3 (gG M rfl ?_)))
 show Q0d _ _ (Q0w (.ref z)>>=_) _ _ _
 refine u3 ?_
 unfold Q0w
 refine u3 (dj p rfl (x:=.none) rfl (t4 ?_))
 simp only[dD]
 refine u3 (iI (u3 (dj p rfl (x:=.ref TO) rfl (u3 (qN p (by simp) λg1 z1 b1=>?_)))))
 refine u3 ?_
 simp only[HY,List.zipIdx_nil,mV,mU]
 refine u3 (u3 (wpAny_onRaise ?_))
 show Q0d _ _ (Q0r (.ref i1)>>=_) _ _ _
 refine u3 (D1.item k1 _ _ _ l1 (xX D1 h1 b1 m) λx g2 a3 px I b2=>t4 ?_)
 have T:Q08 g2 TO a b:=(b2.2 TO n8).trans ((b1.2 TO (bh f)).trans L)
 refine u3 (gG T rfl (u3 (wpAny_updateSeq_pair T λg3 o3 b3=>?_)))
 refine u3 (jX (t4 ?_))
 refine u3 (u3 (wpAny_onRaise ?_))
 show Q0d _ _ (Q0r (.ref i2)>>=_) _ _ _
 have F:gM k2 g3:=xX D2 (xX D2 (xX D2 h2 b1 l) b2 J) b3 u
 refine u3 (D2.item k2 _ _ _ l2 F λy g4 a0 py H r=>t4 ?_)
 have V:Q08 g4 TO x b:=(r.2 TO n9).trans o3
 refine u3 (gG V rfl (u3 (wpAny_updateSeq_pair V λd B t=>?_)))
 replace B:Q08 d TO x y:=B
 refine u3 (jX (t4 (t4 ?_)))
 refine u3 (gG B rfl ?_)
 show Q0d _ _ (newTuple [x,y]>>=_) _ _ _
 refine u3 (wpAny_newTuple ?_)
 have j:d.objs.size=⇑s:=by rw[t.1,r.1,b3.1,b2.1,b1.1]
 have R:IsZip d z TI TO .ellipsis:=(t.2 z f).trans ((r.2 z G).trans ((b3.2 z f).trans ((b2.2 z K).trans z1)))
 have i:z < d.objs.size:=j4 R
 show Q0d _ _ (Q02 (.ref z) (.ref d.objs.size)>>=_) _ _ _
 refine u3 ?_
 unfold Q02
 have z6:IsZip (d.push { cls:=.type "tuple",data:=.seq #[x,y] }) z TI TO .ellipsis:=u6 _ R
 refine u3 (qN z6 (by simp) λg7 z7 O=>?_)
 refine qN z7 (by simp) λC z8 X=>?_
 have D:∀ c o,c≠z->d.get? c≈o->C.get? c≈o:=λc o n e=>(X.2 c n).trans ((O.2 c n).trans (u6 _ e))
 have W:Q08 C d.objs.size x y:=(X.2 _ (iR i)).trans ((O.2 _ (iR i)).trans (j6 _ rfl))
 have U:IsZip C z TI TO (Q1H d.objs.size):=z8
 rw[j]at U W
 refine t4 ⟨_,rfl,?_⟩
 show Q (.ref d.objs.size) _
 rw[j]
 have f1:St1 (k1+1) d:=xX D1 (xX D1 (xX D1 I b3 k) r N) t k
 have f2:gM (k2+1) d:=xX D2 H t u
 refine hQ x y C _ px py U (D _ _ (bh f) B) (D1.frame _ _ _ f1 λc h o e=>D c o (λq=>m (q ▸ h)) e) (D2.frame _ _ _ f2 λc h o e=>D c o (λq=>l (q ▸ h)) e) W λc o h e=>?_
 simp only[t9,g8,cP,fV]at h
 obtain⟨P,S,c3,c4⟩:=h
 exact D c o P ((t.2 c S).trans ((r.2 c c4).trans ((b3.2 c S).trans ((b2.2 c c3).trans ((b1.2 c P).trans e)))))
def zdH (D1:Draws prog w A i1 fp1 n1 P1 St1) (g:z∉fp1) (t:i1≠z) (d:IsZip s.heap z TI TO .none) (h:Q08 s.heap TI (.ref i1) (.ref i2)) (r:St1 n1 s.heap) (u:∀ i e,(∀ c o,c≠z->c≠i1->s.heap.get? c≈o->i.get? c≈o)->(∃ o,i.get? e≈o/\o.cls=.type "StopIteration")->E (.ref e) { s with heap:=i }) :
 Q0d (Q0i prog w) A (Builtin.«zip.__next__» ⟨[.ref z],[]⟩) Q E s:=by
 show Q0d _ _ (field (.ref z) 2>>=_) _ _ _
 refine u3 (dj d rfl (x:=.bool false) rfl ?_)
 show Q0d _ _ (field (.ref z) 3>>=_) _ _ _
 refine u3 (dj d rfl (x:=.ref TI) rfl (u3 (gG h rfl ?_)))
 show Q0d _ _ (Q0w (.ref z)>>=_) _ _ _
 refine u3 ?_
 unfold Q0w
 refine u3 (dj d rfl (x:=.none) rfl (t4 ?_))
 simp only[dD]
 refine u3 (iI (u3 (dj d rfl (x:=.ref TO) rfl (u3 (qN d (by simp) λB p b1=>?_)))))
 refine u3 ?_
 simp only[HY,List.zipIdx_nil,mV,mU]
 refine u3 (u3 (wpAny_onRaise ?_))
 show Q0d _ _ (Q0r (.ref i1)>>=_) _ _ _
 refine u3 (D1.done _ _ _ (xX D1 r b1 g) λl e b2 v=>?_)
 obtain⟨n,a,b⟩:=v
 have j:IsZip l z TI TO .ellipsis:=b2 _ _ (bh t) p
 have f:e≠z:=λq=>by subst q;rw[j]at a;cases a;simp at b
 exact qN j (by simp) λm _ b3=>u m e (λc o k y q=>(b3.2 c k).trans (b2 c o y ((b1.2 c k).trans q))) ⟨n,(b3.2 e f).trans a,b⟩
end
def iw (b:Bool)(h:Heap)(a l:Addr)(k:Nat):Prop:=if b then h.IsListIter a l k else h.IsTupleIter a l k
def lW (b:Bool)(h:Heap)(l:Addr)(a:wc):Prop:=if b then h.IsList l a else h.IsTuple l a
def WW {w:Q0k}{A:zP}(e:A.handled=none)(b:Bool)(c l:Addr)(d:l≠c)(a:wc) :
 Draws prog w A c [c,l] a.size (λi v=>a[i]?≈v) (λi h=>iw b h c l i/\lW b h l a):=by
 cases b with
 |true=>exact Draws.list e c l d a
 |false=>exact YS e c l d a
def pL (b:Bool) (l:Addr):Obj:={ cls:=.type (if b then "list_iterator" else "tuple_iterator"),data:=.fields #[.ref l,.int 0 0] }
abbrev ut (h:Heap)(b1:Bool)(a:Addr):Heap:=h.push (pL b1 a)
abbrev uq (h:Heap)(b1 b2:Bool)(a b:Addr):Heap:=(ut h b1 a).push (pL b2 b)
abbrev uo (h:Heap) (b1 b2:Bool) (a b:Addr):Heap:=(uq h b1 b2 a b).push (Obj.mk (.type "tuple") none (.seq #[.ref h.objs.size,.ref (ut h b1 a).objs.size]) #[])
abbrev um (h:Heap) (b1 b2:Bool) (a b:Addr):Heap:=(uo h b1 b2 a b).push (Obj.mk (.type "tuple") none (.seq #[.none,.none]) #[])
abbrev iZ (h:Heap) (b1 b2:Bool) (a b:Addr):Heap:=(um h b1 b2 a b).push (Obj.mk (.type "zip") none (.fields #[.none,.bool false,.bool false,.ref (uq h b1 b2 a b).objs.size,.ref (uo h b1 b2 a b).objs.size]) #[])
def zd9 (b1 b2:Bool)(c f:Addr)(m k:wc) :
 Meets (Builtin.«zip.__new__» ⟨[.type "zip",.ref c,.ref f],[]⟩) (λ_ R s=>lW b1 s.heap c m/\lW b2 s.heap f k /\
  R (.ok (.ret (.ref (um s.heap b1 b2 c f).objs.size))) { s with heap:=iZ s.heap b1 b2 c f }) :=
 .of_wp λn w A R s h=>by
  obtain⟨j,g,d,i,os⟩:=s;obtain⟨l,e,h⟩:=h
  have o:=sub_zip
  cases b1 with
  |true =>
   have b:Heap.IsList (Q1c ⟨j,g,d,i,os⟩) c m:=l
   cases b2 with
   |true =>
    have a:Heap.IsList (Q1c ⟨j.push { cls:=.type "list_iterator",data:=.fields #[.ref c,.int 0 0] },g,d,i,os⟩) f k:=Q2N e _
    wp_walk using nF b,nF a
    exact⟨_,rfl,h⟩
   |false =>
    have a:Q1V (Q1c ⟨j.push { cls:=.type "list_iterator",data:=.fields #[.ref c,.int 0 0] },g,d,i,os⟩) f k:=Q2A e _
    wp_walk using nF b,iM a
    exact⟨_,rfl,h⟩
  |false =>
   have b:Q1V (Q1c ⟨j,g,d,i,os⟩) c m:=l
   cases b2 with
   |true =>
    have a:Heap.IsList (Q1c ⟨j.push { cls:=.type "tuple_iterator",data:=.fields #[.ref c,.int 0 0] },g,d,i,os⟩) f k:=Q2N e _
    wp_walk using iM b,nF a
    exact⟨_,rfl,h⟩
   |false =>
    have a:Q1V (Q1c ⟨j.push { cls:=.type "tuple_iterator",data:=.fields #[.ref c,.int 0 0] },g,d,i,os⟩) f k:=Q2A e _
    wp_walk using iM b,iM a
    exact⟨_,rfl,h⟩
end PySem
namespace PySem
section
variable {prog:zO}{w:Q0k}{A:zP}{E:yM}{s:zm}
def zci {b1 b2:Bool}{Q:yM}(m:lW b1 s.heap a y)(p:lW b2 s.heap d r) (h:∀ f,IsZip f (⇑s+4) (⇑s+2) (⇑s+3) .none->Q08 f (⇑s+2) (.ref ⇑s) (.ref (⇑s+1)) ->
 Q08 f (⇑s+3) .none .none->iw b1 f ⇑s a 0->iw b2 f (⇑s+1) d 0 ->
 (∀ c o,s.heap.get? c≈o->f.get? c≈o)->Q (.ref (⇑s+4)) { s with heap:=f }) :
 Q0d (Q0i prog w) A (call (.type "zip") [.ref a,.ref d]) Q E s:=by
 refine callType_new F.called_zip ⋯ (F.typeCall_zip_2 _ _) (F.newCall_zip_2 _ _) (λobj=>F.args_object_init_3 obj _ _) F.entry_zip_new
  (zd9 b1 b2 a d y r) ⟨m,p,?_⟩
 have n:(ut s.heap b1 a).objs.size=⇑s+1:=s0 ..
 have i:(uq s.heap b1 b2 a d).objs.size=⇑s+2:=by rw[s0,n]
 have k:(uo s.heap b1 b2 a d).objs.size=⇑s+3:=by rw[s0,i]
 have q:(um s.heap b1 b2 a d).objs.size=⇑s+4:=by rw[s0,k]
 have j:(iZ s.heap b1 b2 a d).get? (um s.heap b1 b2 a d).objs.size≈_:=j6 _ rfl
 have v:(iZ s.heap b1 b2 a d).get? (uo s.heap b1 b2 a d).objs.size≈_:=u6 _ (j6 _ rfl)
 have u:(iZ s.heap b1 b2 a d).get? (uq s.heap b1 b2 a d).objs.size≈_:=u6 _ (u6 _ (j6 _ rfl))
 have t:(iZ s.heap b1 b2 a d).get? (ut s.heap b1 a).objs.size≈(pL b2 d):=u6 _ (u6 _ (u6 _ (j6 _ rfl)))
 have z:(iZ s.heap b1 b2 a d).get? ⇑s≈(pL b1 a):=u6 _ (u6 _ (u6 _ (u6 _ (j6 _ rfl))))
 show _/\_
 rw[i,k,q]at j
 rw[n,i]at u
 rw[k]at v
 rw[n]at t
 rw[q]
 have g:∀ {b:Bool} {l c:Addr},(iZ s.heap b1 b2 a d).get? c≈(pL b l)->iw b (iZ s.heap b1 b2 a d) c l 0:=λ{b l c} e=>by
  cases b
  .exact⟨_,e,rfl,rfl⟩
  .exact⟨_,e,rfl,rfl⟩
 exact⟨⟨_,j,rfl⟩,h _ j u v (g z) (g t) λc o x =>
  u6 _ (u6 _ (u6 _ (u6 _ (u6 _ x))))⟩
variable {z TI TO i1 i2:Addr}{fp1 fp2:xt}{n1 n2 k1 k2:Nat}{P1 P2:Nat->Q0e->Prop}{St1 gM:Nat->Heap->Prop}{a b:Q0e}
theorem ZF {Q:Option Q0e->Q0u->Prop}(D1:Draws prog w A.in1 i1 fp1 n1 P1 St1)(D2:Draws prog w A.in1 i2 fp2 n2 P2 gM)(C:uR z TI TO i1 i2 fp1 fp2)
 (i:IsZip s.heap z TI TO .none) (g:Q08 s.heap TI (.ref i1) (.ref i2)) (f:Q08 s.heap TO a b) (m:St1 k1 s.heap) (k:gM k2 s.heap) (l:k1 < n1) (D:k2 < n2)
 (t:∀ x y d e,P1 k1 x->P2 k2 y->IsZip d z TI TO (Q1H ⇑s)->Q08 d TO x y->St1 (k1+1) d->gM (k2+1) d->Q08 d ⇑s x y ->
  (∀ c o,c∉[z,TO,i1,i2]->s.heap.get? c≈o->d.get? c≈o)->Q (some (.ref ⇑s)) { s with heap:=d,toks:=e }) :
 Q0d (Q0i prog w) A (Q1o (.ref z)) Q E s:=by
 have h:s.TypeIs (.ref z) "zip":=⟨_,i,rfl⟩
 unfold Q1o
 exact u3 (jr (p9 (name:=Q0b "__next__") h BX
  (fG BX h F.entry_zip_next
   (zcD D1 D2 C i g f m k l D λx y d e q n B p u v j r=>t4 (t x y d e q n B p u v j r)) (F.args_zip_next_1 _))))
def Xp {Q:Option Q0e->Q0u->Prop}(D1:Draws prog w A.in1 i1 fp1 n1 P1 St1)(d:z∉fp1)(m:i1≠z)
 (h:IsZip s.heap z TI TO .none) (f:Q08 s.heap TI (.ref i1) (.ref i2)) (j:St1 n1 s.heap)
 (n:∀ a,(∀ c o,c≠z->c≠i1->s.heap.get? c≈o->a.get? c≈o)->Q none { s with heap:=a }):Q0d (Q0i prog w) A (Q1o (.ref z)) Q E s:=by
 have g:s.TypeIs (.ref z) "zip":=⟨_,h,rfl⟩
 unfold Q1o
 refine u3 (jr (p9 (name:=Q0b "__next__") g BX
  (fG BX g F.entry_zip_next (zdH D1 d m h f j λa e k l=>?_) (F.args_zip_next_1 _))))
 obtain⟨o,i,p⟩:=l
 refine u3 (Q1P (T:="StopIteration") (b:=true) ⟨o,i,p⟩ isSubtype_stop ?_)
 exact t4 (n _ k)
end
end PySem
namespace L2
open PySem PySem.Spec PyProof.Rows
def Sq (b:Bool)(K:zA)(H:Hp)(a:Addr)(c:zD):Prop:=if b then aN K H a c else aM K H a c
def aj.sq {X:Cx}{s:zm}(I:aj X d σ H s)(h:Sq b X.K H a e):∃ c:zC,yy e c/\lW b s.heap a c.toArray/\a<⇑s:=by
 cases b with
 |true =>
  obtain⟨c,r,p,_⟩:=I.list (show aN X.K H a e from h)
  exact⟨c,r,p.isList,by obtain⟨o,n,f,_⟩:=p;exact j4 f⟩
 |false =>
  obtain⟨c,r,p,_⟩:=I.tuple (show aM X.K H a e from h)
  exact⟨c,r,p,by obtain⟨o,f,_⟩:=p;exact j4 f⟩
def aj.sq_inj {X:Cx}{f:zD}(I:aj X c σ H s)(h:Sq b X.K H a f)(e:Sq b X.K H a d):f=d:=by
 cases b with
 |true=>exact I.list_inj h e
 |false=>exact I.tuple_inj h e
def S7 (K:zA)(b1 b2:Bool)(c d:Addr):It :=
 ⟨λi H=>∃ a b x y,Sq b1 K H c a/\Sq b2 K H d b/\a[i]?≈x/\b[i]?≈y,
  λi H v H'=>∃ T x y,v=.ref T/\H T=none/\H'=aA H T (.tup [x,y])/\(∀ a,Sq b1 K H c a->a[i]?≈x)/\(∀ b,Sq b2 K H d b->b[i]?≈y),
  λi H=>∃ a,Sq b1 K H c a/\i=↥a⟩
def ZW {h:Heap}{k:Nat}(x:iw b h d l k):∃ o,h.get? d≈o/\∀ v,o.data≠.cell v:=by
 cases b
 .obtain⟨o,c,_,a⟩:=x
  exact⟨o,c,λv z=>by rw[a]at z;cases z⟩
 .obtain⟨o,c,_,a⟩:=x
  exact⟨o,c,λv z=>by rw[a]at z;cases z⟩
def WU {h d:Heap}{k:Nat}(x:iw b h a l k)(e:∀ o,h.get? a≈o->d.get? a≈o):iw b d a l k:=by
 cases b
 .obtain⟨o,c,r⟩:=x
  exact⟨o,e o c,r⟩
 .obtain⟨o,c,r⟩:=x
  exact⟨o,e o c,r⟩
def zj6 {P:zO}{w:Q0k}{K:zA}{es:y0}{k:Nat}{tp:Pos}(b1 b2:Bool)(l1 l2 z TI TO i1 i2:Addr)(ap:uR z TI TO i1 i2 [i1,l1] [i2,l2])(n1:l1≠i1)(n2:l2≠i2) :
 gQ P w K (.Tuple es k tp) (S7 K b1 b2 l1 l2) [z,TI,TO,i1,i2] z (λi h=>IsZip h z TI TO .none/\Q08 h TI (.ref i1) (.ref i2)/\(∃ a b,Q08 h TO a b)/\iw b1 h i1 l1 i/\iw b2 h i2 l2 i) where
 mem:=by simp
 obj:=λi h st b hb=>by
  obtain⟨hz,hTI,⟨a,c,hTO⟩,h1,h2⟩:=st
  simp only[t9,g8,cP]at hb
  rcases hb with rfl|rfl|rfl|rfl|rfl
  .exact⟨_,hz,λv z=>by cases z⟩
  .exact⟨_,hTI,λv z=>by cases z⟩
  .exact⟨_,hTO,λv z=>by cases z⟩
  .exact ZW h1
  .exact ZW h2
 keep:=λi h h' st kk=>by
  obtain⟨hz,hTI,⟨a,c,hTO⟩,h1,h2⟩:=st
  exact⟨kk z (by simp) _ hz,kk TI (by simp) _ hTI,⟨a,c,kk TO (by simp) _ hTO⟩,WU h1 λo q=>kk i1 (by simp) o q,WU h2 λo q=>kk i2 (by simp) o q⟩
 item:=by
  intro X hP hw hK hc i pins s σ H E I hf st hg
  subst hP hw hK
  obtain⟨hz,hTI,⟨a,c,hTO⟩,h1,h2⟩:=st
  obtain⟨xs,ys,x,y,hq1,hq2,hx,hy⟩:=hg
  obtain⟨its,rv,p,_⟩:=I.sq hq1
  obtain⟨its2,rv2,p2,_⟩:=I.sq hq2
  obtain⟨u,hu,ru⟩:=rv.get hx
  obtain⟨u2,hu2,ru2⟩:=rv2.get hy
  have hl1:i<its.toArray.size:=by simpa using (t8.mp hu).1
  have hl2:i<its2.toArray.size:=by simpa using (t8.mp hu2).1
  have hh:X.A.in1.handled=none:=I.ok.hd hc
  refine ZF (WW hh b1 i1 l1 n1 its.toArray) (WW hh b2 i2 l2 n2 its2.toArray) ap hz hTI hTO ⟨h1,p⟩ ⟨h2,p2⟩ hl1 hl2 λv1 v2 h' tk e1 e2 hz' hTO' s1 s2 hT' hk=>?_
  have eu:v1=u:=by
   have:its[i]?≈v1:=by simpa using e1
   rw[hu]at this
   exact(g0 this).symm
  have eu2:v2=u2:=by
   have:its2[i]?≈v2:=by simpa using e2
   rw[hu2]at this
   exact(g0 this).symm
  subst eu eu2
  obtain⟨nd,az1,az2,ao1,ao2,a12,a21⟩:=ap
  simp only[iQ,t9,g8,cP,fV,Cy,jY,and_true]at nd
  obtain⟨⟨m1,m2,m3,m4⟩,⟨m5,m6,m7⟩,⟨m8,m9⟩,m10⟩:=nd
  refine⟨_,rfl,wpAny_letOwnedTupleGo_zip hz' λh2' hz2 hs2=>?_⟩
  have hfr:H ⇑s=none:=I.hok.fresh (t6 _)
  have neZ:⇑s≠z:=iR (j4 hz)
  have hT2:Q08 h2' ⇑s v1 v2:=(hs2.2 _ neZ).trans hT'
  have hTI':Q08 h' TI (.ref i1) (.ref i2):=hk TI _ (by simp[bh m1,m5,m6,m7]) hTI
  have lt:∀ b∈[z,TI,TO,i1,i2],b<⇑s:=λb hb=>by
   simp only[t9,g8,cP]at hb
   rcases hb with rfl|rfl|rfl|rfl|rfl
   .exact j4 hz
   .exact j4 hTI
   .exact j4 hTO
   .obtain⟨o,ho,_⟩:=ZW h1;exact j4 ho
   .obtain⟨o,ho,_⟩:=ZW h2;exact j4 ho
  refine⟨.ref ⇑s,aA H ⇑s (.tup [x,y]),?_,rfl,⟨_,x,y,rfl,hfr,rfl,λzs hz=>by rw[I.sq_inj hz hq1];exact hx,λzs hz=>by rw[I.sq_inj hz hq2];exact hy⟩,
   ⟨hz2,(hs2.2 TI (bh m1)).trans hTI',⟨_,_,(hs2.2 TO (bh m2)).trans hTO'⟩,WU s1.1 λo q=>(hs2.2 i1 (bh m3)).trans q,WU s2.1 λo q=>(hs2.2 i2 (bh m4)).trans q⟩,λb hb=>?_⟩
  .refine I.grown (ch:=[z,TI,TO,i1,i2]) hf (t6 _) (λb v hb q=>?_) ?_
   .have nb:b≠z:=λw=>hb (by simp[w])
    refine(hs2.2 b nb).trans (hk b v (λw=>hb ?_) q)
    simp only[t9,g8,cP]at w ⊢
    rcases w with w|w|w|w
    .exact .inl w
    .exact .inr (.inr (.inl w))
    .exact .inr (.inr (.inr (.inl w)))
    .exact .inr (.inr (.inr (.inr w)))
   .exact⟨by show 2<=sizeLine;decide,[v1,v2],.cons ru (.cons ru2 .nil),⟨_,hT2,rfl,0,rfl⟩⟩
  .rw[zj (r4 (lt b hb))]
   exact(hf b hb).1
 done:=by
  intro X hP hw hK hc i pins s σ H E I hf st hg
  subst hP hw hK
  obtain⟨hz,hTI,⟨a,c,hTO⟩,h1,h2⟩:=st
  obtain⟨xs,hq,rfl⟩:=hg
  obtain⟨its,rv,p,_⟩:=I.sq hq
  have hl:=↥rv
  have hh:X.A.in1.handled=none:=I.ok.hd hc
  have D:=WW (prog:=X.prog) (w:=X.w) hh b1 i1 l1 n1 its.toArray
  refine Xp D ap.z1 ?_ hz hTI ⟨by rw[j0,<- hl];exact h1,p⟩ λh' hk=>⟨rfl,I.turnedN (ch:=[z,TI,TO,i1,i2]) (t':=s.toks) hf λb v hb q=>hk b v (λw=>hb (by simp[w])) (λw=>hb (by simp[w])) q⟩
  have nd:=ap.nd
  simp only[iQ,t9,g8,cP,fV,Cy,jY,and_true]at nd
  exact bh nd.1.2.2.1
 self:=λ_ _ _ _ _ st h=>wpAny_pyIter_zip st.1 h
def JK (K:zA)(c:TA):TI:=fun σ H R=>c σ H λf H1=>∃ b1 b2 a b e d,f=[.ref a,.ref b]/\Sq b1 K H1 a e/\Sq b2 K H1 b d/\R (S7 K b1 b2 a b) H1
def zq7 {X:Cx} {es:y0} {k:Nat} {S:Pos} {a b:Expr} {K:TA} {p v:Pos} (hg:Gl X "zip") (hm:X.mg "zip"=none) (o:Q0j "zip"≈(.type "zip")) (T:PA X [a,b] K)
 (Y:Q0c [a,b] X.env=[(false,eval a X.env),(false,eval b X.env)]:=by rfl) (t:Q0c [b] X.env=[(false,eval b X.env)]:=by rfl):PI X (.Tuple es k S) (.Call (.Name "zip" p) [a,b] [] v) (JK X.K K):=by
 intro g s σ H R I h
 refine Call_ (Wn I hg hm o (rA (aG (T v g s σ H _ I h) λus c hh9=>?_) (by rw[Y,t]) (by rw[t];rfl)))
 obtain⟨vs,H1,I1,U,L⟩:=hh9
 obtain⟨b1,b2,x,G,xs,ys,e,z,C,q⟩:=L
 subst e
 obtain⟨u,u2,rfl,V,D⟩:=lZ U
 cases V
 cases D
 obtain⟨O,rv,W,d⟩:=I1.sq z
 obtain⟨M,Z,P,r⟩:=I1.sq C
 refine zci W P λh2 N E B y J Q=>wpAny_pyIter_zip N ?_
 have w:∀ b,⇑c<=b->cZ X g H1 b:=λb o=>I1.fpOk o (I1.hok.fresh o)
 have ap:uR (⇑c+4) (⇑c+2) (⇑c+3) ⇑c (⇑c+1) [⇑c,x] [⇑c+1,G]:=by
  have L:x≠⇑c:=r4 d
  have A:∀ j:Nat,⇑c+j≠x:=λj e=>dW _ (q5 (by rw[<-e]at d;exact d) (iJ _ _))
  have F:∀ j:Nat,⇑c+j≠G:=λj e=>dW _ (q5 (by rw[<-e]at r;exact r) (iJ _ _))
  have f:∀ i j:Nat,i≠j->⇑c+i≠⇑c+j:=λi j h e=>h (Cq e)
  have l:∀ i:Nat,i≠0->⇑c+i≠⇑c:=λi h e=>h (Cq (n:=⇑c) (m:=i) (k:=0) e)
  refine⟨?_,?_,?_,?_,?_,?_,?_⟩
  .simp only[iQ,t9,g8,cP,fV,Cy,jY,and_true]
   exact⟨⟨f 4 2 ⋯,f 4 3 ⋯,l 4 ⋯,f 4 1 ⋯⟩,⟨f 2 3 ⋯,l 2 ⋯,f 2 1 ⋯⟩,⟨l 3 ⋯,f 3 1 ⋯⟩,bh (l 1 ⋯)⟩
  .simp only[t9,g8,cP,fV];exact⟨l 4 ⋯,A 4⟩
  .simp only[t9,g8,cP,fV];exact⟨f 4 1 ⋯,F 4⟩
  .simp only[t9,g8,cP,fV];exact⟨l 3 ⋯,A 3⟩
  .simp only[t9,g8,cP,fV];exact⟨f 3 1 ⋯,F 3⟩
  .simp only[t9,g8,cP,fV];exact⟨bh (l 1 ⋯),F 0⟩
  .simp only[t9,g8,cP,fV];exact⟨l 1 ⋯,A 1⟩
 refine⟨_,_,_,_,H1,rfl,I1.kept (t':=c.toks) Q,zj6 b1 b2 x G _ _ _ _ _ ap (r4 d) (r4 (qK r)),⟨N,E,⟨_,_,B⟩,y,J⟩,λb o=>?_,q⟩
 simp only[t9,g8,cP]at o
 rcases o with rfl|rfl|rfl|rfl|rfl
 .exact w _ (iJ _ _)
 .exact w _ (iJ _ _)
 .exact w _ (iJ _ _)
 .exact w _ (t6 _)
 .exact w _ (iJ _ _)
end L2
namespace OwnSort
open PySem PyProof.Rows
section pure
variable {κ:KeyKind}{xs:Array Keyed}
def up1 (b:Q0y κ xs x)(e:1<=x)(h:κ.kle (KK κ xs (x-1)) (KK κ xs x)):Q0y κ xs (x+1):=λi j a f=>by
 by_cases c:j<x
 .exact b i j a c
 .obtain rfl:j=x:=by omega
  by_cases d:i=j
  .rw[d];exact jw _
  .exact BK (b i (j-1) ∅ ∅) h
def uH (b:Q1j κ xs x)(e:1<=x)(h:κ.kle (KK κ xs x) (KK κ xs (x-1))):Q1j κ xs (x+1):=λi j a f=>by
 by_cases c:j<x
 .exact b i j a c
 .obtain rfl:j=x:=by omega
  by_cases d:i=j
  .rw[d];exact jw _
  .exact BK h (b i (j-1) ∅ ∅)
def Vu (e:∀ i,KK κ b i=KK κ xs i)(h:Q1j κ xs n):Q1j κ b n:=λi j a c=>by rw[e,e];exact h i j a c
def turned {n:Nat}(a:n<=xs.size)(h:Q1j κ xs n):Q0y κ (mirror xs 0 n ((n-0)/2)) n:=λi j b c=>by
 rw[KK_mirror a,KK_mirror a,t5 ⟨by omega,by omega⟩,t5 ⟨by omega,by omega⟩]
 exact h _ _ ∅ ∅
def zgs:Q0y κ xs 1:=λi j a b=>by
 obtain rfl:i=j:=by omega
 exact jw _
def zgl:Q1j κ xs 1:=λi j a b=>by
 obtain rfl:i=j:=by omega
 exact jw _
end pure
structure SB (k:Q1M) (a₀:Array Keyed) (st:Q1l):Prop where
 pm:(Q0s st).Perm a₀
 kd:kindOf st=k
 fl:Q2x st=none
 pd:Q1G st=#[]
def SB.sz {k:Q1M}{b:Array Keyed}(B:SB k b a):(Q0s a).size=b.size:=B.pm.size_eq
def SB.put {k:Q1M}{b:Array Keyed}(B:SB k c a)(p:b.Perm (Q0s a)):SB k c (setArr a b):=⟨p.trans B.pm,B.kd,B.fl,B.pd⟩
section
variable {prog:zO}{w:Q0k}{A:zP}{E:yM}{s:zm}{a₀:Array Keyed}{κ:KeyKind}{k:Q1M}{st:Q1l}
def LtOk (prog:zO)(w:Q0k)(A:zP)(E:yM)(s:zm)(a₀:Array Keyed)(κ:KeyKind)(k:Q1M):Prop :=
 ∀ (st:Q1l) (i j:Nat) (Q:Option Bool->Q1l->Prop),SB k a₀ st->i<a₀.size->j<a₀.size->Q (some (κ.blt (KK κ (Q0s st) i) (KK κ (Q0s st) j))) st->wpS (Q0i prog w) A E s (ltAt' i j) Q st
def Nu {a n:Nat}{Q:AscSt->Q1l->Prop}(L:LtOk prog w A E s a₀ κ k)(l:n<=a₀.size)(j:1<=a)(f:a<=n)(B:SB k a₀ st)(g:Q0y κ (Q0s st) a)
 (h:∀ m,a<=m->m<=n->Q0y κ (Q0s st) m->(m=n\/κ.klt (KK κ (Q0s st) m) (KK κ (Q0s st) (m-1)))->Q (none,m) st):wpS (Q0i prog w) A E s (ascLoop a n) Q st:=by
 unfold ascLoop
 refine mO (I:=λx c t=>(t=st/\c=(none,x))/\Q0y κ (Q0s st) x) (λx c t i o d=>?_) (λc t d=>?_) ⟨⟨rfl,rfl⟩,g⟩
 .obtain⟨⟨rfl,rfl⟩,b⟩:=d
  refine bz (L _ x (x-1) _ B ∅ ∅ ?_)
  cases c:κ.blt (KK κ (Q0s t) x) (KK κ (Q0s t) (x-1)) with
  |true=>exact bQ (h x i ∅ b (.inr c))
  |false=>exact bQ ⟨⟨rfl,rfl⟩,up1 b ∅ c⟩
 .obtain⟨⟨rfl,rfl⟩,b⟩:=d
  have e:max a n=n:=by omega
  rw[e]at b ⊢
  exact h n f (t6 _) b (.inl rfl)
def Qx {n m:Nat}{Q:Option Nat->Q1l->Prop}(L:LtOk prog w A E s a₀ κ k)(c:m<=a₀.size)(b:1<=n)(a:n<=m)(B:SB k a₀ st)(e:Q1j κ (Q0s st) n)
 (h:∀ r t,SB k a₀ t->1<=r->r<=m->Q0y κ (Q0s t) r->Q (some r) t):wpS (Q0i prog w) A E s (tail3 n m) Q st:=by
 unfold tail3
 have B':=B.put (Q2j (Q0s st) 0 n ((n-0)/2))
 exact bz (Q2m (bz (Nu L c b a B' (turned (by rw[B.sz];omega) e) λr g d f _=>bQ (h r _ B' ∅ d f))))
def zj3 {n m:Nat}{Q:DescSt->Q1l->Prop}(L:LtOk prog w A E s a₀ κ k)(H:m<=a₀.size)(C:1<=n)(v:n<=m)(B:SB k a₀ st)(G:Q1j κ (Q0s st) n)
 (h:∀ r q t,SB k a₀ t->n<=r->r<=m->Q1j κ (Q0s t) r->q+1<=r->(∀ i,r-(q+1)<=i->i<r->KK κ (Q0s t) i=KK κ (Q0s t) (r-1))->Q (none,r,q) t):wpS (Q0i prog w) A E s (descLoop n m) Q st:=by
 unfold descLoop
 refine mO (I:=λx c t=>∃ q,c=(none,x,q)/\SB k a₀ t/\Q1j κ (Q0s t) x/\q+1<=x/\∀ i,x-(q+1)<=i->i<x->KK κ (Q0s t) i=KK κ (Q0s t) (x-1))
  (λx c t D z y=>?_) (λc t y=>?_) ⟨0,rfl,B,G,C,λi o b=>by rw[show i=n-1 from qU (Ce b) o]⟩
 .obtain⟨q,rfl,B1,g,u,j⟩:=y
  have a:x<a₀.size:=q5 z H
  have f:x-1<a₀.size:=l6 (Nat.sub_le _ _) a
  have p:1<=x:=k8 C D
  have J:x<=(Q0s t).size:=by rw[B1.sz];exact i7 a
  refine bz (L _ x (x-1) _ B1 a f ?_)
  cases c:κ.blt (KK κ (Q0s t) x) (KK κ (Q0s t) (x-1)) with
  |true =>
   have d:=uH g p (CP c)
   by_cases l:q>0
   .show wpS _ _ _ _ (if q>0 then _ else _) _ _
    rw[t5 l]
    exact bz (Q2m (bQ ⟨0,rfl,B1.put (Q2j _ _ _ _),Vu (Q1W J j) d,qG (cO _),λi o b=>by rw[show i=x+1-1 from qU (i4 b) o]⟩))
   .show wpS _ _ _ _ (if q>0 then _ else _) _ _
    rw[j5 l]
    exact bQ ⟨0,rfl,B1,d,qG (cO _),λi o b=>by rw[show i=x+1-1 from qU (i4 b) o]⟩
  |false =>
   refine bz (L _ (x-1) x _ B1 f a ?_)
   cases b:κ.blt (KK κ (Q0s t) (x-1)) (KK κ (Q0s t) x) with
   |true=>exact bQ (h x q t B1 D (i7 z) g u j)
   |false =>
    have same:KK κ (Q0s t) x=KK κ (Q0s t) (x-1):=Q2e b c
    refine bQ ⟨q+1,rfl,B1,uH g p b,qG u,λi M K=>?_⟩
    show KK κ (Q0s t) i=KK κ (Q0s t) x
    by_cases F:i=x
    .rw[F]
    .rw[same];exact j i ∅ ∅
 .obtain⟨q,rfl,B1,g,u,j⟩:=y
  have e:max n m=m:=Nat.max_eq_right v
  rw[e]at g u j ⊢
  exact h m q t B1 v (t6 _) g u j
def X1 {n m:Nat}{Q:Option Nat->Q1l->Prop}(L:LtOk prog w A E s a₀ κ k)(b:m<=a₀.size)(c:n+1<=m)(B:SB k a₀ st)(g:Q1j κ (Q0s st) (n+1))
 (h:∀ r t,SB k a₀ t->1<=r->r<=m->Q0y κ (Q0s t) r->Q (some r) t):wpS (Q0i prog w) A E s (descPart n m) Q st:=by
 unfold descPart
 refine bz (wpS_lift (iI ⟨rfl,bz (zj3 L b ∅ c B g λr q t B1 j d e l f=>?_)⟩))
 have i:r<=(Q0s t).size:=by rw[B1.sz];omega
 by_cases a:q>0
 .show wpS _ _ _ _ (if q>0 then _ else _) _ _
  rw[t5 a]
  exact bz (Q2m (Qx (n:=r) L b ∅ d (B1.put (Q2j _ _ _ _)) (Vu (Q1W i f) e) h))
 .show wpS _ _ _ _ (if q>0 then _ else _) _ _
  rw[j5 a]
  exact Qx (n:=r) L b ∅ d B1 e h
def zoD {m:Nat}{Q:Option Nat->Q1l->Prop}(L:LtOk prog w A E s a₀ κ k)(b:m<=a₀.size)(u:1<=m)(B:SB k a₀ st)
 (h:∀ r t,SB k a₀ t->1<=r->r<=m->Q0y κ (Q0s t) r->Q (some r) t):wpS (Q0i prog w) A E s (countRun' 0 m) Q st:=by
 rw[countRun0_eq]
 refine bz (Nu L b (t6 1) u B zgs λn o l a or=>?_)
 show wpS _ _ _ _ (if (n == m) then _ else if n>1 then _ else _) _ _
 by_cases e:n=m
 .rw[t5 (by rw[e];exact qF m)]
  exact bQ (h n st B o l a)
 .rw[j5 (λz=>e (eq_of_beq z))]
  have f:=or.resolve_left e
  by_cases g:n>1
  .rw[t5 g]
   refine bz (L _ 0 (n-1) _ B ∅ ∅ ?_)
   cases c:κ.blt (KK κ (Q0s st) 0) (KK κ (Q0s st) (n-1)) with
   |true=>exact bQ (h n st B o l a)
   |false =>
    have x:n<=(Q0s st).size:=by rw[B.sz];omega
    have d:∀ i,0<=i->i<n->KK κ (Q0s st) i=KK κ (Q0s st) (n-1):=λi _ q =>
     Q2e (a i (n-1) ∅ ∅) (BK c (a 0 i ∅ q))
    have v:Q1j κ (Q0s st) n:=λi j _ p=>by rw[d i ∅ ∅,d j ∅ p];exact jw _
    exact bz (Q2m (X1 L b ∅ (B.put (Q2j _ _ _ _)) (Vu (Q1W x d) (uH v ∅ (CP f))) h))
  .rw[j5 g]
   obtain rfl:n=1:=by omega
   exact X1 L b ∅ B (uH zgl (t6 1) (CP f)) h
def zpZ {l u a:Nat}(h:(l+u)/2=a)(c:¬ l >= u):l<=a/\a<u:=by
 have b:l<u:=Nat.lt_of_not_le c
 rw[<-h]
 exact⟨(Nat.le_div_iff_mul_le ⋯).mpr (by rw[Nat.mul_two];exact Cr (i7 b) l),(Nat.div_lt_iff_lt_mul ⋯).mpr (by rw[Nat.mul_two];exact Nat.add_lt_add_right b u)⟩
def Tt {l u a x y:Nat}(c:l<=a)(b:a<u)(d:u-l<=x-y):a-l<=x-(y+1) :=
 k8 (Ce (Nat.sub_lt_sub_right c b)) (Ii d 1)
def Tf {l u a x y:Nat}(c:l<=a)(b:u-l<=x-y):u-(a+1)<=x-(y+1) :=
 k8 (Nat.sub_le_sub_left (qG c) u) (Ii b 1)
def zqR (r n:Nat):min (max (max r 1) n) n=n:=HX (Nat.le_max_right _ _)
def zrT {r n:Nat}(b:¬ r=0)(a:r<=n):min (max r 1) n=r:=by
 rw[Nat.max_eq_left (Nat.pos_of_ne_zero b),km a]
def Uu {i j r:Nat}(b:r=0)(a:i<=j)(c:j<min (max r 1) n):i=j:=by
 subst b
 have h0:j=0:=Nat.lt_one_iff.mp (q5 c (Nat.min_le_left _ _))
 subst h0
 exact Nat.le_zero.mp a
def zoz {n r:Nat}{Q:Bool->Q1l->Prop}(L:LtOk prog w A E s a₀ κ k)(W:n<=a₀.size)(Y:r<=n)(B:SB k a₀ st)(X:Q0y κ (Q0s st) r)
 (h:∀ t,SB k a₀ t->Q0y κ (Q0s t) n->Q true t):wpS (Q0i prog w) A E s (binarySort' 0 n r) Q st:=by
 rw[binarySort'_eq]
 refine bz (wpS_mono (mO (I:=λx c t=>(c=(none,())/\SB k a₀ t)/\Q0y κ (Q0s t) (min x n)) (Q:=λc t=>(c=(none,())/\SB k a₀ t)/\Q0y κ (Q0s t) n)
  (λx c t g1 M G=>?_) (λc t G=>?_) ⟨⟨rfl,B⟩,?_⟩) λc t G=>?_)
 .obtain⟨⟨rfl,B1⟩,b⟩:=G
  rw[km (i7 M)]at b
  have O:x<a₀.size:=q5 M W
  refine bz (wpS_mono (mO
   (I:=λy c g=>g=t/\∃ l u,c=(none,l,u)/\(l<=u/\u<=x/\u-l<=x-y)/\(∀ i,i<l->κ.kle (KK κ (Q0s t) i) (KK κ (Q0s t) x))/\∀ i,u<=i->i<x->κ.klt (KK κ (Q0s t) x) (KK κ (Q0s t) i))
   (Q:=λc g=>g=t/\∃ l u,c=(none,l,u)/\l<=x/\(∀ i,i<l->κ.kle (KK κ (Q0s t) i) (KK κ (Q0s t) x))/\∀ i,l<=i->i<x->κ.klt (KK κ (Q0s t) x) (KK κ (Q0s t) i))
   (λy c g Z y2 F=>?_) (λc g F=>?_) ⟨rfl,0,x,rfl,⟨cO _,t6 _,t6 _⟩,λi V=>absurd V (Nat.not_lt_zero _),λi d o=>absurd (l6 d o) (dW _)⟩) λc g F=>?_)
  .obtain⟨rfl,l,u,rfl,⟨K,f,N⟩,z,v⟩:=F
   show wpS _ _ _ _ (if l >= u then _ else _) _ _
   by_cases D:l >= u
   .rw[t5 D]
    obtain rfl:l=u:=qU K D
    exact bQ ⟨rfl,l,l,rfl,f,z,v⟩
   .rw[j5 D]
    generalize H:(l+u)/2=md
    obtain⟨P,J⟩:=zpZ H D
    clear H D K
    refine bz (L _ (0+x) (0+md) _ B1 (by rw[i3];exact O) (by rw[i3];exact q5 J (k8 f (i7 O))) ?_)
    rw[i3,i3]
    cases S:κ.blt (KK κ (Q0s g) x) (KK κ (Q0s g) md) with
    |true=>exact bQ ⟨rfl,l,md,rfl,⟨P,k8 (i7 J) f,Tt P J N⟩,z,λi d o=>KeyOrd.klt_of_klt_of_kle S (b _ _ d o)⟩
    |false=>exact bQ ⟨rfl,md+1,u,rfl,⟨J,f,Tf P N⟩,λi d=>BK (b i md (i4 d) (q5 J f)) S,v⟩
  .obtain⟨rfl,l,u,rfl,⟨K,f,N⟩,z,v⟩:=F
   obtain rfl:l=u:=by omega
   exact⟨rfl,l,l,rfl,f,z,v⟩
  .obtain⟨rfl,l,u,rfl,f,z,v⟩:=F
   show wpS _ _ _ _ (do moveDown' (0+x) (0+l);pure (Q0T (none,()))) _ _
   rw[moveDown'_eq,i3,i3]
   refine bz (wpS_modify (bQ ⟨⟨rfl,B1.put (bubble_perm _ _ _)⟩,?_⟩))
   have U:x<(Q0s g).size:=by rw[B1.sz];exact O
   rw[km (Nat.succ_le_of_lt M)]
   show Q0y κ (bubble (Q0s g) x (x-l)) (x+1)
   intro i j a m
   rw[KK_bubble U (Nat.sub_le _ _),KK_bubble U (Nat.sub_le _ _),Nat.sub_sub_self f]
   by_cases d:i=l
   .rw[t5 d]
    by_cases q:j=l
    .rw[t5 q];exact jw _
    .have p:l<j:=qO (by rw[<-d];exact a) (λe=>q e.symm)
     rw[j5 q,t5 ⟨p,i4 m⟩];exact CP (v _ (Ce p) (q5 (Nat.sub_lt (Ia p) Q1J) (i4 m)))
   .rw[j5 d]
    by_cases o:l<i/\i<=x
    .have p:=q5 o.1 a
     rw[t5 o,j5 (λe=>absurd p (by rw[e];exact dW _)),t5 ⟨p,i4 m⟩];exact b _ _ (Ii a 1) (q5 (Nat.sub_lt (Ia p) Q1J) (i4 m))
    .rw[j5 o]
     have R:i<l:=qO (jx λh=>o ⟨h,k8 a (i4 m)⟩) d
     clear o d
     by_cases q:j=l
     .rw[t5 q];exact z i R
     .rw[j5 q]
      by_cases C:l<j/\j<=x
      .rw[t5 C];exact b _ _ (Ce (Nat.lt_trans R C.1)) (q5 (Nat.sub_lt (Ia C.1) Q1J) (i4 m))
      .rw[j5 C];exact b _ _ a (q5 (qO (jx λh=>C ⟨h,i4 m⟩) q) f)
 .obtain⟨⟨K,B1⟩,b⟩:=G
  rw[zqR]at b
  exact⟨⟨K,B1⟩,b⟩
 .by_cases T:r=0
  .intro i j a m
   obtain rfl:i=j:=Uu T a m
   exact jw _
  .rw[zrT T Y];exact X
 .obtain⟨⟨rfl,B1⟩,b⟩:=G
  exact bQ (h t B1 b)
def own_runs {Q:Unit->Q1l->Prop}(L:LtOk prog w A E s a₀ κ k)(B:SB k a₀ st)(D:2<=a₀.size)(y:a₀.size<64)
 (h:∀ t,(Q0s t).Perm a₀->Q2x t=none->Q0y κ (Q0s t) a₀.size->Q () t):wpS (Q0i prog w) A E s sortRuns' Q st:=by
 rw[sortRuns'_eq]
 have v:minRun' a₀.size a₀.size 0=a₀.size:=by
  cases e:a₀.size with
  |zero=>omega
  |succ f=>rw[minRun'_succ,t5 ∅,Nat.add_zero]
 refine bz (wpS_get ?_)
 simp only[B.sz,v]
 let Dn:Q1l->Prop:=λt=>(Q0s t).Perm a₀/\Q2x t=none/\Q1G t=#[(0,a₀.size,0)]/\Q0y κ (Q0s t) a₀.size
 have fin:∀ t,SB k a₀ t->Q0y κ (Q0s t) a₀.size->Dn (setPending t ((Q1G t).push (0,a₀.size,0))):=λt B1 n=>⟨B1.pm,B1.fl,by show(Q1G t).push _=_;rw[B1.pd];rfl,n⟩
 refine bz (wpS_mono (mO (I:=λx c t=>(x=0/\c=(none,0)/\SB k a₀ t)\/(1<=x/\c=(none,a₀.size)/\Dn t)) (Q:=λc t=>c=(none,a₀.size)/\Dn t)
  (λx c t G C a=>?_) (λc t a=>?_) (.inl ⟨rfl,rfl,B⟩)) λc t a=>?_)
 .rcases a with ⟨rfl,rfl,B1⟩|⟨_,rfl,D1⟩
  .show wpS _ _ _ _ (if 0 >= a₀.size then _ else _) _ _
   rw[j5 ∅]
   simp only[Bt,Nat.min_self,i3]
   refine bz (zoD L (t6 _) ∅ B1 λr g B2 F l i=>?_)
   show wpS _ _ _ _ (if r<a₀.size then _ else _) _ _
   by_cases d:r<a₀.size
   .rw[t5 d]
    refine bz (wpS_lift (iI ⟨rfl,bz (zoz L (t6 _) l B2 i λj B3 m=>?_)⟩))
    refine bz (wpS_get ?_)
    rw[show(Q1G j).back?=none by rw[B3.pd];rfl]
    exact bz (wpS_modify (bQ (.inr ⟨by omega,rfl,fin j B3 m⟩)))
   .rw[j5 d]
    obtain rfl:r=a₀.size:=by omega
    refine bz (wpS_get ?_)
    rw[show(Q1G g).back?=none by rw[B2.pd];rfl]
    exact bz (wpS_modify (bQ (.inr ⟨by omega,rfl,fin g B2 i⟩)))
  .show wpS _ _ _ _ (if a₀.size >= a₀.size then _ else _) _ _
   rw[t5 (t6 _)]
   exact bQ ⟨rfl,D1⟩
 .rcases a with ⟨z,_,_⟩|⟨_,e,D1⟩
  .omega
  .exact⟨e,D1⟩
 .obtain⟨rfl,p,o,u,q⟩:=a
  refine bz (wpS_mono (mO (I:=λ_ c b=>b=t/\c=(none,())) (Q:=λc b=>b=t/\c=(none,())) (λx c b _ _ a=>?_) (λ_ _ z=>z) ⟨rfl,rfl⟩) λc b a=>?_)
  .obtain⟨rfl,rfl⟩:=a
   refine bz (wpS_get ?_)
   rw[t5 (by rw[u];exact t6 1)]
   exact bQ ⟨rfl,rfl⟩
  .obtain⟨rfl,rfl⟩:=a
   exact bQ (h _ p o q)
end
abbrev Pr:=Int × Int
def bltP (s t:Pr):Bool:=decide (s.1<t.1\/(s.1=t.1/\s.2<t.2))
def TP (h:Heap) (v:Q0e) (t:Pr):Prop:=∃ a o n b ty,v=.ref a/\h.get? a≈o/\o.cls=.type "tuple"/\o.data=.seq #[.int t.1 b,.int t.2 ty] n
def TP.uniq {t:Pr}(x:TP h v s)(y:TP h v t):s=t:=by
 obtain⟨a,o,n,j,ty,rfl,g,_,f⟩:=x
 obtain⟨b,k,l,m,i,e,d,_,c⟩:=y
 cases e
 rw[g]at d
 cases d
 rw[f]at c
 injection c with c _
 have:=bJ Q2H c
 simp at this
 exact gD this.1.1 this.2.1
def TP.keep {h c:Heap}{t:Pr}(x:TP h v t)(k:∀ b o,h.get? b≈o->c.get? b≈o):TP c v t:=by
 obtain⟨a,o,n,d,ty,e,f,r⟩:=x
 exact⟨a,o,n,d,ty,e,k _ _ f,r⟩
open Classical in
noncomputable def keyP (h:Heap)(v:Q0e):Option Pr:=if x:∃ t,TP h v t then some x.choose else none
def keyP_of {t:Pr}(x:TP h v t):keyP h v≈t:=by
 unfold keyP
 have y:∃ t,TP h v t:=⟨t,x⟩
 rw[dif_pos y,y.choose_spec.uniq x]
@[reducible] noncomputable def kindP (h:Heap):KeyKind where
 α:=Pr
 blt:=bltP
 irrefl a:=by unfold bltP;exact r0 ∅
 trans a b c h1 h2:=by unfold bltP at *;rw[k7]at *;omega
 negTrans a b c h:=by unfold bltP at *;rw[k7]at *;rw[k7];omega
 total a b h1 h2:=by
  unfold bltP at *
  rw[h8]at *
  exact gD ∅ ∅
 keyOf:=keyP h
 dflt:=(0,0)
def zhE (b:Bool)(x y:Q0e):keyLt' (tuples' b) x y=(do
 let xs<-Q09 x
 let ys<-Q09 y
 for ((p,q),i)in (xs.toList.zip ys.toList).zipIdx do
  if !(<- eqBool p q)then return<-oneLt' (b&&i == 0) p q
 return xs.size<ys.size):=rfl
def zig (v:Q0e):firstOfTuple' v=(do
 if (<- typeOf v) != .type "tuple" then return none
 return (<- Q09 v)[0]?):=rfl
section
variable {prog:zO}{w:Q0k}{A:zP}{E:yM}{s:zm}
def lt0 {a b:Int}{t:Tok}{Q:Bool->Q0u->Prop}(h:Q (decide (a<b)) s):Q0d (Q0i prog w) A (oneLt' false (.int a t) (.int b u)) Q E s:=by
 rw[oneLt'_eq]
 rw[j5 u7]
 exact u3 (PyProof.Rows.lt_int (fX h))
def Qp:∀ {a:zC},(∀ f∈a,∃ i t,f=.int i t)->a.mapM typeOf=pure (a.map λ_=>Q0A "int")
 |[],_=>by simp
 |f::a,h=>by
  obtain⟨i,t,rfl⟩:=h f o5
  rw[List.mapM_cons,Qp λg b=>h g (r6 _ b),show typeOf (.int i t)=pure (.type "int")from rfl]
  simp
end
end OwnSort
namespace OwnTim
open PySem PyProof.Rows
def ky (κ:KeyKind)(x:Keyed):κ.α:=(κ.keyOf x.1).getD κ.dflt
def LtE (a:zO)(w:Q0k)(A:zP)(E:yM)(s:zm)(κ:KeyKind)(k:Q1M)(D:Keyed->Prop):Prop :=
 ∀ (b:Q1l) (x y:Keyed) (Q:Option Bool->Q1l->Prop),kindOf b=k->D x->D y->Q (some (κ.blt (ky κ x) (ky κ y))) b->wpS (Q0i a w) A E s (lt' x y) Q b
section
variable {prog:zO}{w:Q0k}{A:zP}{E:yM}{s:zm}{a₀:Array Keyed}{κ:KeyKind}{k:Q1M}{st:Q1l}
def Ke {i:Nat}(h:a[i]?≈x):KK κ a i=ky κ x:=by
 unfold KK
 rw[h]
 rfl
def zoR (L:LtE prog w A E s κ k (·∈a₀.toList)):OwnSort.LtOk prog w A E s a₀ κ k:=by
 intro st i j Q S b f q
 have a:∀ {i},i<a₀.size->∃ x,(Q0s st)[i]?≈x/\x∈a₀.toList:=λ{i} b=>by
  have c:i<(Q0s st).size:=by rw[S.sz];exact b
  exact⟨(Q0s st)[i],getElem?_pos _ i c,(R8.mp S.pm).mem_iff.mp (by simp)⟩
 obtain⟨x,e,g⟩:=a b
 obtain⟨y,d,h⟩:=a f
 rw[Ke e,Ke d]at q
 rw[ltAt'_eq]
 refine bz (wpS_get ?_)
 show wpS _ _ _ _ (elem' (Q0s st) i>>=λx=>elem' (Q0s st) j>>=λy=>lt' x y) Q st
 rw[elem'_eq,elem'_eq,e,d]
 exact bz (bQ (bz (bQ (L _ _ _ _ S.kd g h q))))
def own_runsE {Q:Unit->Q1l->Prop}(L:LtE prog w A E s κ k (·∈a₀.toList))(d:(Q0s st).Perm a₀)(e:kindOf st=k)(f:Q2x st=none)(c:Q1G st=#[])
 (h:∀ t,(Q0s t).Perm a₀->Q2x t=none->Q0y κ (Q0s t) a₀.size->Q () t) (b:2<=a₀.size) (a:a₀.size<64):wpS (Q0i prog w) A E s sortRuns' Q st:=OwnSort.own_runs (zoR L) ⟨d,e,f,c⟩ b a h
end
end OwnTim
namespace OwnSortT
open PySem PyProof.Rows OwnSort
def lex_irr:∀ a:zr,HT.lexLt a a=false:=by
 intro a
 induction a with
 |nil=>rfl
 |cons x c b=>rw[HT.lexLt_cons,t5 rfl,b]
def lex_trans:∀ a b c:zr,HT.lexLt a b=true->HT.lexLt b c=true->HT.lexLt a c=true:=by
 intro a
 induction a with
 |nil =>
  intro b c e d
  cases c with
  |nil=>cases b <;> cases d
  |cons _ _=>rfl
 |cons x j h =>
  intro b c e d
  cases b with
  |nil=>cases e
  |cons y i=>cases c with
   |nil=>cases d
   |cons z zs =>
    rw[HT.lexLt_cons]at e d ⊢
    by_cases g:x=y
    .rw[t5 g]at e
     by_cases f:y=z
     .rw[t5 f]at d;rw[t5 (g.trans f)];exact h _ _ e d
     .rw[j5 f,k7]at d;rw[j5 ∅,k7];omega
    .rw[j5 g,k7]at e
     by_cases f:y=z
     .rw[j5 ∅,k7];omega
     .rw[j5 f,k7]at d;rw[j5 ∅,k7];omega
def lex_total:∀ a b:zr,HT.lexLt a b=false->HT.lexLt b a=false->a=b:=by
 intro a
 induction a with
 |nil =>
  intro b d c
  cases b with
  |nil=>rfl
  |cons _ _=>cases d
 |cons x h f =>
  intro b d c
  cases b with
  |nil=>cases c
  |cons y g =>
   rw[HT.lexLt_cons]at d c
   by_cases e:x=y
   .rw[t5 e]at d;rw[t5 e.symm]at c;rw[e,f _ d c]
   .rw[j5 e,h8]at d;rw[j5 (bh e),h8]at c;omega
def lex_neg (a b c:zr)(h:HT.lexLt a c=true):HT.lexLt a b=true\/HT.lexLt b c=true:=by
 cases e:HT.lexLt a b with
 |true=>exact .inl rfl
 |false =>
  refine .inr ?_
  cases d:HT.lexLt b a with
  |true=>exact lex_trans _ _ _ d h
  |false=>rw[<-lex_total _ _ e d];exact h
def TT (h:Heap) (v:Q0e) (t:zr):Prop:=∃ a o n b,v=.ref a/\h.get? a≈o/\o.cls=.type "tuple"/\o.data=.seq b.toArray n/\Q0R b t/\t≠[]
def zgG:∀ {c:zC} {ns a:zr},Q0R c ns->Q0R c a->ns=a:=by
 intro c ns a h
 induction h generalizing a with
 |nil=>intro b;cases b;rfl
 |cons n t h e=>intro b;cases b with|cons f g d=>rw[e d]
def TT.uniq {t:zr}(x:TT h v s)(y:TT h v t):s=t:=by
 obtain⟨a,o,n,d,rfl,k,_,i,q,_⟩:=x
 obtain⟨b,p,m,c,e,f,_,g,l,_⟩:=y
 cases e
 rw[k]at f
 cases f
 rw[i]at g
 have j:d.toArray=c.toArray:=by injection g
 cases List.toArray_inj j
 exact zgG q l
def TT.keep {h d:Heap}{t:zr}(x:TT h v t)(k:∀ b o,h.get? b≈o->d.get? b≈o):TT d v t:=by
 obtain⟨a,o,n,c,e,f,r⟩:=x
 exact⟨a,o,n,c,e,k _ _ f,r⟩
def TT.keepT {h f:Heap} {t:zr} (x:TT h v t) (k:∀ b o,o.cls=.type "tuple"->h.get? b≈o->f.get? b≈o):TT f v t:=by
 obtain⟨a,o,n,d,e,g,c,r⟩:=x
 exact⟨a,o,n,d,e,k _ _ c g,c,r⟩
open Classical in
noncomputable def keyTT (h:Heap)(v:Q0e):Option zr:=if x:∃ t,TT h v t then some x.choose else none
def keyTT_of {t:zr}(x:TT h v t):keyTT h v≈t:=by
 unfold keyTT
 have y:∃ t,TT h v t:=⟨t,x⟩
 rw[dif_pos y,y.choose_spec.uniq x]
@[reducible] noncomputable def ze6 (h:Heap):KeyKind where
 α:=zr
 blt:=HT.lexLt
 irrefl:=lex_irr
 trans:=lex_trans
 negTrans:=lex_neg
 total:=lex_total
 keyOf:=keyTT h
 dflt:=[]
section
variable {prog:zO}{w:Q0k}{A:zP}{E:yM}{s:zm}
def lB (d:Bool):zr->zr->Bool
 |x::xs,y::ys=>if x=y then lB d xs ys else decide (x<y)
 |_,_=>d
def zoQ:∀ a b:zr,lB (decide (↥a<↥b)) a b=HT.lexLt a b:=by
 intro a
 induction a with
 |nil=>intro b;cases b with
  |nil=>rfl
  |cons _ _=>rfl
 |cons x d e=>intro b;cases b with
  |nil=>rfl
  |cons y c =>
   rw[HT.lexLt_cons,<- e c]
   show(if x=y then lB (decide (↥d+1<↥c+1)) d c else decide (x<y))=_
   rw[show decide (↥d+1<↥c+1)=decide (↥d<↥c) by congr 1;apply propext;omega]
def Pa (x:(Q0e × Q0e) × Nat)(_:Option Bool × Unit):Sem (ForInStep (Option Bool × Unit)):=do
 let b<-eqBool x.1.1 x.1.2
 if (!b) then do
  let c<-oneLt' (true&&x.2 == 0) x.1.1 x.1.2
  pure (ForInStep.done (some c,()))
 else pure (Q0T (none,()))
def zkc:∀ {f:zC} {ns:zr} {a:zC} {b:zr} {k:Nat} {Q:Option Bool × Unit->Q0u->Prop},Q0R f ns->Q0R a b->(∀ r:Option Bool × Unit,r.1.getD d=lB d ns b->Q r s) ->
 Q0d (Q0i prog w) A (forIn ((f.zip a).zipIdx k) ((none,()):Option Bool × Unit) Pa) Q E s:=by
 intro f ns a b k Q h
 induction h generalizing a b k with
 |nil=>intro e q;exact t4 (q (none,()) rfl)
 |cons x t h j =>
  intro e q
  cases e with
  |nil=>exact t4 (q (none,()) rfl)
  |cons y u e =>
   rw[Iw,HY,mV]
   refine u3 (u3 (Iu x t y u prog w E _ ?_))
   by_cases c:x=y
   .rw[show(x == y)=true by rw[c];exact qF _]
    refine t4 (j e λr i=>q r (i.trans ?_))
    show _=(if x=y then lB d _ _ else decide (x<y))
    rw[t5 c]
   .rw[show(x == y)=false by simpa using c]
    have g:Q (some (decide (x<y)),()) s:=q _ (by
     show decide (x<y)=(if x=y then lB d _ _ else decide (x<y))
     rw[j5 c])
    cases k with
    |zero=>exact u3 (oneLt_int (t4 (t4 g)))
    |succ k=>exact u3 (lt0 (t4 (t4 g)))
def zm5 {Q:Bool->Q0u->Prop}(m:TT s.heap x a)(t:TT s.heap y b)(h:Q (HT.lexLt a b) s):Q0d (Q0i prog w) A (keyLt' (tuples' true) x y) Q E s:=by
 obtain⟨p,o,n,f,rfl,C,_,j,i,_⟩:=m
 obtain⟨q,D,F,c,rfl,k,_,B,g,_⟩:=t
 rw[zhE]
 refine u3 (Q13 C j (u3 (Q13 k B ?_)))
 show Q0d _ _ (forIn ((f.zip c).zipIdx 0) ((none,()):Option Bool × Unit) Pa>>=_) _ _ _
 refine u3 (zkc (d:=decide (↥f<↥c)) i g λr z=>?_)
 have e:Q (r.1.getD (decide (↥f<↥c))) s:=by
  rw[z,↥i,↥g,zoQ];exact h
 obtain⟨l,u⟩:=r
 cases l with
 |none=>exact t4 e
 |some v=>exact t4 e
def zlu (n:∀ v∈d,∃ t,TT s.heap v t):OwnTim.LtE prog w A E s (ze6 s.heap) (tuples' true) (·∈(Q2k d).toList):=by
 intro o x y Q i j k h
 have c:∀ {x:Keyed},x∈(Q2k d).toList->∃ t,TT s.heap x.1 t/\OwnTim.ky (ze6 s.heap) x=t:=λ{x} hm=>by
  rw[pairsOf_toList]at hm
  obtain⟨t,e⟩:=n _ (mem_zip_self hm).2
  refine⟨t,e,?_⟩
  unfold OwnTim.ky
  show(keyTT s.heap x.1).getD _=t
  rw[keyTT_of e]
  rfl
 obtain⟨a,f,g⟩:=c j
 obtain⟨b,m,l⟩:=c k
 rw[g,l]at h
 rw[lt'_eq]
 refine bz (wpS_get ?_)
 rw[i]
 exact bz (wpS_lift (jr (zm5 f m ⟨rfl,bQ h⟩)))
def RL:∀ {e:zC} {Q:List (Option Q0e)->Q0u->Prop},(∀ v∈e,∃ t,TT s.heap v t)->(∀ c:zC,↥c=↥e->(∀ f∈c,∃ i t,f=.int i t)->Q (c.map some) s)->Q0d (Q0i prog w) A (e.mapM firstOfTuple') Q E s
 |[],Q,_,h=>by rw[List.mapM_nil];exact t4 (h [] rfl (by simp))
 |v::e,Q,hT,h=>by
  obtain⟨t,a,o,n,j,rfl,m,y,p,l,k⟩:=hT v o5
  obtain⟨z,zs,g,d,rfl,rfl⟩:∃ z zs g d,j=z::zs/\z=.int g d:=by
   cases l with
   |nil=>exact absurd rfl k
   |cons g d l=>exact⟨_,_,_,_,rfl,rfl⟩
  rw[List.mapM_cons,zig]
  refine u3 (u3 (qD (T:="tuple") ⟨o,m,y⟩ ?_))
  rw[j5 (by simp)]
  refine u3 (Q13 m p (t4 (u3 (RL (λu x=>hT u (r6 _ x)) λc q r=>t4 ?_))))
  exact h (.int g d::c) (by simp[q]) λf b=>by
   rcases t9.mp b with rfl|b
   .exact⟨_,_,rfl⟩
   .exact r f b
def zji {Q:Q1M->Q0u->Prop}(i:∀ v∈c::b,∃ t,TT s.heap v t)(h:Q (tuples' true) s):Q0d (Q0i prog w) A (keyKind' (c::b).toArray) Q E s:=by
 rw[keyKind'_eq,List.mapM_toArray,<- bind_pure_comp,bind_assoc]
 refine u3 (RL i λa d e=>u3 (t4 ?_))
 cases a with
 |nil=>simp at d
 |cons f a =>
  rw[t5 (by simp)]
  have j:((f::a).map some).toArray.filterMap id=(f::a).toArray:=by simp
  refine u3 (iI ?_)
  rw[j,oneTypeOnly'_eq,List.mapM_toArray,Qp e]
  simp only[map_pure,pure_bind]
  rw[show(List.map (λ_=>Q0A "int") (f::a)).toArray[0]?≈(Q0A "int") by simp]
  have g:((List.map (λ_=>Q0A "int") (f::a)).toArray.all λx=>x == Q0A "int")=true:=by
   simp only[List.all_toArray,mR,l5]
   intro _ _
   rfl
  simp only[g,dD,pure_bind,Option.any_some]
  rw[show(Q0A "int" != Q0A "tuple")=true by decide +kernel]
  exact t4 h
end
def Rise (h:Heap)(c:zC):Prop:=∃ d:ZG,↥c=↥d/\(∀ (i:Nat) (v:Q0e) (t:zr),c[i]?≈v->d[i]?≈t->TT h v t)/\d.Pairwise λa b=>HT.lexLt b a=false
def Ax {xs:Array Keyed}(y:∀ v∈a,∃ t,TT h v t)(r:∀ v t,TT h v t->TT c v t)(l:xs.Perm (Q2k a))(s:Q0y (ze6 c) xs (Q2k a).size):(xs.map (·.2)).toList.Perm a/\Rise h (xs.map (·.2)).toList:=by
 have m:xs.toList.Perm (a.zip a):=by rw[<-pairsOf_toList];exact R8.mp l
 have x:∀ p∈xs.toList,p.1=p.2/\p.1∈a:=λp w=>mem_zip_self (m.mem_iff.mp w)
 have q:(xs.map (·.2)).toList=xs.toList.map (·.2):=by simp
 rw[q]
 refine⟨?_,xs.toList.map λp=>(keyTT c p.1).getD ([]:zr),by simp,λi v t e b=>?_,?_⟩
 .have:=m.map (·.2)
  rwa[show(a.zip a).map (·.2)=a from List.map_snd_zip (t6 _)]at this
 .rw[q4]at e b
  cases f:xs.toList[i]? with
  |none=>rw[f]at e;cases e
  |some p =>
   rw[f]at e b
   cases e
   cases b
   obtain⟨z,u⟩:=x p (k6 f)
   obtain⟨t,b⟩:=y _ u
   show TT h p.2 ((keyTT c p.1).getD ([]:zr))
   rw[keyTT_of (r _ _ b),<- z]
   exact b
 .rw[List.pairwise_iff_getElem]
  intro i j o n g
  have k:i<xs.size:=by simpa using o
  have d:j<xs.size:=by simpa using n
  have:=s i j (i7 g) (by rw[<-l.size_eq];exact d)
  unfold KK at this
  rw[getElem?_pos xs i k,getElem?_pos xs j d]at this
  have this:HT.lexLt ((keyTT c xs[j].1).getD ([]:zr)) ((keyTT c xs[i].1).getD ([]:zr))=false:=this
  simpa using this
section
variable {prog:zO}{w:Q0k}{A:zP}{E:yM}{s:zm}
def ownT_list_sort {d:zC} {P:Fin->Q0u->Prop} (m:s.heap.get? a≈(Q1a "list" d.toArray n)) (B:∀ v∈d,∃ t,TT s.heap v t) (F:↥d<64) (h:∀ f:wc,f.toList.Perm d->Rise s.heap f.toList->P (.done (.ret .none)) { s with heap:=sortedHeap s.heap a d f }):Q0d (Q0i prog w) A (Builtin.«list.sort» ⟨[.ref a],[]⟩) P E s:=by
 have L:a<⇑s:=j4 m
 have M:d.toArray.size=↥d:=j0
 obtain⟨g,H⟩:∃ g,(s.heap.update a (Q0t λ_=>#[])).get? a≈(Q1a "list" #[] g):=⟨_,get?_update_seq m (λ_=>#[])⟩
 have u:(((s.heap.update a (Q0t λ_=>#[])).push (Q1a "tuple" d.toArray 0)).push (Q1a "list" #[] 0)).get? a≈(Q1a "list" #[] g):=u6 _ (u6 _ H)
 have G:∀ b o,o.cls=.type "tuple"->s.heap.get? b≈o->(((s.heap.update a (Q0t λ_=>#[])).push (Q1a "tuple" d.toArray 0)).push (Q1a "list" #[] 0)).get? b≈o:=λb o c e=>by
  refine u6 _ (u6 _ ((g6 _ _ λz=>?_).trans e))
  subst z
  rw[m]at e
  cases e
  exact absurd (show Q0A "list"=Q0A "tuple" from c) (by decide +kernel)
 have p:∀ v∈d,∃ t,TT (((s.heap.update a (Q0t λ_=>#[])).push (Q1a "tuple" d.toArray 0)).push (Q1a "list" #[] 0)) v t:=λv K=>let ⟨t,l⟩:=B v K;⟨t,l.keepT G⟩
 rw[list_sort_plain]
 refine u3 (Q13 m rfl (u3 (listUpdate_at m rfl (u3 (seqEpoch_at H rfl (u3 (wpAny_newTuple (u3 (wpAny_newList (h9 ?_))))))))))
 show Q0d (Q0i prog w) A _ P E { s with heap:=((s.heap.update a (Q0t λ_=>#[])).push (Q1a "tuple" d.toArray 0)).push (Q1a "list" #[] 0) }
 by_cases k:d.toArray.size<2
 .rw[t5 k,t5 k]
  refine u3 (t4 ?_)
  dsimp only
  rw[StateT.run_pure]
  refine u3 (t4 ?_)
  obtain⟨D,y⟩:=Ax (xs:=Q2k d) B (λv t l=>l) (Q2P _) (λi j J I=>by
   obtain rfl:i=j:=by rw[qy]at I;omega
   exact jw _)
  refine u3 (seqEpoch_at u rfl (u3 (listUpdate_at u rfl ?_ (hsz2:=by rw[Array.size_map];show(Q2k d).size<=_;rw[qy,fZ];omega))))
  rw[show(g != g)=false by simp]
  exact t4 (h _ D y)
 .rw[j5 k,j5 k]
  cases d with
  |nil=>simp at k
  |cons r rest =>
   refine u3 (zji p ?_)
   refine u3 (cG (OwnTim.own_runsE (st:=SortSt.mk' (tuples' true) ((r::rest).toArray.zip (r::rest).toArray) #[] 7 none) (Q:=λ_ t=>(Q0s t).Perm (Q2k (r::rest))/\Q2x t=none/\Q0y (ze6 _) (Q0s t) (Q2k (r::rest)).size)
    (zlu p) (Q2P _) rfl rfl rfl (λt q x C=>⟨q,x,C⟩) (by rw[qy];rw[j0]at k;omega) (by rw[qy];exact F)) ?_ λ_ _ e=>e)
   rintro⟨⟨⟩,t⟩ N ⟨rfl,q,x,C⟩
   obtain⟨D,y⟩:=Ax B (λv t l=>l.keepT G) q C
   refine u3 (seqEpoch_at u rfl (u3 (listUpdate_at u rfl ?_ (hsz2:=by rw[Array.size_map];show(Q0s t).size<=_;rw[q.size_eq,qy,fZ];omega))))
   rw[x,show(g != g)=false by simp]
   exact t4 (h _ D y)
def ownT_sorted {a:zC} {Q:yM} (x:s.heap.IsList l a.toArray) (q:∀ v∈a,∃ t,TT s.heap v t) (j:↥a<64) (h:∀ c:wc,c.toList.Perm a->Rise s.heap c.toList->Q (.ref (⇑s+1)) { s with heap:=sortedAll s.heap a c }):Q0d (Q0i prog w) A (call (.builtin "sorted") [.ref l]) Q E s:=by
 have p:((s.heap.push (Q1a "list" #[] 0)).update ⇑s (Q0t (·++a.toArray))).objs.size=⇑s+1:=(Heap.size_update ..).trans (size_push' _ _)
 have r:(((s.heap.push (Q1a "list" #[] 0)).update ⇑s (Q0t (·++a.toArray))).push (Q1a "list" a.toArray 0)).get? (⇑s+1)≈(Q1a "list" a.toArray 0):=p ▸ j6 _ rfl
 have k:∀ b o,s.heap.get? b≈o->(((s.heap.push (Q1a "list" #[] 0)).update ⇑s (Q0t (·++a.toArray))).push (Q1a "list" a.toArray 0)).get? b≈o:=λb o e =>
  u6 _ ((g6 _ _ λz=>by subst z;exact absurd (j4 e) (dW _)).trans (u6 _ e))
 refine Jg kind_sorted plain_sorted entry_sorted (args_sorted1 _) ?_
 unfold Builtin.«sorted»
 refine u3 (m:=checkCount "sorted" 1 1 _) (t4 (u3 (collect_list x (u3 (wpAny_newList ?_)))))
 show Q0d _ _ _ _ _ (Shared.mk (((s.heap.push (Q1a "list" #[] 0)).update ⇑s (Q0t (·++a.toArray))).push (Q1a "list" a.toArray 0)) s.gens s.drawn s.toks s.os)
 rw[p]
 refine u3 (h9 (fG slot_list_sort ⟨_,r,rfl⟩ entry_list_sort (ownT_list_sort r (λv f=>let ⟨t,g⟩:=q v f;⟨t,g.keep k⟩) j λc n u=>⟨_,rfl,t4 ⟨_,rfl,h c n ?_⟩⟩) (args_list_sort _)))
 obtain⟨D,C,B,y⟩:=u
 refine⟨D,C,λi v t f g=>?_,y⟩
 obtain⟨F,d⟩:=q v (n.mem_iff.mp (k6 f))
 rw[(B i v t f g).uniq (d.keep k)]
 exact d
end
end OwnSortT
namespace OwnSort
open PySem PyProof.Rows
def Rise (h:Heap)(c:zC):Prop:=∃ d:List Pr,↥c=↥d/\(∀ (i:Nat) (v:Q0e) (t:Pr),c[i]?≈v->d[i]?≈t->TP h v t)/\d.Pairwise λa b=>bltP b a=false
def TP.tt {t:Pr}(x:TP h v t):OwnSortT.TT h v [t.1,t.2]:=by
 obtain⟨a,o,n,d,ty,e,b,f,c⟩:=x
 exact⟨a,o,n,[.int t.1 d,.int t.2 ty],e,b,f,c,.cons _ _ (.cons _ _ .nil),BJ _ _⟩
def zlx (a b:Pr):HT.lexLt [a.1,a.2] [b.1,b.2]=bltP a b:=by
 rw[HT.lexLt_cons,HT.lexLt_cons]
 unfold bltP
 by_cases c:a.1=b.1
 .rw[t5 c]
  by_cases d:a.2=b.2
  .rw[t5 d,r0 ∅];rfl
  .rw[j5 d,qZ];omega
 .rw[j5 c,qZ];omega
def zhL {k c:zC}(x:∀ v∈k,∃ t,TP h v t)(n:c.Perm k)(r:OwnSortT.Rise h c):Rise h c:=by
 obtain⟨j,s,y,o⟩:=r
 have key:∀ (i:Nat) (v:Q0e) (t:zr),c[i]?≈v->j[i]?≈t->∃ p:Pr,TP h v p/\t=[p.1,p.2]:=λi v t f d=>by
  obtain⟨p,g⟩:=x v (n.mem_iff.mp (k6 f))
  exact⟨p,g,OwnSortT.TT.uniq (y i v t f d) g.tt⟩
 have ex:∀ t∈j,∃ p:Pr,t=[p.1,p.2]:=λt m=>by
  obtain⟨i,l,rfl⟩:=kW m
  obtain⟨p,_,e⟩:=key i c[i] j[i] (j7 ∅) (j7 l)
  exact⟨p,e⟩
 refine⟨j.map λt=>(t.getD 0 0,t.getD 1 0),by rw[u5,s],λi v t f d=>?_,?_⟩
 .rw[q4]at d
  obtain⟨u,w,rfl⟩:=u8.mp d
  obtain⟨p,g,rfl⟩:=key i v u f w
  exact g
 .rw[CJ]
  refine o.imp_of_mem λ{a b} ha hb hab=>?_
  obtain⟨p,rfl⟩:=ex a ha
  obtain⟨q,rfl⟩:=ex b hb
  rw[zlx]at hab
  exact hab
section
variable {prog:zO}{w:Q0k}{A:zP}{E:yM}{s:zm}
def own_sorted {b:zC} {Q:yM} (e:s.heap.IsList l b.toArray) (c:∀ v∈b,∃ t,TP s.heap v t) (g:↥b<64) (h:∀ a:wc,a.toList.Perm b->Rise s.heap a.toList->Q (.ref (⇑s+1)) { s with heap:=sortedAll s.heap b a }):Q0d (Q0i prog w) A (call (.builtin "sorted") [.ref l]) Q E s :=
 OwnSortT.ownT_sorted e (λv f=>(c v f).imp' (λt=>[t.1,t.2]) λ_ d=>d.tt) ∅ λa p r=>h a p (zhL c p r)
end
end OwnSort
namespace Dl
open PySem L2
class KK where
 K:W.Frag
 dk:Addr
inductive D where
 |non|bl (b:Bool)|int (i:Int)|str (x:Str)|tup (ds:List D)|lst (ds:List D)|scr (ns:zr)
  |dct (z t:Bool) (ks:List (List aJ)) (vs:List D)
  |obj (w h:D) (ps:List D)
 deriving Inhabited
abbrev fj:=List D->Option (List D)
abbrev x9:=List D->Option D
abbrev jJ:=List D->Option Nat
abbrev xD:=D->D->Option D
abbrev jl:=D->Option (List (Option D))
abbrev zl:=List D
def bT (a b:V) (q:Addr):List (Str × V):=[("web",a),("heap",b),("past",.ref q)]
section
variable [KK]
def cF (o:HO)(t:Bool)(b:List (List aJ))(c:zD):Prop :=
 if t then ∃ a,o=.dT a/\a.map (·.1)=b/\a.map (·.2)=c else ∃ a:List (aJ × V),o=.dK a/\a.map (λp=>[p.1])=b/\a.map (·.2)=c
def iD (H:Hp)(a:Addr)(z t:Bool)(d:List (List aJ))(b:zD):Prop :=
 ∃ u,cF u t d b/\if z then ∃ c,H a≈(.frz c u)else H a≈u
def iD.mono {t:Bool}(s:zZ H H')(h:iD H a z t c d):iD H' a z t c d:=by
 obtain⟨u,e,b⟩:=h
 refine⟨u,e,?_⟩
 cases z with
 |true =>
  rw[t5 rfl]at b ⊢
  obtain⟨f,b⟩:=b
  exact⟨f,s _ _ b⟩
 |false =>
  rw[j5 u7]at b ⊢
  exact s _ _ b
def iD.rd {t:Bool}(h:iD H a z t c d):∃ u,cF u t c d/\Rd H a u:=by
 obtain⟨u,e,b⟩:=h
 refine⟨u,e,?_⟩
 cases z with
 |true =>
  rw[t5 rfl]at b
  obtain⟨f,b⟩:=b
  exact .inr ⟨f,b⟩
 |false =>
  rw[j5 u7]at b
  exact .inl b
mutual
def At (H:Hp):D->V->Prop
 |.non,v=>v=.non
 |.bl b,v=>v=.bl b
 |.int i,v=>v=.int i
 |.str x,v=>v=.str x
 |.tup ds,v=>∃ a c,v=.ref a/\H a≈(.tup c)/\ao H ds c
 |.lst ds,v=>∃ a c,v=.ref a/\H a≈(.lst c)/\ao H ds c
 |.scr ns,v=>∃ a,v=.ref a/\aN KK.K H a (ns.map V.int)
 |.dct z t ks vs,v=>∃ a c,v=.ref a/\iD H a z t ks c/\ao H vs c
 |.obj w h ps,v=>∃ p f q d e c,v=.ref p/\H p≈(.ins KK.dk f (bT d e q))/\H q≈(.lst c)/\At H w d/\At H h e/\ao H ps c
def ao (H:Hp):zl->zD->Prop
 |[],xs=>xs=[]
 |d::ds,xs=>∃ x r,xs=x::r/\At H d x/\ao H ds r
end
mutual
def At.mono (s:zZ H H'):∀ {d:D} {v:V},At H d v->At H' d v
 |.non,_,h=>by unfold At at h ⊢;exact h
 |.bl _,_,h=>by unfold At at h ⊢;exact h
 |.int _,_,h=>by unfold At at h ⊢;exact h
 |.str _,_,h=>by unfold At at h ⊢;exact h
 |.tup ds,_,h=>by
  unfold At at h ⊢
  obtain⟨a,f,e,b,c⟩:=h
  exact⟨a,f,e,s _ _ b,ao.mono s c⟩
 |.lst ds,_,h=>by
  unfold At at h ⊢
  obtain⟨a,f,e,b,c⟩:=h
  exact⟨a,f,e,s _ _ b,ao.mono s c⟩
 |.scr ns,_,h=>by
  unfold At at h ⊢
  obtain⟨a,e,b⟩:=h
  exact⟨a,e,s.seq b⟩
 |.dct z t ks vs,_,h=>by
  unfold At at h ⊢
  obtain⟨a,f,e,b,c⟩:=h
  exact⟨a,f,e,b.mono s,ao.mono s c⟩
 |.obj w d ps,_,h=>by
  unfold At at h ⊢
  obtain⟨p,l,q,i,m,f,e,b,j,g,k,c⟩:=h
  exact⟨p,l,q,i,m,f,e,s _ _ b,s _ _ j,At.mono s g,At.mono s k,ao.mono s c⟩
def ao.mono (s:zZ H H'):∀ {a:zl} {b:zD},ao H a b->ao H' a b
 |[],_,h=>by unfold ao at h ⊢;exact h
 |d::a,_,h=>by
  unfold ao at h ⊢
  obtain⟨x,r,e,f,c⟩:=h
  exact⟨x,r,e,At.mono s f,ao.mono s c⟩
end
mutual
def bA:D->Bool
 |.tup ds=>gU ds
 |.lst _=>false
 |.scr _=>false
 |.dct _ _ _ _=>false
 |.obj _ _ _=>false
 |_=>true
def gU:zl->Bool
 |[]=>true
 |d::ds=>bA d&&gU ds
end
mutual
def At.flat {G F:Hp}(h:∀ q b,G q≈(.tup b)->F q≈(.tup b)):∀ {d:D} {v:V},bA d=true->At G d v->At F d v
 |.non,_,_,a=>by unfold At at a ⊢;exact a
 |.bl _,_,_,a=>by unfold At at a ⊢;exact a
 |.int _,_,_,a=>by unfold At at a ⊢;exact a
 |.str _,_,_,a=>by unfold At at a ⊢;exact a
 |.tup ds,_,n,a=>by
  unfold At at a ⊢
  unfold bA at n
  obtain⟨p,b,e,c,f⟩:=a
  exact⟨p,b,e,h _ _ c,ao.flat h n f⟩
 |.lst ds,_,n,_=>by unfold bA at n;cases n
 |.scr ds,_,n,_=>by unfold bA at n;cases n
 |.dct _ _ _ _,_,n,_=>by unfold bA at n;cases n
 |.obj _ _ _,_,n,_=>by unfold bA at n;cases n
def ao.flat {G F:Hp}(h:∀ q b,G q≈(.tup b)->F q≈(.tup b)):∀ {c:zl} {b:zD},gU c=true->ao G c b->ao F c b
 |[],_,_,a=>by unfold ao at a ⊢;exact a
 |d::c,_,n,a=>by
  unfold ao at a ⊢
  unfold gU at n
  rw[k9]at n
  obtain⟨x,r,e,g,f⟩:=a
  exact⟨x,r,e,At.flat h n.1 g,ao.flat h n.2 f⟩
end
section
variable {H H':Hp}{d:D}{ds es:zl}{v x:V}{xs ys:zD}
def At.int:At H (.int i) (.int i):=by unfold At;rfl
def At.bl:At H (.bl b) (.bl b):=by unfold At;rfl
def At.non:At H .non .non:=by unfold At;rfl
def At.str:At H (.str y) (.str y):=by unfold At;rfl
def At.tup {a:Addr}(h:H a≈(.tup xs))(b:ao H ds xs):At H (.tup ds) (.ref a):=by unfold At;exact⟨a,xs,rfl,h,b⟩
def At.lst {a:Addr}(h:H a≈(.lst xs))(b:ao H ds xs):At H (.lst ds) (.ref a):=by unfold At;exact⟨a,xs,rfl,h,b⟩
def ao.nil:ao H [] []:=by unfold ao;rfl
def ao.cons (h:At H d x)(a:ao H ds xs):ao H (d::ds) (x::xs):=by unfold ao;exact⟨x,xs,rfl,h,a⟩
def At.int_inv (h:At H (.int i) v):v=.int i:=by unfold At at h;exact h
def At.bl_inv (h:At H (.bl b) v):v=.bl b:=by unfold At at h;exact h
def At.non_inv (h:At H .non v):v=.non:=by unfold At at h;exact h
def At.str_inv (h:At H (.str y) v):v=.str y:=by unfold At at h;exact h
def At.tup_inv (h:At H (.tup ds) v):∃ a xs,v=.ref a/\H a≈(.tup xs)/\ao H ds xs:=by unfold At at h;exact h
def At.lst_inv (h:At H (.lst ds) v):∃ a xs,v=.ref a/\H a≈(.lst xs)/\ao H ds xs:=by unfold At at h;exact h
def At.scr_inv {ns:zr}(h:At H (.scr ns) v):∃ a,v=.ref a/\aN KK.K H a (ns.map V.int):=by unfold At at h;exact h
def At.dct_inv {t:Bool}(h:At H (.dct z t c b) v):∃ a xs,v=.ref a/\iD H a z t c xs/\ao H b xs:=by unfold At at h;exact h
def At.obj_inv {w d:D}(h:At H (.obj w d b) v):∃ p e q c a xs,v=.ref p/\H p≈(.ins KK.dk e (bT c a q))/\H q≈(.lst xs)/\At H w c/\At H d a/\ao H b xs:=by unfold At at h;exact h
def ao.nil_inv (h:ao H [] xs):xs=[]:=by unfold ao at h;exact h
def ao.cons_inv (h:ao H (d::ds) xs):∃ x r,xs=x::r/\At H d x/\ao H ds r:=by unfold ao at h;exact h
def ao.length:∀ {ds:zl} {xs:zD},ao H ds xs->↥xs=↥ds
 |[],_,h=>by rw[h.nil_inv];rfl
 |_::_,_,h=>by
  obtain⟨x,r,rfl,_,a⟩:=h.cons_inv
  rw[g5,g5,ao.length a]
def ao.get:∀ {ds:zl} {xs:zD} {i:Nat} {d:D},ao H ds xs->ds[i]?≈d->∃ x,xs[i]?≈x/\At H d x
 |[],_,_,_,_,e=>by simp at e
 |_::_,_,i,_,h,e=>by
  obtain⟨x,r,rfl,c,a⟩:=h.cons_inv
  cases i with
  |zero =>
   simp at e
   subst e
   exact⟨x,rfl,c⟩
  |succ i =>
   obtain⟨y,b,f⟩:=ao.get (i:=i) a (by simpa using e)
   exact⟨y,by simpa using b,f⟩
def ao.append:∀ {ds es:zl} {xs ys:zD},ao H ds xs->ao H es ys->ao H (ds++es) (xs++ys)
 |[],_,_,_,h,k=>by rw[h.nil_inv];exact k
 |_::_,_,_,_,h,k=>by
  obtain⟨x,r,rfl,b,a⟩:=h.cons_inv
  exact .cons b (ao.append a k)
def ao.snoc (h:ao H ds xs)(k:At H d v):ao H (ds++[d]) (xs++[v]):=h.append (.cons k .nil)
def ao.take:∀ (n:Nat) {ds:zl} {xs:zD},ao H ds xs->ao H (ds.take n) (xs.take n)
 |0,_,_,_=>by simpa using ao.nil
 |n+1,[],_,h=>by rw[h.nil_inv];simpa using ao.nil
 |n+1,_::_,_,h=>by
  obtain⟨x,r,rfl,b,a⟩:=h.cons_inv
  rw[List.take_succ_cons,List.take_succ_cons]
  exact .cons b (ao.take n a)
def ao.drop:∀ (n:Nat) {ds:zl} {xs:zD},ao H ds xs->ao H (ds.drop n) (xs.drop n)
 |0,_,_,h=>h
 |n+1,[],_,h=>by rw[h.nil_inv];simpa using ao.nil
 |n+1,_::_,_,h=>by
  obtain⟨x,r,rfl,b,a⟩:=h.cons_inv
  rw[List.drop_succ_cons,List.drop_succ_cons]
  exact ao.drop n a
def ao.set:∀ (n:Nat) {ds:zl} {xs:zD},ao H ds xs->At H d v->ao H (ds.set n d) (xs.set n v)
 |_,[],_,h,_=>by rw[h.nil_inv];simpa using ao.nil
 |0,_::_,_,h,k=>by
  obtain⟨x,r,rfl,b,a⟩:=h.cons_inv
  exact .cons k a
 |n+1,_::_,_,h,k=>by
  obtain⟨x,r,rfl,b,a⟩:=h.cons_inv
  exact .cons b (ao.set n a k)
def ao.rep (h:ao H ds xs):∀ k:Nat,ao H (Q0a k ds).flatten (Q0a k xs).flatten
 |0=>.nil
 |k+1=>by
  rw[l7,l7,kI,kI]
  exact h.append (ao.rep h k)
def ao.ints (ns:zr):ao H (ns.map D.int) (ns.map V.int):=by
 induction ns with
 |nil=>exact .nil
 |cons n r a=>exact .cons .int a
def ao.of_ints:∀ {ns:zr} {xs:zD},ao H (ns.map D.int) xs->xs=ns.map V.int
 |[],_,h=>h.nil_inv
 |n::r,_,h=>by
  obtain⟨x,c,rfl,b,a⟩:=ao.cons_inv (by simpa using h)
  rw[b.int_inv,ao.of_ints a]
  rfl
end
def Sv:D->String
 | .non=>"NoneType" | .bl _=>"bool" | .int _=>"int" | .str _=>"str" | .tup _=>"tuple" | .lst _=>"list" | .scr _=>"list" | .dct _ _ _ _=>"dict" | .obj _ _ _=>"object"
def tH (F':Hp)(p:Addr)(o:HO):Prop:=F' p=none\/((∃ a,o=.tup a)/\F' p≈o)
def J0 (F H F' H':Hp):Prop:=∀ p o,F p=none->H p≈o->tH F' p o/\H' p≈o
structure Gr (F H F' H':Hp):Prop where
 ff:zZ F F'
 fh:zZ F' H'
 kp:J0 F H F' H'
def Gr.refl (s:zZ F H):Gr F H F H:=⟨zZ.refl _,s,λ_ _ a b=>⟨.inl a,b⟩⟩
def Gr.trans (a:Gr F H F1 H1)(b:Gr F1 H1 F2 H2):Gr F H F2 H2 :=
 ⟨a.ff.trans b.ff,b.fh,λp o f d=>by
  obtain⟨x,y⟩:=a.kp p o f d
  rcases x with x|⟨e,c⟩
  .exact b.kp p o x y
  .exact⟨.inr ⟨e,b.ff _ _ c⟩,b.fh _ _ (b.ff _ _ c)⟩⟩
def Gr.kl {F H F' H':Hp}(g:Gr F H F' H')(n:∀ a,o≠.tup a)(d:F p=none)(b:H p≈o):F' p=none/\H' p≈o:=by
 obtain⟨x,y⟩:=g.kp p o d b
 rcases x with x|⟨⟨a,c⟩,_⟩
 .exact⟨x,y⟩
 .exact absurd c (n a)
def Gr.alloc {H:Hp}(s:zZ F H)(h:H p=none)(o:HO):Gr F H (aA F p o) (aA H p o):=by
 have a:F p=none:=s.free h
 refine⟨λb u q=>?_,λb u q=>?_,λb u q r=>?_⟩
 .rw[zj (zf q a)];exact q
 .by_cases e:b=p
  .subst e;rw[zn]at q ⊢;exact q
  .rw[zj e]at q ⊢;exact s b u q
 .have e:b≠p:=zf r h
  rw[zj e];exact⟨.inl (by rw[zj e];exact q),r⟩
def Gr.hide {H:Hp}(s:zZ F H)(h:H p=none)(o:HO):Gr F H F (aA H p o):=by
 refine⟨zZ.refl _,λb u q=>?_,λb u q r=>?_⟩
 .rw[zj (zf (s b u q) h)];exact s b u q
 .have e:b≠p:=zf r h
  rw[zj e];exact⟨.inl q,r⟩
def Gr.show {F H:Hp}{H0:Hp}(g:Gr F0 H0 F H)(h0:H0 p=none)(a:F p=none)(h:H p≈o):Gr F0 H0 (aA F p o) H:=by
 refine⟨λb u q=>?_,λb u q=>?_,λb u q r=>?_⟩
 .have:=g.ff b u q
  rw[zj (zf this a)];exact this
 .by_cases e:b=p
  .subst e;rw[zn]at q;rw[<-q];exact h
  .rw[zj e]at q;exact g.fh b u q
 .have e:b≠p:=zf r h0
  obtain⟨x,y⟩:=g.kp b u q r
  refine⟨?_,y⟩
  unfold tH
  rw[zj e]
  exact x
abbrev Ev:=List (Option D)
abbrev yL:=Ev->Option (List D)
abbrev vL:=Ev->Option Bool
abbrev eN:=Ev->Option Nat
abbrev zW:=Ev->Option D
def cI (F:Hp)(ρ:Ev)(σ:St):Prop:=∀ (i:Nat) (d:D),ρ[i]?≈(some d)->∃ v,σ[i]?≈(some v)/\At F d v
def cI.mono (h:cI F ρ σ)(s:zZ F F'):cI F' ρ σ:=λi d e=>let ⟨v,e1,a⟩:=h i d e;⟨v,e1,a.mono s⟩
def RE (t:TE)(f:zW):Prop :=
 ∀ (σ:St) (ρ:Ev) (F H:Hp) (d:D) (Q:VK),zZ F H->cI F ρ σ->f ρ≈d->(∀ F' H' v,Gr F H F' H'->At F' d v->Q v H')->t σ H Q
def RT (t:TT)(f:vL):Prop :=
 ∀ (σ:St) (ρ:Ev) (F H:Hp) (b:Bool) (Q:Bool->Hp->Prop),zZ F H->cI F ρ σ->f ρ≈b->(∀ F' H',Gr F H F' H'->Q b H')->t σ H Q
def RA (t:TA)(f:yL):Prop :=
 ∀ (σ:St) (ρ:Ev) (F H:Hp) (a:zl) (Q:zD->Hp->Prop),zZ F H->cI F ρ σ->f ρ≈a->(∀ F' H' b,Gr F H F' H'->ao F' a b->Q b H')->t σ H Q
def RF (t:TE)(f:yL):Prop :=
 ∀ (σ:St) (ρ:Ev) (F H:Hp) (a:zl) (Q:VK),zZ F H->cI F ρ σ->f ρ≈a->(∀ F' H' p b,Gr F H F' H'->H p=none->F' p=none->H' p≈(.lst b)->ao F' a b->Q (.ref p) H')->t σ H Q
def ED (X:Cx)(e:Expr)(f:zW):Prop:=∃ t,PE X e t/\RE t f
def TD (X:Cx)(e:Expr)(f:vL):Prop:=∃ t,PT X e t/\RT t f
def WD (X:Cx)(e:Expr)(f:vL):Prop:=∃ t,PW X e t/\RT t f
def AD (X:Cx)(a:y0)(f:yL):Prop:=∃ t,PA X a t/\RA t f
def FL (X:Cx)(e:Expr)(f:yL):Prop:=∃ t,PE X e t/\RF t f
section
variable {X:Cx}{a b c:Expr}{pos:Pos}
def xm (f:yL):zW:=fun ρ=>(f ρ).map .lst
def vp {f:yL}(h:FL X a f):ED X a (xm f):=by
 obtain⟨t,i,r⟩:=h
 refine⟨t,i,fun σ ρ F H d Q s j e q=>?_⟩
 obtain⟨l,o,rfl⟩:=u8.mp e
 refine r σ ρ F H l Q s j o λF' H' p v g h0 c m n=>?_
 have k:=g.show h0 c m
 exact q _ _ _ k (At.lst zn (n.mono (λb u e=>by rw[zj (zf e c)];exact e)))
def zc (i:Nat):zW:=fun ρ=>(ρ[i]?).getD none
def zqX (i:Nat)(h:PE X a (Wd i)):ED X a (zc i):=by
 refine⟨_,h,fun σ ρ F H d Q s f e q=>?_⟩
 have b:ρ[i]?≈(some d):=by
  unfold zc at e
  cases h:ρ[i]? with
  |none=>rw[h]at e;cases e
  |some x=>rw[h]at e;cases x with
   |none=>cases e
   |some y=>cases e;rfl
 obtain⟨v,g,c⟩:=f i d b
 exact⟨v,g,q _ _ _ (.refl s) c⟩
def eC (d:D):zW:=λ_=>some d
def zz (h:PE X a (tC (.int i))):ED X a (eC (.int i)):=⟨_,h,λ_ _ _ _ _ _ s _ e q=>by cases e;exact q _ _ _ (.refl s) .int⟩
def il (h:PE X a (tC (.bl i))):ED X a (eC (.bl i)):=⟨_,h,λ_ _ _ _ _ _ s _ e q=>by cases e;exact q _ _ _ (.refl s) .bl⟩
def zJ (h:PE X a (tC (.str i))):ED X a (eC (.str i)):=⟨_,h,λ_ _ _ _ _ _ s _ e q=>by cases e;exact q _ _ _ (.refl s) .str⟩
def Wo (h:PE X a (tC .non)):ED X a (eC .non):=⟨_,h,λ_ _ _ _ _ _ s _ e q=>by cases e;exact q _ _ _ (.refl s) .non⟩
def bx (r:R2)(g:xD):Prop :=
 ∀ (F H:Hp) (x y:V) (d e z:D) (Q:VK),zZ F H->At F d x->At F e y->g d e≈z->(∀ F' H' v,Gr F H F' H'->At F' z v->Q v H')->r x y H Q
def zg (g:xD)(f h:zW):zW:=fun ρ=>(f ρ).bind λx=>(h ρ).bind λy=>g x y
def pq {g:xD}{c:TE}{f:zW}(A:bx r g)(k:RE c f)(o:RE i h):RE (kZ r c i) (zg g f h):=by
 intro σ ρ F H z Q s d e q
 obtain⟨x,t,e⟩:=u4.mp e
 obtain⟨y,j,e⟩:=u4.mp e
 refine k σ ρ F H x _ s d t λF1 H1 v b n=>?_
 refine o σ ρ F1 H1 y _ b.fh (d.mono b.ff) j λF2 H2 u a m=>?_
 exact A F2 H2 v u x y z Q a.fh (n.mono a.ff) m e λF3 H3 w l p=>q F3 H3 w ((b.trans a).trans l) p
def VT {c:Operator}{g:xD}{f:zW}(d:aQ X (Q0O c) r)(j:bx r g)(e:ED X a f)(i:ED X b h):ED X (.BinOp a c b pos) (zg g f h) :=
 let ⟨_,pa,ra⟩:=e
 let ⟨_,pb,rb⟩:=i
 ⟨_,pF d pa pb,pq j ra rb⟩
def Vr {c:CmpOp}{g:xD}{f:zW}(d:aQ X (Q0l c) r)(k:bx r g)(i:Q0Z c b=false)(e:ED X a f)(j:ED X b h):ED X (.Compare a [c] [b] pos) (zg g f h) :=
 let ⟨_,pa,ra⟩:=e
 let ⟨_,pb,rb⟩:=j
 ⟨_,zoO d pa pb i,pq k ra rb⟩
def bf:D->Option Bool
 |.bl b=>some b
 |_=>none
def WJ {b:Bool}(h:bf d≈b):d=.bl b:=by
 cases d <;> first | (cases h;rfl)|cases h
def aq (f:zW):vL:=fun ρ=>(f ρ).bind bf
def uA {t:TE}{f:zW}(r:RE t f):RT (lR t) (aq f):=by
 intro σ ρ F H b Q s c e q
 obtain⟨x,d,e⟩:=u4.mp e
 cases WJ e
 exact r σ ρ F H _ _ s c d λF1 H1 v g a=>⟨b,a.bl_inv,q F1 H1 g⟩
def zQ {c:CmpOp}{g:xD}{f:zW}(d:aQ X (Q0l c) r)(k:bx r g)(i:Q0Z c b=false)(e:ED X a f)(j:ED X b h):TD X (.Compare a [c] [b] pos) (aq (zg g f h)) :=
 let ⟨_,pa,ra⟩:=e
 let ⟨_,pb,rb⟩:=j
 ⟨_,G8 d pa pb i,uA (pq k ra rb)⟩
def mD {f:zW}(c:ED X a f)(d:∀ b,isTrue a X.env b=(do let v<-b;Q2l a.pos;Q1d [v] (truthy v)):=by intro _;rfl):TD X a (aq f) :=
 let ⟨_,pa,ra⟩:=c
 ⟨_,Mu pa d,uA ra⟩
def ZC (f g:vL):vL:=fun ρ=>(f ρ).bind λc=>if c then g ρ else some false
def dg (f g:vL):vL:=fun ρ=>(f ρ).bind λc=>if c then some true else g ρ
def xF (f:vL):vL:=fun ρ=>(f ρ).map (!·)
def Oc {f:vL}(b:TD X a f):WD X (.BoolOp .And [a] pos) f:=let ⟨_,pa,ra⟩:=b;⟨_,znm pa,ra⟩
def Ae {f:vL}(b:TD X a f):WD X (.BoolOp .Or [a] pos) f:=let ⟨_,pa,ra⟩:=b;⟨_,Lj pa,ra⟩
def Mm {rest:y0}{f g:vL}(h:TD X a f)(o:WD X (.BoolOp .And (b::rest) pos) g):WD X (.BoolOp .And (a::b::rest) pos) (ZC f g):=by
 obtain⟨p,i,j⟩:=h
 obtain⟨r,m,l⟩:=o
 refine⟨_,zqs i m,fun σ ρ F H z Q s d e q=>?_⟩
 obtain⟨x,n,e⟩:=u4.mp e
 refine j σ ρ F H x _ s d n λF1 H1 c=>?_
 cases x with
 |true =>
  rw[t5 rfl]at e ⊢
  exact l σ ρ F1 H1 z Q c.fh (d.mono c.ff) e λF2 H2 k=>q F2 H2 (c.trans k)
 |false =>
  rw[j5 u7]at e ⊢
  cases e
  exact q F1 H1 c
def uM {rest:y0}{f g:vL}(h:TD X a f)(o:WD X (.BoolOp .Or (b::rest) pos) g):WD X (.BoolOp .Or (a::b::rest) pos) (dg f g):=by
 obtain⟨p,i,j⟩:=h
 obtain⟨r,m,l⟩:=o
 refine⟨_,Km i m,fun σ ρ F H z Q s d e q=>?_⟩
 obtain⟨x,n,e⟩:=u4.mp e
 refine j σ ρ F H x _ s d n λF1 H1 c=>?_
 cases x with
 |false =>
  rw[j5 u7]at e ⊢
  exact l σ ρ F1 H1 z Q c.fh (d.mono c.ff) e λF2 H2 k=>q F2 H2 (c.trans k)
 |true =>
  rw[t5 rfl]at e ⊢
  cases e
  exact q F1 H1 c
def oK {f:vL}(h:WD X a f):TD X a f:=let ⟨_,p,r⟩:=h;⟨_,p.pt,r⟩
def mH {f:vL}(b:TD X a f):TD X (.UnaryOp .Not a pos) (xF f):=by
 obtain⟨j,c,d⟩:=b
 refine⟨_,Mq c,fun σ ρ F H z Q s g e q=>?_⟩
 obtain⟨x,h,rfl⟩:=u8.mp e
 exact d σ ρ F H x _ s g h λF1 H1 i=>q F1 H1 i
def cz (f g:zW):zW:=fun ρ=>((f ρ).bind bf).bind λc=>if c then g ρ else some (.bl false)
def Ec (f:zW):zW:=fun ρ=>((f ρ).bind bf).map λc=>.bl (!c)
def U9 {op}{f:zW}(ha:ED X a f):ED X (.BoolOp op [a] pos) f:=let ⟨_,pa,ra⟩:=ha;⟨_,zqZ pa,ra⟩
def zq6 {rest:y0}{f g:zW}(j:ED X a f)(t:ED X (.BoolOp .And (b::rest) pos) g):ED X (.BoolOp .And (a::b::rest) pos) (cz f g):=by
 obtain⟨u,k,l⟩:=j
 obtain⟨A,r,o⟩:=t
 refine⟨_,zqa k r,fun σ ρ F H z Q s h e q=>?_⟩
 obtain⟨x,d,e⟩:=u4.mp e
 obtain⟨y,d,m⟩:=u4.mp d
 cases WJ m
 refine l σ ρ F H _ _ s h d λF1 H1 v c i=>⟨x,i.bl_inv,?_⟩
 cases x with
 |true =>
  rw[t5 rfl]at e ⊢
  exact o σ ρ F1 H1 z Q c.fh (h.mono c.ff) e λF2 H2 w n p=>q F2 H2 w (c.trans n) p
 |false =>
  rw[j5 u7]at e ⊢
  cases e
  exact q F1 H1 _ c .bl
def zpl {f:zW}(d:ED X a f):ED X (.UnaryOp .Not a pos) (Ec f):=by
 obtain⟨l,g,i⟩:=d
 refine⟨_,zpu g,fun σ ρ F H z Q s j e q=>?_⟩
 obtain⟨x,b,rfl⟩:=u8.mp e
 obtain⟨y,b,h⟩:=u4.mp b
 cases WJ h
 exact i σ ρ F H _ _ s j b λF1 H1 v k c=>⟨x,c.bl_inv,q F1 H1 _ k .bl⟩
def sW (t:vL)(f g:zW):zW:=fun ρ=>(t ρ).bind λc=>if c then f ρ else g ρ
def Er {t:vL}{f g:zW}(o:TD X c t)(k:ED X a f)(y:ED X b g):ED X (.IfExp c a b pos) (sW t f g):=by
 obtain⟨B,r,m⟩:=o
 obtain⟨A,l,n⟩:=k
 obtain⟨C,u,p⟩:=y
 refine⟨_,zlK r l u,fun σ ρ F H z Q s h e q=>?_⟩
 obtain⟨x,v,e⟩:=u4.mp e
 refine m σ ρ F H x _ s h v λF1 H1 d=>?_
 cases x with
 |true =>
  rw[t5 rfl]at e ⊢
  exact n σ ρ F1 H1 z Q d.fh (h.mono d.ff) e λF2 H2 w i j=>q F2 H2 w (d.trans i) j
 |false =>
  rw[j5 u7]at e ⊢
  exact p σ ρ F1 H1 z Q d.fh (h.mono d.ff) e λF2 H2 w i j=>q F2 H2 w (d.trans i) j
def aZ (g:D->Option D)(f:zW):zW:=fun ρ=>(f ρ).bind g
def sy:D->Option D
 |.int i=>some (.int (-i))
 |_=>none
def zpJ {f:zW}(c:ED X a f):ED X (.UnaryOp .USub a pos) (aZ sy f):=by
 obtain⟨k,d,g⟩:=c
 refine⟨_,Kz Lz d,fun σ ρ F H z Q s h e q=>?_⟩
 obtain⟨x,i,e⟩:=u4.mp e
 cases x <;> try cases e
 exact g σ ρ F H _ _ s h i λF1 H1 v j b=>⟨_,b.int_inv,q F1 H1 _ j .int⟩
def zh:yL:=λ_=>some []
def za (f:zW)(g:yL):yL:=fun ρ=>(f ρ).bind λd=>(g ρ).map (d::·)
def ze:AD X [] zh:=⟨_,yt,λ_ _ _ _ _ _ s _ e q=>by cases e;exact q _ _ _ (.refl s) .nil⟩
def zb {a:y0}{f:zW}{g:yL}(i:ED X e f)(p:AD X a g)(n:Q0c (e::a) X.env=(false,eval e X.env)::Q0c a X.env:=by rfl):AD X (e::a) (za f g):=by
 obtain⟨y,j,k⟩:=i
 obtain⟨A,t,o⟩:=p
 refine⟨_,zw j t n,fun σ ρ F H z Q s c e q=>?_⟩
 obtain⟨x,u,e⟩:=u4.mp e
 obtain⟨m,l,rfl⟩:=u8.mp e
 refine k σ ρ F H x _ s c u λF1 H1 v b h=>?_
 exact o σ ρ F1 H1 m _ b.fh (c.mono b.ff) l λF2 H2 w d r=>q F2 H2 _ (b.trans d) (.cons (h.mono d.ff) r)
def aU (n:Nat):Bool:=decide (n<=sizeLine)
def X8 (g:yL):zW:=fun ρ=>(g ρ).bind λa=>if aU ↥a then some (.tup a)else none
def yX (g:yL):yL:=fun ρ=>(g ρ).bind λa=>if aU ↥a then some a else none
def Vb {c:y0}{x1}{g:yL}(h:AD X c g):ED X (.Tuple c x1 pos) (X8 g):=by
 obtain⟨r,f,i⟩:=h
 refine⟨_,zrI f,fun σ ρ F H z Q s j e q=>?_⟩
 obtain⟨l,o,e⟩:=u4.mp e
 split at e <;> cases e
 rename_i m
 refine i σ ρ F H l _ s j o λF1 H1 k d a=>⟨by rw[↥a];exact j8 m,λp n=>?_⟩
 have b:=Gr.alloc d.fh n (.tup k)
 exact q _ _ _ (d.trans b) (.tup zn (a.mono b.ff))
def Yr {f:y0}{g:yL}(h:AD X f g):FL X (.List f pos) (yX g):=by
 obtain⟨t,n,i⟩:=h
 refine⟨_,W2 n,fun σ ρ F H z Q s j e q=>?_⟩
 obtain⟨v,r,e⟩:=u4.mp e
 split at e <;> cases e
 rename_i m
 refine i σ ρ F H _ _ s j r λF1 H1 l b d=>⟨by rw[↥d];exact j8 m,λp a=>?_⟩
 have k:=Gr.hide b.fh a (.lst l)
 have h0:H p=none:=by
  cases e:H p with
  |none=>rfl
  |some o =>
   cases c:F p with
   |none=>rw[(b.kp p o c e).2]at a;cases a
   |some u=>rw[b.fh _ _ (b.ff _ _ c)]at a;cases a
 exact q _ _ _ _ (b.trans k) h0 (b.fh.free a) zn d
end
end
end Dl
namespace Dl
open PySem L2
variable [KK]
structure jF where
 z:Option (Addr × Addr × Addr)
 l:zl
 deriving Inhabited
inductive Sl where
 |no|v (d:D)|o (ds:zl)|m (t:Bool) (ks:List (List aJ)) (vs:zl)|k (w h:D) (ps:jF)
 deriving Inhabited
abbrev SE:=List Sl
abbrev Z9:=D->SE->Option SE
abbrev wV:=SE->Option Nat
abbrev vl:=SE->Prop
def Sl.f:Sl->Option D
 |.v d=>some d
 |_=>none
def Sl.g:Sl->Option D
 |.v d=>some d
 |.o ds=>some (.lst ds)
 |.m t b a=>some (.dct false t b a)
 |.k w h ps=>some (.obj w h ps.l)
 |.no=>none
def Sl.isO:Sl->Bool
 |.o _=>true
 |.m _ _ _=>true
 |.k _ _ _=>true
 |_=>false
def Sl.isK:Sl->Bool
 |.k _ _ _=>true
 |_=>false
def visF (ρ:SE):Ev:=ρ.map Sl.f
def visG (ρ:SE):Ev:=ρ.map Sl.g
def dM (F:Hp)(o:HO):Sl->Prop
 |.o b=>∃ a,o=.lst a/\ao F b a
 |.m t e b=>∃ a,cF o t e a/\ao F b a
 |.k w h _=>∃ f c d q,o=.ins KK.dk f (bT c d q)/\At F w c/\At F h d
 |_=>False
def dM.mono (h:dM F o s)(k:zZ F F'):dM F' o s:=by
 cases s with
 |no=>exact h
 |v d=>exact h
 |o f=>obtain⟨c,e,a⟩:=h;exact⟨c,e,a.mono k⟩
 |m t l f=>obtain⟨c,e,a⟩:=h;exact⟨c,e,a.mono k⟩
 |k w d ps=>obtain⟨i,g,j,q,e,a,b⟩:=h;exact⟨i,g,j,q,e,a.mono k,b.mono k⟩
def dM.isO {s:Sl}(h:dM F o s):s.isO=true:=by
 cases s with
 |no=>exact h.elim
 |v d=>exact h.elim
 |o a=>rfl
 |m t b a=>rfl
 |k w d c=>rfl
def dM.ntup (h:dM F o s)(f:zD):o≠.tup f:=by
 cases s with
 |no=>exact h.elim
 |v d=>exact h.elim
 |o c=>obtain⟨b,rfl,_⟩:=h;intro e;cases e
 |m t j c =>
  obtain⟨b,e,_⟩:=h
  unfold cF at e
  split at e
  .obtain⟨a,rfl,_⟩:=e;intro e;cases e
  .obtain⟨a,rfl,_⟩:=e;intro e;cases e
 |k w d g=>obtain⟨l,i,n,q,rfl,_⟩:=h;intro e;cases e
def dM.at {G:Hp}{s:Sl}(h:dM F o s)(e:s.g≈d)(b:G p≈o)(k:zZ F G)(f:s.isK=false):At G d (.ref p):=by
 cases s with
 |no=>exact h.elim
 |v d=>exact h.elim
 |o ds =>
  cases e
  obtain⟨c,rfl,a⟩:=h
  exact .lst b (a.mono k)
 |m t i ds =>
  cases e
  obtain⟨c,e,a⟩:=h
  unfold At
  exact⟨p,c,rfl,⟨o,e,b⟩,a.mono k⟩
 |k w d g=>cases f
def Du (Hb F H:Hp)(ρ:SE)(σ:St):Prop:=∀ (i:Nat) (w h:D) (b:jF),ρ[i]?≈(Sl.k w h b)->∃ (p c q:Addr) (f e:V) (d:zD),σ[i]?≈(some (.ref p))/\H p≈(.ins KK.dk c (bT f e q))/\Hb q=none/\F q=none/\H q≈(.lst d)/\ao F b.l d/\(∀ (j:Nat) (s:Sl),ρ[j]?≈s->s.isO=true->σ[j]?≠some (some (.ref q)))/\(∀ (j:Nat) (s:Sl),ρ[j]?≈s->s.isK=true->j=i)/\∀ a,b.z≈a->a=(p,c,q)
def Sl.isK_eq {s:Sl}(h:s.isK=true):∃ w d a,s=.k w d a:=by
 cases s with
 |k w d a=>exact⟨w,d,a,rfl⟩
 |_=>cases h
theorem Du.step {Hb F H Hb' F' H':Hp}{ρ l:SE}{σ k:St}(r:Du Hb F H ρ σ)(m:∀ (i:Nat) (w h:D) (a:jF),l[i]?≈(.k w h a)->ρ[i]?≈(.k w h a)/\k[i]?=σ[i]?)(C:zZ F F')
 (y:∀ (i:Nat) (w h:D) (a:jF) (p c q:Addr) (b f:V) (d:zD),ρ[i]?≈(.k w h a)->σ[i]?≈(some (.ref p))->H p≈(.ins KK.dk c (bT b f q))->Hb q=none->F q=none->H q≈(.lst d)->(∀ (j:Nat) (s:Sl),ρ[j]?≈s->s.isO=true->σ[j]?≠some (some (.ref q))) ->
  H' p≈(.ins KK.dk c (bT b f q))/\Hb' q=none/\F' q=none/\H' q≈(.lst d)/\∀ (j:Nat) (s:Sl),l[j]?≈s->s.isO=true->k[j]?≠some (some (.ref q))):Du Hb' F' H' l k:=λi w h a e=>by
 obtain⟨o,v⟩:=m i w h a e
 obtain⟨p,c,q,b,f,d,n,L,x,O,J,I,P,M,G⟩:=r i w h a o
 obtain⟨Q,z,A,N,u⟩:=y i w h a p c q b f d o n L x O J P
 refine⟨p,c,q,b,f,d,by rw[v];exact n,Q,z,A,N,I.mono C,u,λj s t E=>?_,G⟩
 obtain⟨K,B,g,rfl⟩:=Sl.isK_eq E
 exact M j _ (m j K B g t).1 rfl
def UT (h:bT d e q=bT a b c):q=c:=by
 unfold bT at h
 simp at h
 exact h.2.2
def K3 {f g:V}(h:(some (HO.ins C e (bT f g q)):Option HO)≈(.ins C a (bT b c d))):q=d:=UT (HO.ins.inj (g0 h)).2.2
structure Rl (Fb Hb F H:Hp) (ρ:SE) (σ:St):Prop where
 gr:Gr Fb Hb F H
 vals:∀ (i:Nat) (d:D),ρ[i]?≈(.v d)->∃ v,σ[i]?≈(some v)/\At F d v
 ows:∀ (i:Nat) (s:Sl),ρ[i]?≈s->s.isO=true->∃ p o,σ[i]?≈(some (.ref p))/\Hb p=none/\F p=none/\H p≈o/\dM F o s
 dis:∀ (i j:Nat) (p:Addr) (s t:Sl),ρ[i]?≈s->ρ[j]?≈t->s.isO=true->t.isO=true->σ[i]?≈(some (.ref p))->σ[j]?≈(some (.ref p))->i=j
 len:ρ.length=σ.length
 dk:Du Hb F H ρ σ
section
variable {Fb Hb F H F' H':Hp}{ρ ρ':SE}{σ σ':St}
def Rl.owns (r:Rl Fb Hb F H ρ σ)(i:Nat)(c:zl)(e:ρ[i]?≈(.o c)):∃ p b,σ[i]?≈(some (.ref p))/\Hb p=none/\F p=none/\H p≈(.lst b)/\ao F c b:=by
 obtain⟨p,o,g,d,h,f,b,rfl,a⟩:=r.ows i _ e rfl
 exact⟨p,b,g,d,h,f,a⟩
def Rl.grow (r:Rl Fb Hb F H ρ σ)(g:Gr F H F' H'):Rl Fb Hb F' H' ρ σ:=by
 refine⟨r.gr.trans g,λi d e=>?_,λi s e h=>?_,r.dis,r.len,r.dk.step (λ_ _ _ _ e=>⟨e,rfl⟩) g.ff λi w h G p C q B E D b c j f A u t=>?_⟩
 .obtain⟨v,b,a⟩:=r.vals i d e
  exact⟨v,b,a.mono g.ff⟩
 .obtain⟨p,o,b,c,j,f,a⟩:=r.ows i s e h
  obtain⟨l,k⟩:=g.kl a.ntup j f
  exact⟨p,o,b,c,l,k,a.mono g.ff⟩
 .obtain⟨I,o,m,J,n,K,a⟩:=r.ows i _ b rfl
  rw[c]at m
  cases m
  obtain⟨l,k⟩:=g.kl (λ_ z=>by cases z) n j
  obtain⟨y,x⟩:=g.kl (λ_ z=>by cases z) A u
  exact⟨k,f,y,x,t⟩
def Rl.visF (r:Rl Fb Hb F H ρ σ):cI F (visF ρ) σ:=λi d e=>by
 unfold Dl.visF at e
 rw[q4]at e
 cases h:ρ[i]? with
 |none=>rw[h]at e;cases e
 |some x =>
  rw[h]at e
  cases x with
  |no=>cases e
  |v b =>
   cases e
   exact r.vals i d h
  |o a=>cases e
  |m t c a=>cases e
  |k w d f=>cases e
def Dr (ρ:SE)(σ:St)(H:Hp)(p:Addr):Prop:=∃ (i:Nat) (s:Sl) (r:Addr),ρ[i]?≈s/\s.isO=true/\σ[i]?≈(some (.ref r))/\(p=r\/(s.isK=true/\∃ b a c,H r≈(.ins KK.dk b (bT a c p))))
open Classical in
noncomputable def cW (ρ:SE)(σ:St)(F H:Hp):Hp:=λp=>if Dr ρ σ H p then H p else F p
open Classical in
noncomputable def lr (ρ:SE)(σ:St)(H G:Hp):Hp:=λp=>if Dr ρ σ H p then none else G p
def Rl.own (r:Rl Fb Hb F H ρ σ)(h:Dr ρ σ H p):Hb p=none/\F p=none/\∃ o,H p≈o/\∀ f,o≠.tup f:=by
 obtain⟨i,s,G,k,l,g,b⟩:=h
 rcases b with b|⟨u,I,E,J,b⟩
 .subst b
  obtain⟨q,o,c,B,v,t,a⟩:=r.ows i s k l
  rw[g]at c
  cases c
  exact⟨B,v,o,t,a.ntup⟩
 .obtain⟨w,d,y,rfl⟩:=Sl.isK_eq u
  obtain⟨L,A,q,n,D,f,e,j,m,C,x,K,_⟩:=r.dk i w d y k
  rw[g]at e
  cases e
  rw[b]at j
  cases K3 j
  exact⟨m,C,_,x,λ_ z=>by cases z⟩
def DG (ρ:SE)(σ:St)(H:Hp)(q:Addr):Prop:=(∀ (j:Nat) (s:Sl),ρ[j]?≈s->s.isO=true->σ[j]?≠some (some (.ref q)))/\∀ (j:Nat) (w h:D) (c:jF) (p b:Addr) (d a:V),ρ[j]?≈(.k w h c)->σ[j]?≈(some (.ref p))->H p≠some (.ins KK.dk b (bT d a q))
def Rl.notown (r:Rl Fb Hb F H ρ σ)(g:Gr F H F' H')(h:H q=none):DG ρ σ H' q:=by
 refine⟨λj s b c e=>?_,λj w d l p N J P b c e=>?_⟩
 .obtain⟨p,o,a,_,_,f,_⟩:=r.ows j s b c
  rw[e]at a
  cases a
  rw[h]at f
  cases f
 .obtain⟨U,B,M,t,D,O,a,V,G,f,S,R,_⟩:=(r.grow g).dk j w d l b
  obtain⟨E,y,L,A,C,u,n,v,K,W,i,T,_⟩:=r.dk j w d l b
  rw[c]at a n
  cases a
  cases n
  obtain⟨Q,o,k,_,x,I,_⟩:=r.ows j _ b rfl
  rw[c]at k
  cases k
  have m:=(g.kl (λ_ z=>by cases z) x v).2
  rw[e]at m
  cases K3 m
  rw[h]at i
  cases i
def Rl.notbase (r:Rl Fb Hb F H ρ σ)(h:H q=none):Hb q=none:=by
 cases z:Hb q with
 |none=>rfl
 |some o =>
  cases a:Fb q with
  |none=>rw[(r.gr.kp q o a z).2]at h;cases h
  |some u=>rw[r.gr.fh _ _ (r.gr.ff _ _ a)]at h;cases h
def Rl.fg (r:Rl Fb Hb F H ρ σ):zZ F (cW ρ σ F H):=λp o e=>by
 unfold cW
 split
 .exact r.gr.fh p o e
 .exact e
def Rl.gh (r:Rl Fb Hb F H ρ σ):zZ (cW ρ σ F H) H:=λp o e=>by
 unfold cW at e
 split at e
 .exact e
 .exact r.gr.fh p o e
def Rl.visG (r:Rl Fb Hb F H ρ σ):cI (cW ρ σ F H) (visG ρ) σ:=λi d e=>by
 unfold Dl.visG at e
 rw[q4]at e
 cases h:ρ[i]? with
 |none=>rw[h]at e;cases e
 |some x =>
  rw[h]at e
  have e:x.g≈d:=g0 e
  have own:x.isO=true->∃ v,σ[i]?≈(some v)/\At (cW ρ σ F H) d v:=λu=>by
   obtain⟨p,o,b,L,Q,c,a⟩:=r.ows i x h u
   cases f:x.isK with
   |false =>
    refine⟨_,b,a.at e ?_ r.fg f⟩
    unfold cW
    rw[t5 ⟨i,x,p,h,u,b,.inl rfl⟩]
    exact c
   |true =>
    obtain⟨w,y,s,rfl⟩:=Sl.isK_eq f
    cases e
    obtain⟨R,l,q,g,n,D,j,z,N,S,G,E,_⟩:=r.dk i w y s h
    rw[b]at j
    cases j
    obtain⟨A,B,K,O,J,I,C⟩:=a
    rw[c]at z
    cases z
    cases J
    refine⟨_,b,?_⟩
    unfold At
    refine⟨p,l,q,g,n,D,rfl,?_,?_,I.mono r.fg,C.mono r.fg,E.mono r.fg⟩
    .unfold cW
     rw[t5 ⟨i,_,p,h,rfl,b,.inl rfl⟩]
     exact c
    .unfold cW
     rw[t5 ⟨i,_,p,h,rfl,b,.inr ⟨rfl,l,g,n,c⟩⟩]
     exact G
  cases x with
  |no=>cases e
  |v M =>
   cases e
   obtain⟨v,b,a⟩:=r.vals i d h
   exact⟨v,b,a.mono r.fg⟩
  |o ds=>exact own rfl
  |m t P ds=>exact own rfl
  |k w d s=>exact own rfl
def Rl.back {G':Hp}(r:Rl Fb Hb F H ρ σ)(g:Gr (cW ρ σ F H) H G' H'):Gr F H (lr ρ σ H G') H'/\∀ q b,G' q≈(.tup b)->lr ρ σ H G' q≈(.tup b):=by
 refine⟨⟨λp o e=>?_,λp o e=>?_,λp o c a=>?_⟩,λq b e=>?_⟩
 .unfold lr
  rw[j5 (λh=>by rw[(r.own h).2.1]at e;cases e)]
  exact g.ff p o (r.fg p o e)
 .unfold lr at e
  split at e
  .cases e
  .exact g.fh p o e
 .by_cases h:Dr ρ σ H p
  .refine⟨.inl (by unfold lr;rw[t5 h]),g.fh p o (g.ff p o ?_)⟩
   unfold cW
   rw[t5 h]
   exact a
  .obtain⟨x,y⟩:=g.kp p o (by unfold cW;rw[j5 h];exact c) a
   refine⟨?_,y⟩
   unfold tH lr
   rw[j5 h]
   exact x
 .unfold lr
  rw[j5 (λh=>?_)]
  .exact e
  .obtain⟨_,_,o,a,n⟩:=r.own h
   have:G' q≈o:=g.ff q _ (by unfold cW;rw[t5 h];exact a)
   rw[this]at e
   cases e
   exact n b rfl
def Rl.out (r:Rl Fb Hb F H ρ σ)(g:Gr (cW ρ σ F H) H G' H'):Gr Fb Hb G' H':=by
 refine⟨λp o e=>g.ff p o (r.fg p o (r.gr.ff p o e)),g.fh,λp o f b=>?_⟩
 obtain⟨a,d⟩:=r.gr.kp p o f b
 have c:cW ρ σ F H p=F p:=by
  unfold cW
  rw[j5 (λh=>by rw[(r.own h).1]at b;cases b)]
 rcases a with a|⟨a,i⟩
 .exact g.kp p o (by rw[c];exact a) d
 .have:=g.ff p o (by rw[c];exact i)
  exact⟨.inr ⟨a,this⟩,g.fh _ _ this⟩
def Rl.set (r:Rl Fb Hb F H ρ σ)(a:At F d v):Rl Fb Hb F H (ρ.set i (.v d)) (σ.set i (some v)):=by
 have g:∀ {j:Nat} {s:Sl},(ρ.set i (.v d))[j]?≈s->s.isO=true->i≠j:=λ{j s} h c e=>by
  subst e
  rw[fY]at h
  simp only[dD]at h
  split at h <;> cases h
  cases c
 have G:∀ {j:Nat} {w h:D} {m:jF},(ρ.set i (.v d))[j]?≈(.k w h m)->i≠j:=λh=>g h rfl
 refine⟨r.gr,λj e h=>?_,λj s h c=>?_,λj k p s t f l x u o n=>?_,by simp[r.len],r.dk.step (λj w h m e=>?_) (zZ.refl _) λj w h m p M q L O N P K I y J C B=>⟨I,y,J,C,λk s f c=>?_⟩⟩
 .by_cases b:i=j
  .subst b
   rw[fY]at h
   simp only[dD]at h
   split at h
   .rename_i z
    cases h
    refine⟨v,?_,a⟩
    rw[fY]
    simp[<-r.len,z]
   .cases h
  .rw[u9 b]at h ⊢
   exact r.vals j e h
 .have b:=g h c
  rw[u9 b]at h ⊢
  exact r.ows j s h c
 .have E:=g f x
  have A:=g l u
  rw[u9 E]at f o
  rw[u9 A]at l n
  exact r.dis j k p s t f l x u o n
 .have b:=G e
  rw[u9 b]at e ⊢
  exact⟨e,rfl⟩
 .have b:=g f c
  rw[u9 b]at f ⊢
  exact B k s f c
def Rl.setW (r:Rl Fb Hb F H ρ σ){w:Sl}(h0:Hb p=none)(J:F p=none)(M:H p≈o)(a:dM F o w)(B:DG ρ σ H p)(E:w.isK=false:=by rfl):Rl Fb Hb F H (ρ.set i w) (σ.set i (some (.ref p))):=by
 have b:∀ {s:Sl},(ρ.set i w)[i]?≈s->i<ρ.length/\s=w:=λ{s} h=>by
  rw[fY]at h
  simp only[dD]at h
  split at h
  .rename_i f
   cases h
   exact⟨f,rfl⟩
  .cases h
 have c:i<ρ.length->(σ.set i (some (V.ref p)))[i]?≈(some (.ref p)):=λf=>by
  rw[fY]
  simp[<-r.len,f]
 have R:∀ {j:Nat} {x h:D} {v:jF},(ρ.set i w)[j]?≈(.k x h v)->i≠j:=λ{j x h v} e z=>by
  subst z
  have y:=(b e).2
  rw[<-y]at E
  cases E
 refine⟨r.gr,λj e h=>?_,λj s h A=>?_,λj k q s t g u I G n m=>?_,by simp[r.len],r.dk.step (λj x h v e=>?_) (zZ.refl _) λj x h v S P q L Q W U y C K T O N=>⟨C,K,T,O,λk s g A=>?_⟩⟩
 .by_cases d:i=j
  .subst d
   have e:=(b h).2
   have:=a.isO
   rw[<-e]at this
   cases this
  .rw[u9 d]at h ⊢
   exact r.vals j e h
 .by_cases d:i=j
  .subst d
   obtain⟨f,e⟩:=b h
   subst e
   exact⟨p,o,c f,h0,J,M,a⟩
  .rw[u9 d]at h ⊢
   exact r.ows j s h A
 .by_cases d:i=j
  .subst d
   by_cases l:i=k
   .exact l
   .obtain⟨f,_⟩:=b g
    rw[c f]at n
    cases n
    rw[u9 l]at u m
    exact absurd m (B.1 k t u G)
  .by_cases l:i=k
   .subst l
    obtain⟨f,_⟩:=b u
    rw[c f]at m
    cases m
    rw[u9 d]at g n
    exact absurd n (B.1 j s g I)
   .rw[u9 d]at g n
    rw[u9 l]at u m
    exact r.dis j k q s t g u I G n m
 .have d:=R e
  rw[u9 d]at e ⊢
  exact⟨e,rfl⟩
 .by_cases l:i=k
  .subst l
   rw[c (b g).1]
   intro z
   cases z
   exact B.2 j x h v S P L Q U y C
  .rw[u9 l]at g ⊢
   exact N k s g A
def Rl.setO (r:Rl Fb Hb F H ρ σ)(h0:Hb p=none)(d:F p=none)(e:H p≈(.lst b))(a:ao F c b)(f:DG ρ σ H p):Rl Fb Hb F H (ρ.set i (.o c)) (σ.set i (some (.ref p))):=r.setW h0 d e ⟨b,rfl,a⟩ f
def Rl.mutW (r:Rl Fb Hb F H ρ σ){i:Nat}{w y:Sl}(e:ρ[i]?≈w)(hw:w.isO=true)(A:σ[i]?≈(some (.ref p)))(a:dM F E y)(X:w.isK=false:=by rfl)(L:y.isK=false:=by rfl):Rl Fb Hb F (aA H p E) (ρ.set i y) σ:=by
 obtain⟨q,o,O,h0,P,hH,_⟩:=r.ows i w e hw
 rw[A]at O
 cases O
 have G:i<ρ.length:=(t8.mp e).1
 have n:∀ {j:Nat} {s:Sl} {q:Addr},i≠j->ρ[j]?≈s->s.isO=true->σ[j]?≈(some (.ref q))->q≠p:=λ{j s q} hne m l C z=>by
  subst z
  exact hne (r.dis i j q w s e m hw l A C)
 refine⟨⟨r.gr.ff,λb o z=>?_,λb o V N=>?_⟩,λj d h=>?_,λj s h l=>?_,λj k q s t m C o1 Z U S=>?_,by simp[r.len],r.dk.step (λj x h Y v=>?_) (zZ.refl _) λj x h Y p' dx q vw vh xs g u B M I W K=>⟨?_,M,I,?_,λk s m l=>?_⟩⟩
 .rw[zj (zf z P)]
  exact r.gr.fh b o z
 .rw[zj (zf N h0)]
  exact r.gr.kp b o V N
 .by_cases c:i=j
  .subst c
   rw[o4 G]at h
   cases h
   exact(Bool.noConfusion a.isO)
  .rw[u9 c]at h
   exact r.vals j d h
 .by_cases c:i=j
  .subst c
   rw[o4 G]at h
   cases h
   exact⟨p,E,A,h0,P,zn,a⟩
  .rw[u9 c]at h
   obtain⟨q,z,g,u,B,M,I⟩:=r.ows j s h l
   refine⟨q,z,g,u,B,?_,I⟩
   rw[zj (n c h l g)]
   exact M
 .have f:∀ {j:Nat} {s:Sl},(ρ.set i y)[j]?≈s->s.isO=true->∃ R,ρ[j]?≈R/\R.isO=true:=λ{j s} h l=>by
   by_cases c:i=j
   .subst c;exact⟨w,e,hw⟩
   .rw[u9 c]at h;exact⟨s,h,l⟩
  obtain⟨g,g1,J⟩:=f m o1
  obtain⟨u,T,D⟩:=f C Z
  exact r.dis j k q g u g1 T J D U S
 .by_cases c:i=j
  .subst c
   rw[o4 G]at v
   cases v
   cases L
  .rw[u9 c]at v
   exact⟨v,rfl⟩
 .have c:i≠j:=λz=>by
   subst z
   rw[e]at g
   cases g
   cases X
  rw[zj (n c g rfl u)]
  exact B
 .rw[zj (λz=>K i w e hw (by rw[z];exact A))]
  exact W
 .by_cases Q:i=k
  .subst Q
   exact K i w e hw
  .rw[u9 Q]at m
   exact K k s m l
def Rl.mutate (r:Rl Fb Hb F H ρ σ){i:Nat}{f:zl}(e:ρ[i]?≈(.o f))(d:σ[i]?≈(some (.ref p)))(a:ao F c b):Rl Fb Hb F (aA H p (.lst b)) (ρ.set i (.o c)) σ :=
 r.mutW e rfl d ⟨b,rfl,a⟩
def Sl.fz:Sl->Sl
 |.o a=>.v (.lst a)
 |.m t c b=>.v (.dct false t c b)
 |.k _ _ _=>.no
 |s=>s
def uc (ρ:SE)(i:Nat):SE:=ρ.set i ((ρ[i]?).getD .no).fz
def Rl.freeze (r:Rl Fb Hb F H ρ σ)(i:Nat):∃ F',Rl Fb Hb F' H (uc ρ i) σ:=by
 unfold uc
 cases h:ρ[i]? with
 |none =>
  refine⟨F,?_⟩
  rw[List.set_eq_of_length_le (List.getElem?_eq_none_iff.mp h)]
  exact r
 |some s =>
  have N:i<ρ.length:=(t8.mp h).1
  have same:s.fz=s->∃ F',Rl Fb Hb F' H (ρ.set i ((some s).getD .no).fz) σ:=λe=>by
   refine⟨F,?_⟩
   show Rl Fb Hb F H (ρ.set i s.fz) σ
   rw[e]
   have:ρ.set i s=ρ:=by
    apply CN
    intro j
    by_cases g:i=j
    .subst g;rw[o4 N,h]
    .rw[u9 g]
   rw[this]
   exact r
  have A:∀ d,s.isO=true->s.isK=false->s.g≈d->s.fz=.v d->∃ F',Rl Fb Hb F' H (ρ.set i ((some s).getD .no).fz) σ:=λd U W hg hz=>by
   obtain⟨p,o,X,Z,Y,e4,a⟩:=r.ows i s h U
   have M:zZ F (aA F p o):=λb u e=>by rw[zj (zf e Y)];exact e
   show ∃ F',Rl Fb Hb F' H (ρ.set i s.fz) σ
   rw[hz]
   have n:∀ {j:Nat} {t:Sl},(ρ.set i (.v d))[j]?≈t->t.isO=true->i≠j:=λ{j t} h c e=>by
    subst e
    rw[o4 N]at h
    cases h
    cases c
   refine⟨aA F p o,r.gr.show Z Y e4,λj e z=>?_,λj t z c=>?_,λj k q t u f B K I T S=>?_,by simp[r.len],r.dk.step (λj x R P C=>?_) M λj x R P p' dx q vw vh xs D J E L G V O=>⟨E,L,?_,V,λk t f c=>?_⟩⟩
   .by_cases g:i=j
    .subst g
     rw[o4 N]at z
     cases z
     exact⟨_,X,a.at hg zn M W⟩
    .rw[u9 g]at z
     obtain⟨v,D,J⟩:=r.vals j e z
     exact⟨v,D,J.mono M⟩
   .have g:=n z c
    rw[u9 g]at z
    obtain⟨q,y,D,J,E,L,G⟩:=r.ows j t z c
    refine⟨q,y,D,J,?_,L,G.mono M⟩
    rw[zj (λw=>g (r.dis i j p s t h z U c X (by rw[<-w];exact D)))]
    exact E
   .have a1:=n f K
    have a2:=n B I
    rw[u9 a1]at f
    rw[u9 a2]at B
    exact r.dis j k q t u f B K I T S
   .have g:=n C rfl
    rw[u9 g]at C
    exact⟨C,rfl⟩
   .rw[zj (λz=>O i s h U (by rw[z];exact X))]
    exact G
   .have g:=n f c
    rw[u9 g]at f
    exact O k t f c
  cases s with
  |no=>exact same rfl
  |v d=>exact same rfl
  |o ds=>exact A _ rfl rfl rfl rfl
  |m t ks ds=>exact A _ rfl rfl rfl rfl
  |k w d P =>
   refine⟨F,?_⟩
   have n:∀ {j:Nat} {t:Sl},(ρ.set i Sl.no)[j]?≈t->t≠.no->i≠j:=λ{j t} h c e=>by
    subst e
    rw[o4 N]at h
    cases h
    exact c rfl
   have Q:∀ {t:Sl},t.isO=true->t≠.no:=λ{t} h e=>by subst e;cases h
   refine⟨r.gr,λj e z=>?_,λj t z c=>?_,λj l q t u f B K I T S=>?_,by simp[r.len,Sl.fz],r.dk.step (λj x R P C=>?_) (zZ.refl _) λj x R P p' dx q vw vh xs D J E L G V O=>⟨E,L,G,V,λl t f c=>?_⟩⟩
   .rw[u9 (n z (λz=>by cases z))]at z
    exact r.vals j e z
   .rw[u9 (n z (Q c))]at z
    exact r.ows j t z c
   .rw[u9 (n f (Q K))]at f
    rw[u9 (n B (Q I))]at B
    exact r.dis j l q t u f B K I T S
   .rw[u9 (n C (λz=>by cases z))]at C
    exact⟨C,rfl⟩
   .rw[u9 (n f (Q c))]at f
    exact O l t f c
end
inductive aP where
 |nx (ρ:SE)|rt (d:D)|bk (ρ:SE)|ct (ρ:SE)|no
 deriving Inhabited
abbrev zM:=SE->aP
def lw (Fb Hb:Hp)(E:cj):aP->Prop
 |.nx ρ=>∀ F H σ,Rl Fb Hb F H ρ σ->E.nx σ H
 |.bk ρ=>∀ F H σ,Rl Fb Hb F H ρ σ->E.bk σ H
 |.ct ρ=>∀ F H σ,Rl Fb Hb F H ρ σ->E.ct σ H
 |.rt d=>∀ F H v,Gr Fb Hb F H->At F d v->E.rt v H
 |.no=>False
def RS (t:TS)(g:zM):Prop:=∀ (Fb Hb F H:Hp) (ρ:SE) (σ:St) (E:cj),Rl Fb Hb F H ρ σ->lw Fb Hb E (g ρ)->t E σ H
def SD (X:Cx)(a:Stmt)(g:zM):Prop:=∃ t,PS X a t/\RS t g
def bK (X:Cx)(a:vu)(g:zM):Prop:=∃ t,bH X a t/\RS t g
section
variable {X:Cx}{st:Stmt}{sts:vu}{a b c e:Expr}{pos pos':Pos}
def zL:zM:=.nx
noncomputable def zG (g h:zM):zM:=fun ρ=>match g ρ with
 |.nx a=>h a
 |.rt d=>.rt d
 |.bk a=>.bk a
 |.ct a=>.ct a
 |.no=>.no
def zY:bK X [] zL:=⟨_,Og,λ_ _ F H ρ σ E r h=>h F H σ r⟩
def zk {g:zM}(m:SD X st g)(l:bK X sts h):bK X (st::sts) (zG g h):=by
 obtain⟨t,p,r⟩:=m
 obtain⟨u,b,f⟩:=l
 refine⟨_,xy p b,λFb Hb F H ρ σ E c k=>?_⟩
 refine r Fb Hb F H ρ σ { E with nx:=u E } c ?_
 unfold zG at k
 cases e:g ρ with
 |nx j =>
  rw[e]at k
  exact λF' H' i a=>f Fb Hb F' H' j i E a k
 |rt d=>rw[e]at k;exact k
 |bk d=>rw[e]at k;exact k
 |ct d=>rw[e]at k;exact k
 |no=>rw[e]at k;exact k
def zv {g:zM}(a:SD X st g):bK X [st] g:=let ⟨_,p,r⟩:=a;⟨_,Yf p,r⟩
def dX (i:Nat)(g:zM):zM:=fun ρ=>g (uc ρ i)
def Ad {g:zM}(i:Nat)(h:bK X sts g):bK X sts (dX i g):=by
 obtain⟨t,p,r⟩:=h
 refine⟨_,p,λFb Hb F H ρ σ E b k=>?_⟩
 obtain⟨F',a⟩:=b.freeze i
 exact r Fb Hb F' H _ σ E a k
def bV:zM:=λ_=>.no
def Hj:SD X st bV:=⟨_,QM,λ_ _ _ _ _ _ _ _ h=>h.elim⟩
noncomputable def yf (f:zW):zM:=fun ρ=>match f (visG ρ) with
 |some d=>.rt d
 |none=>.no
def z4 {f:zW}(h:ED X e f):SD X (.Return (some e) pos) (yf f):=by
 obtain⟨t,p,r⟩:=h
 refine⟨_,XY p,λFb Hb F H ρ σ E a k=>?_⟩
 unfold yf at k
 cases h:f (visG ρ) with
 |none=>rw[h]at k;exact k.elim
 |some d =>
  rw[h]at k
  exact r σ _ _ H d _ a.gh a.visG h λF' H' v g b=>k F' H' v (a.out g) b
def bF (m:Bool)(f:zW)(ρ:SE):Option D:=if m then (f (visG ρ)).bind λd=>if bA d then some d else none else f (visF ρ)
def RE.at {f:zW}{t:TE}{Q:VK}(r:RE t f)(a:Rl Fb Hb F H ρ σ)(h:bF m f ρ≈d)(q:∀ F' H' v,Gr F H F' H'->At F' d v->Q v H'):t σ H Q:=by
 unfold bF at h
 cases m with
 |false =>
  rw[j5 u7]at h
  exact r σ _ _ H d _ a.gr.fh a.visF h q
 |true =>
  rw[t5 rfl]at h
  obtain⟨l,e,b⟩:=u4.mp h
  split at b <;> cases b
  rename_i j
  refine r σ _ _ H d _ a.gh a.visG e λF' H' v g k=>?_
  obtain⟨c,i⟩:=a.back g
  exact q _ H' v c (k.flat i j)
def xn (m:Bool)(i:Nat)(f:zW):zM:=fun ρ=>match bF m f ρ with
 |some d=>.nx (ρ.set i (.v d))
 |none=>.no
def yJ {i:Nat}{f:zW}(q:X.N.Nodup)(b:X.N[i]?≈x)(n:eF X.env.scope x)(c:ED X e f)(j:Q0q e (some (.Name x pos')) pos.line X.env=pure false:=by rfl)(l:X.fn x=true\/X.env.scope.names.lookup x≈.local:=by first|exact .inl rfl|exact .inr rfl|assumption):SD X (.Assign [.Name x pos'] e pos) (xn m i f):=by
 obtain⟨t,p,r⟩:=c
 refine⟨_,YE q b n p j l,λFb Hb F H ρ σ E a k=>?_⟩
 unfold xn at k
 cases h:bF m f ρ with
 |none=>rw[h]at k;exact k.elim
 |some d =>
  rw[h]at k
  exact r.at a h λF' H' v g o=>k F' H' _ ((a.grow g).set o)
noncomputable def Zv (f:zW):zM:=fun ρ=>match f (visG ρ) with
 |some _=>.nx ρ
 |none=>.no
def XF {f:zW}(b:ED X e f)(c:Q0q e none pos.line X.env=pure false:=by rfl):SD X (.Expr e pos) (Zv f):=by
 obtain⟨t,p,r⟩:=b
 refine⟨_,XH p c,λFb Hb F H ρ σ E a k=>?_⟩
 unfold Zv at k
 cases h:f (visG ρ) with
 |none=>rw[h]at k;exact k.elim
 |some d =>
  rw[h]at k
  exact r σ _ _ H d _ a.gh a.visG h λF' H' v g i=>k _ H' σ (a.grow (a.back g).1)
def cX (i:Nat)(f:yL):zM:=fun ρ=>match f (visF ρ) with
 |some a=>.nx (ρ.set i (.o a))
 |none=>.no
def FZ {i:Nat}{f:yL}(u:X.N.Nodup)(m:X.N[i]?≈x)(c:eF X.env.scope x)(n:FL X e f)(o:Q0q e (some (.Name x pos')) pos.line X.env=pure false:=by rfl)(s:X.fn x=true\/X.env.scope.names.lookup x≈.local:=by first|exact .inl rfl|exact .inr rfl|assumption):SD X (.Assign [.Name x pos'] e pos) (cX i f):=by
 obtain⟨t,p,r⟩:=n
 refine⟨_,YE u m c p o s,λFb Hb F H ρ σ E a k=>?_⟩
 unfold cX at k
 cases h:f (visF ρ) with
 |none=>rw[h]at k;exact k.elim
 |some j =>
  rw[h]at k
  refine r σ _ _ H j _ a.gr.fh a.visF h λF' H' q v g h0 d l c=>?_
  have b:=a.grow g
  exact k F' H' _ (b.setO (a.notbase h0) d l c (a.notown g h0))
noncomputable def aH (t:vL)(g h:zM):zM:=fun ρ=>match t (visG ρ) with
 |some true=>g ρ
 |some false=>h ρ
 |none=>.no
def xq {e f:vu}{t:vL}{g:zM}(p:TD X c t)(n:bK X e g)(m:bK X f h):SD X (.If c e f pos) (aH t g h):=by
 obtain⟨u,r,i⟩:=p
 obtain⟨s,o,j⟩:=n
 obtain⟨v,l,q⟩:=m
 refine⟨_,Ep r o l,λFb Hb F H ρ σ E b k=>?_⟩
 unfold aH at k
 cases h:t (visG ρ) with
 |none=>rw[h]at k;exact k.elim
 |some d =>
  rw[h]at k
  refine i σ _ _ H d _ b.gh b.visG h λF' H' g=>?_
  have a:=b.grow (b.back g).1
  cases d with
  |true=>rw[t5 rfl];exact j Fb Hb _ H' ρ σ E a k
  |false=>rw[j5 u7];exact q Fb Hb _ H' ρ σ E a k
def Yu (t:vL)(g:zM):Nat->SE->aP
 |0,_=>.no
 |n+1,ρ=>match t (visG ρ) with
  |some true=>match g ρ with
   |.nx a=>Yu t g n a
   |.ct a=>Yu t g n a
   |.bk a=>.nx a
   |.rt d=>.rt d
   |.no=>.no
  |some false=>.nx ρ
  |none=>.no
def Qi {t:vL}{g:zM}(n:Nat)(v:Q1Y (Q0i X.prog X.w) X.A X.env X.xe)(s:TD X c t)(l:bK X j g):SD X (.While c j [] pos) (Yu t g n):=by
 obtain⟨z,u,q⟩:=s
 obtain⟨y,o,r⟩:=l
 refine⟨_,zlP v u o,λFb Hb F H ρ σ E a k=>?_⟩
 refine⟨λm σ H=>∃ F ρ,Rl Fb Hb F H ρ σ/\lw Fb Hb E (Yu t g m ρ),⟨n,F,ρ,a,k⟩,?_⟩
 rintro m σ H ⟨F,ρ,a,k⟩
 cases m with
 |zero=>exact k.elim
 |succ m =>
  unfold Yu at k
  cases h:t (visG ρ) with
  |none=>rw[h]at k;exact k.elim
  |some d =>
   rw[h]at k
   refine q σ _ _ H d _ a.gh a.visG h λF' H' p=>?_
   have b:=a.grow (a.back p).1
   cases d with
   |false=>rw[j5 u7];exact k _ H' σ b
   |true =>
    rw[t5 rfl]
    refine⟨fun σ H=>∃ F ρ,Rl Fb Hb F H ρ σ/\lw Fb Hb E (Yu t g m ρ),λA H' w=>⟨m,mY m,w⟩,?_⟩
    refine r Fb Hb _ H' ρ σ _ b ?_
    dsimp only at k
    cases e:g ρ with
    |nx f=>rw[e]at k;exact λF2 H2 x i=>⟨F2,f,i,k⟩
    |ct f=>rw[e]at k;exact λF2 H2 x i=>⟨F2,f,i,k⟩
    |bk f=>rw[e]at k;exact k
    |rt d=>rw[e]at k;exact k
    |no=>rw[e]at k;exact k.elim
def RG (t:TG)(b:Z9):Prop:=∀ (Fb Hb F H:Hp) (ρ c:SE) (σ:St) (d:D) (v:V) (Q:wS),Rl Fb Hb F H ρ σ->At F d v->b d ρ≈c->(∀ a,Rl Fb Hb F H c a->Q a H)->t v σ H Q
def RGs (t:lu)(b:zl->SE->Option SE):Prop:=∀ (Fb Hb F H:Hp) (ρ c:SE) (σ:St) (d:zl) (e:zD) (Q:wS),Rl Fb Hb F H ρ σ->ao F d e->b d ρ≈c->(∀ a,Rl Fb Hb F H c a->Q a H)->t e σ H Q
def BD (X:Cx)(a:Expr)(b:Z9):Prop:=∃ t,PG X a t/\RG t b
def tK (X:Cx)(a:y0)(b:zl->SE->Option SE):Prop:=∃ t,tD X a t/\RGs t b
def xE (i:Nat):Z9:=λd ρ=>some (ρ.set i (.v d))
def wI (h:PG X a (Zi i)):BD X a (xE i):=by
 refine⟨_,h,λFb Hb F H ρ f σ d v Q c b e q=>?_⟩
 cases e
 exact q _ (c.set b)
def jd:zl->SE->Option SE
 |[],ρ=>some ρ
 |_,_=>none
def ZJ (b:Z9)(c:zl->SE->Option SE):zl->SE->Option SE
 |d::ds,ρ=>(b d ρ).bind (c ds)
 |[],_=>none
def Be:tK X [] jd:=by
 refine⟨_,Bo,λFb Hb F H ρ d σ c f Q b a e q=>?_⟩
 cases c with
 |nil=>cases e;exact⟨a.nil_inv,q _ b⟩
 |cons _ _=>cases e
def Yl {a:y0}{b:Z9}{c:zl->SE->Option SE}(v:BD X e b)(o:tK X a c)
 (z:(Q0Q (e::a) X.env).map (·.2)=Q2v e X.env::(Q0Q a X.env).map (·.2):=by rfl):tK X (e::a) (ZJ b c):=by
 obtain⟨t,p,r⟩:=v
 obtain⟨u,k,n⟩:=o
 refine⟨_,Yb p k z,λFb Hb F H ρ y σ f C Q l A e q=>?_⟩
 cases f with
 |nil=>cases e
 |cons d f =>
  obtain⟨x,i,rfl,w,s⟩:=A.cons_inv
  obtain⟨h,B,m⟩:=u4.mp e
  exact⟨x,i,rfl,r Fb Hb F H ρ h σ d x _ l w B λj g=>n Fb Hb F H h y j f i Q g s m q⟩
def gZ (n:Nat)(c:zl->SE->Option SE):Z9
 |.tup ds,ρ=>if ↥ds=n then c ds ρ else none
 |_,_=>none
def Af {b:y0}{k:Nat}{n:Nat}{c:zl->SE->Option SE}(u:X.calm=true)(h:tK X b c)
 (o:(Q0Q b X.env).length=n:=by rfl) (f:(Q0Q b X.env).findIdx? (·.1)=none:=by rfl):BD X (.Tuple b k pos) (gZ n c):=by
 obtain⟨t,p,r⟩:=h
 refine⟨_,uW u p o f,λFb Hb F H ρ s σ d v Q g x e q=>?_⟩
 cases d with
 |tup l =>
  unfold gZ at e
  dsimp only at e
  split at e
  .rename_i m
   obtain⟨a,i,rfl,w,j⟩:=x.tup_inv
   exact⟨a,i,rfl,aM.of (g.gr.fh _ _ w),by rw[↥j];exact m,r Fb Hb F H ρ s σ l i Q g j e q⟩
  .cases e
 |_=>cases e
def gY (m:Bool)(i:Nat)(a c:zW):zM:=fun ρ=>match (bF m c ρ).bind λd=>(a (visG ρ)).bind λk=>match ρ[i]?,k with
 |some (.o ds),.int k=>(ixN ↥ds k).map λj=>ρ.set i (.o (ds.set j d))
 |_,_=>none with
 |some b=>.nx b
 |none=>.no
def zpL {f:Expr}{w:zW}(T:ED X e w)(M:PE X a (Wd i))(I:ED X f y)(l:swapsWithSole [.Subscript a f pos'] e pos.line X.env=pure false:=by rfl)(hw:swappedStores [.Subscript a f pos'] e X.env=pure none:=by rfl)(O:(Q0Q [.Subscript a f pos'] X.env).map (·.2)=[Q2v (.Subscript a f pos') X.env]:=by rfl) (S:∀ v,Q2v (.Subscript a f pos') X.env v=(do
 let ov<-Q1d [v] (eval a X.env)
 let iv<-Q1d [v,ov] (eval f X.env)
 Q2l pos'
 Q1d [v,ov,iv] (setItem ov iv v)
 release [v,ov,iv] []):=by intro _;rfl):SD X (.Assign [.Subscript a f pos'] e pos) (gY m i y w):=by
 obtain⟨t,p,r⟩:=T
 obtain⟨Z,N,P⟩:=I
 refine⟨_,zpK p (zqH M N zlr S) l hw O,λFb Hb F H ρ σ E B k=>?_⟩
 unfold gY at k
 cases h:(bF m w ρ).bind λd=>(y (visG ρ)).bind λk=>match ρ[i]?,k with
  |some (.o n),.int k=>(ixN ↥n k).map λj=>ρ.set i (.o (n.set j d))
  |_,_=>none with
 |none=>rw[h]at k;exact k.elim
 |some ρ' =>
  rw[h]at k
  obtain⟨d,W,b⟩:=u4.mp h
  obtain⟨K,U,b⟩:=u4.mp b
  cases l:ρ[i]? with
  |none=>rw[l]at b;cases b
  |some Q =>
   rw[l]at b
   cases Q with
   |no=>cases b
   |v _=>cases b
   |m _ _ _=>cases b
   |k _ _ _=>cases b
   |o n =>
    cases K with
    |int R =>
     obtain⟨j,J,rfl⟩:=u8.mp b
     refine r.at B W λF' H' v g V=>?_
     have c:=B.grow g
     obtain⟨q,xs,x,_⟩:=c.owns i n l
     refine⟨_,x,?_⟩
     refine P σ _ _ H' _ _ c.gh c.visG U λF3 H3 v3 L A=>?_
     obtain⟨G,_⟩:=c.back L
     have u:=c.grow G
     obtain⟨q3,z,s,_,_,Y,C⟩:=u.owns i n l
     rw[x]at s
     cases s
     refine⟨q,z,R,j,rfl,A.int_inv,Y,by rw[↥C];exact J,?_⟩
     exact k _ _ σ (u.mutate l x (C.set j (V.mono G.ff)))
    |_=>cases b
end
end Dl
namespace L2
open PySem PySem.Spec PyProof.Rows
section
variable {X:Cx}{tg:Expr}
def JM (K:zA)(c:TE):TI:=fun σ H R=>c σ H λx H1=>(∃ a,x=.ref a/\(∃ b,aN K H1 a b)/\R (J3 K a) H1)\/(∃ a,x=.ref a/\(∃ b,aM K H1 a b)/\R (J1 K a) H1)
def zqp {k:TE}(r:PE X l k):PI X tg l (JM X.K k):=by
 intro f s σ H R I h
 refine aG (r f s σ H _ I h) λv c hh9=>?_
 obtain⟨x,H1,I1,j,t⟩:=hh9
 rcases t with ⟨a,e,⟨m,g⟩,q⟩|⟨a,e,⟨m,g⟩,q⟩
 .subst e
  cases j
  obtain⟨d,n,p,u⟩:=I1.list g
  refine nF p.isList ?_
  refine⟨⇑c,[⇑c],_,_,H1,rfl,I1.kept (t':=c.toks) λb o e=>u6 _ e,zhJ a _,⟨_,j6 _ rfl,rfl,rfl⟩,λb i=>?_,q⟩
  have e:b=⇑c:=by simpa using i
  subst e
  exact I1.fpOk (t6 _) (I1.hok.fresh (t6 _))
 .subst e
  cases j
  obtain⟨d,n,p,u⟩:=I1.tuple g
  refine iM (show c.heap.IsTuple a d.toArray from p) ?_
  refine⟨⇑c,[⇑c],_,_,H1,rfl,I1.kept (t':=c.toks) λb o e=>u6 _ e,zf3 a _,⟨_,j6 _ rfl,rfl,rfl⟩,λb i=>?_,q⟩
  have e:b=⇑c:=by simpa using i
  subst e
  exact I1.fpOk (t6 _) (I1.hok.fresh (t6 _))
end
end L2
namespace Dl
open PySem L2
variable [KK]
def lD (J:It)(F:Hp)(a:zl):Prop:=∀ (i:Nat) (F2 H2:Hp),zZ F F2->zZ F2 H2->(i=↥a->J.stop i H2) /\
 ∀ d,a[i]?≈d->J.go i H2/\∀ x H3,J.yld i H2 x H3->∃ F3,Gr F2 H2 F3 H3/\At F3 d x
def RI (b:TI)(f:yL):Prop :=
 ∀ (σ:St) (ρ:Ev) (F H:Hp) (a:zl) (R:It->Hp->Prop),zZ F H->cI F ρ σ->f ρ≈a->(∀ F' H' J,Gr F H F' H'->lD J F' a->R J H')->b σ H R
def ID (X:Cx)(c a:Expr)(f:yL):Prop:=∃ b,PI X c a b/\RI b f
def wW:D->Option zl
 |.lst a=>some a
 |.tup a=>some a
 |_=>none
section
variable {X:Cx}{tg a b c e:Expr}{pos:Pos}
def zqI {F:Hp}{a:zD}{e:zl}(h:F p≈(.lst a))(j:ao F e a):lD (J3 K p) F e:=by
 intro i F2 H2 c f
 have q:aN K H2 p a:=aN.of (f _ _ (c _ _ h))
 refine⟨λl=>⟨a,q,by rw[↥j,l];exact t6 _⟩,λd k=>?_⟩
 obtain⟨x,g,m⟩:=j.get k
 refine⟨⟨a,x,q,g⟩,λy H3 b=>?_⟩
 obtain⟨rfl,b⟩:=b
 have:=b a q
 rw[g]at this
 cases this
 exact⟨F2,.refl f,m.mono c⟩
def zpX {F:Hp}{a:zD}{e:zl}(h:F p≈(.tup a))(j:ao F e a):lD (J1 K p) F e:=by
 intro i F2 H2 c f
 have q:aM K H2 p a:=aM.of (f _ _ (c _ _ h))
 refine⟨λl=>⟨a,q,by rw[↥j,l];exact t6 _⟩,λd k=>?_⟩
 obtain⟨x,g,m⟩:=j.get k
 refine⟨⟨a,x,q,g⟩,λy H3 b=>?_⟩
 obtain⟨rfl,b⟩:=b
 have:=b a q
 rw[g]at this
 cases this
 exact⟨F2,.refl f,m.mono c⟩
def bc (f:zW):yL:=fun ρ=>(f ρ).bind wW
def xY {f:zW}(j:ED X a f):ID X tg a (bc f):=by
 obtain⟨t,p,r⟩:=j
 refine⟨_,zqp p,fun σ ρ F H n R s l e q=>?_⟩
 obtain⟨d,m,k⟩:=u4.mp e
 refine r σ ρ F H d _ s l m λF1 H1 v c i=>?_
 cases d <;> try cases k
 .obtain⟨p,g,rfl,b,h⟩:=i.tup_inv
  exact .inr ⟨p,rfl,⟨g,aM.of (c.fh _ _ b)⟩,q F1 H1 _ c (zpX b h)⟩
 .obtain⟨p,g,rfl,b,h⟩:=i.lst_inv
  exact .inl ⟨p,rfl,⟨g,aN.of (c.fh _ _ b)⟩,q F1 H1 _ c (zqI b h)⟩
def ZS (lo:Int)(n:Nat):zl:=(Q0g n).map λk:Nat=>.int (lo+k)
def Ai (c:Int)(n:Nat):lD (tG c n) F (ZS c n):=by
 intro i F2 H2 j h
 have a:(ZS c n).length=n:=by unfold ZS;simp
 refine⟨λf=>by rw[a]at f;rw[f];exact t6 _,λd b=>?_⟩
 have e:i<n:=by
  have:=(t8.mp b).1
  omega
 refine⟨e,λy H3 g=>?_⟩
 obtain⟨rfl,rfl⟩:=g
 refine⟨F2,.refl h,?_⟩
 unfold ZS at b
 rw[q4,Cv e]at b
 cases b
 exact .int
@[irreducible] def zi9 (j:Int):Bool:=decide (-(2^62)<=j/\j<2^62)
omit [KK] in
def yq:zi9 j=true↔-(2^62)<=j/\j<2^62:=by unfold zi9;exact decide_eq_true_iff
def Wy:fj
 |[.int j]=>if zi9 j then some (ZS 0 j.toNat)else none
 |_=>none
def cT:fj
 |[.int i,.int j]=>if zi9 i=true/\zi9 j then some (ZS i (j-i).toNat)else none
 |_=>none
def dB (g:fj)(f:yL):yL:=fun ρ=>(f ρ).bind g
def Ri {f:yL} (u:Gl X "range") (m:X.mg "range"=none) (h:AD X [a] f) (k:Q0c [a] X.env=[(false,eval a X.env)]:=by rfl):ID X tg (.Call (.Name "range" p) [a] [] pos) (dB Wy f):=by
 obtain⟨t,i,r⟩:=h
 refine⟨_,Ra u m i k,fun σ ρ F H y R s j e q=>?_⟩
 obtain⟨d,n,b⟩:=u4.mp e
 refine r σ ρ F H d _ s j n λF1 H1 v w g=>?_
 unfold Wy at b
 split at b
 .split at b
  .cases b
   rename_i c
   obtain⟨x,z,rfl,o,l⟩:=g.cons_inv
   cases l.nil_inv
   exact⟨_,by rw[o.int_inv],(yq.mp c).1,(yq.mp c).2,q F1 H1 _ w (Ai 0 _)⟩
  .cases b
 .cases b
def zhV {f:yL} (B:Gl X "range") (w:X.mg "range"=none) (n:AD X [a,b] f) (u:Q0c [a,b] X.env=[(false,eval a X.env),(false,eval b X.env)]:=by rfl) (i:Q0c [b] X.env=[(false,eval b X.env)]:=by rfl) :
 ID X tg (.Call (.Name "range" p) [a,b] [] pos) (dB cT f):=by
 obtain⟨t,o,r⟩:=n
 refine⟨_,RC B w o u i,fun σ ρ F H E R s j e q=>?_⟩
 obtain⟨d,A,c⟩:=u4.mp e
 refine r σ ρ F H d _ s j A λF1 H1 v C m=>?_
 unfold cT at c
 split at c
 .split at c
  .cases c
   rename_i g
   obtain⟨x,l,rfl,z,h⟩:=m.cons_inv
   obtain⟨y,l,rfl,k,h⟩:=h.cons_inv
   cases h.nil_inv
   exact⟨_,_,by rw[z.int_inv,k.int_inv],⟨(yq.mp g.1).1,(yq.mp g.1).2,(yq.mp g.2).1,(yq.mp g.2).2⟩,q F1 H1 _ C (Ai _ _)⟩
  .cases c
 .cases c
def ZE (n:Nat):zl->zl
 |[]=>[]
 |d::ds=>.tup [.int n,d]::ZE (n+1) ds
omit [KK] in
def vk (a:zl):∀ (n i:Nat),(ZE n a)[i]?=(a[i]?).map λd=>.tup [.int ((n+i:Nat):Int),d]:=by
 induction a with
 |nil=>intro n i;simp[ZE]
 |cons d a b =>
  intro n i
  cases i with
  |zero=>simp[ZE]
  |succ i =>
   show(ZE (n+1) a)[i]?=(a[i]?).map _
   rw[b]
   have:n+1+i=n+(i+1):=by omega
   rw[this]
omit [KK] in
def wx (a:zl):∀ n,(ZE n a).length=↥a:=by
 induction a with
 |nil=>intro n;rfl
 |cons d a b=>intro n;simp[ZE,b]
def WZ (f:yL):yL:=fun ρ=>(f ρ).bind λa=>match a with
 |[d]=>(wW d).map (ZE 0)
 |_=>none
def Gq {k:Nat} {N:Pos} {f:yL} (Y:Gl X "enumerate") (V:X.mg "enumerate"=none) (M:Q0j "enumerate"≈(.type "enumerate")) (P:AD X [a] f) (U:Q0c [a] X.env=[(false,eval a X.env)]:=by rfl):ID X (.Tuple G k N) (.Call (.Name "enumerate" p) [a] [] pos) (WZ f):=by
 obtain⟨t,Q,r⟩:=P
 refine⟨_,zn5 Y V M Q U,fun σ ρ F H Z R s J e q=>?_⟩
 obtain⟨K,W,B⟩:=u4.mp e
 refine r σ ρ F H K _ s J W λF1 H1 v A O=>?_
 split at B
 .obtain⟨x,r',rfl,l,L⟩:=O.cons_inv
  cases L.nil_inv
  obtain⟨G,S,rfl⟩:=u8.mp B
  rename_i d
  cases d <;> try cases S
  .obtain⟨p,b,rfl,w,z⟩:=l.tup_inv
   refine⟨p,rfl,.inr ⟨b,aM.of (A.fh _ _ w),q F1 H1 _ A λi F2 H2 n u=>?_⟩⟩
   have j:aM X.K H2 p b:=aM.of (u _ _ (n _ _ w))
   refine⟨λC=>⟨b,j,by rw[↥z,C,wx];exact t6 _⟩,λd o=>?_⟩
   rw[vk]at o
   obtain⟨I,h,rfl⟩:=u8.mp o
   obtain⟨x,c,l⟩:=z.get h
   refine⟨⟨b,x,j,c⟩,λy H3 g=>?_⟩
   obtain⟨T,y,rfl,E,rfl,g⟩:=g
   have:=g b j
   rw[c]at this
   cases this
   have m:=Gr.alloc u E (.tup [.int i,x])
   exact⟨_,m,.tup zn (.cons (by rw[i3];exact .int) (.cons (l.mono (n.trans m.ff)) .nil))⟩
  .obtain⟨p,b,rfl,w,z⟩:=l.lst_inv
   refine⟨p,rfl,.inl ⟨b,A.fh _ _ w,q F1 H1 _ A λi F2 H2 n u=>?_⟩⟩
   have j:aN X.K H2 p b:=aN.of (u _ _ (n _ _ w))
   refine⟨λC=>⟨b,j,by rw[↥z,C,wx];exact t6 _⟩,λd o=>?_⟩
   rw[vk]at o
   obtain⟨I,h,rfl⟩:=u8.mp o
   obtain⟨x,c,l⟩:=z.get h
   refine⟨⟨b,x,j,c⟩,λy H3 g=>?_⟩
   obtain⟨T,y,rfl,E,rfl,g⟩:=g
   have:=g b j
   rw[c]at this
   cases this
   have m:=Gr.alloc u E (.tup [.int i,x])
   exact⟨_,m,.tup zn (.cons (by rw[i3];exact .int) (.cons (l.mono (n.trans m.ff)) .nil))⟩
 .cases B
def cV (F1 Hb:Hp):Hp:=λp=>match F1 p with
 |some o=>some o
 |none=>Hb p
def Xl {F1 Hb:Hp}(h:F1 p=none):cV F1 Hb p=Hb p:=by unfold cV;rw[h]
def zkV {F1:Hp}(h:F1 p≈o):cV F1 Hb p≈o:=by unfold cV;rw[h]
def Gr.up (c:Gr Fb Hb F1 H1)(g:Gr F1 (cV F1 Hb) F H):Gr Fb Hb F H:=by
 refine⟨c.ff.trans g.ff,g.fh,λp o d a=>?_⟩
 rcases(c.kp p o d a).1 with n|⟨e,b⟩
 .exact g.kp p o n (by rw[Xl n];exact a)
 .exact⟨.inr ⟨e,g.ff _ _ b⟩,g.fh _ _ (g.ff _ _ b)⟩
def Gr.dn (g:Gr Fb Hb F H)(c:zZ Fb F1)(s:zZ F1 F):Gr F1 (cV F1 Hb) F H:=by
 refine⟨s,g.fh,λp o b a=>?_⟩
 rw[Xl b]at a
 exact g.kp p o (c.free b) a
def Rl.up (m:Gr Fb Hb F1 H1)(r:Rl F1 (cV F1 Hb) F H ρ σ):Rl Fb Hb F H ρ σ:=by
 have c:∀ {p:Addr},cV F1 Hb p=none->Hb p=none:=λ{p} e=>by
  cases h:F1 p with
  |none=>rw[Xl h]at e;exact e
  |some o=>rw[zkV h]at e;cases e
 refine⟨m.up r.gr,r.vals,λi s e g=>?_,r.dis,r.len,r.dk.step (λ_ _ _ _ e=>⟨e,rfl⟩) (zZ.refl _) λi w h x p t q n v u d b a f l k j=>⟨a,c f,l,k,j⟩⟩
 obtain⟨p,o,d,b,a⟩:=r.ows i s e g
 exact⟨p,o,d,c b,a⟩
def Rl.dn (r:Rl Fb Hb F H ρ σ)(l:zZ Fb F1)(s:zZ F1 F):Rl F1 (cV F1 Hb) F H ρ σ:=by
 refine⟨r.gr.dn l s,r.vals,λi t e g=>?_,r.dis,r.len,r.dk.step (λ_ _ _ _ e=>⟨e,rfl⟩) (zZ.refl _) λi w h x p n q m v u f c a b d k j=>⟨a,by rw[Xl (s.free d)];exact b,d,k,j⟩⟩
 obtain⟨p,o,f,c,a,b⟩:=r.ows i t e g
 refine⟨p,o,f,?_,a,b⟩
 rw[Xl (s.free a)]
 exact c
def fU (b:Z9)(g:zM):zl->SE->aP
 |[],ρ=>.nx ρ
 |d::ds,ρ=>match b d ρ with
  |none=>.no
  |some c=>match g c with
   |.nx a=>fU b g ds a
   |.ct a=>fU b g ds a
   |.bk a=>.nx a
   |.rt d=>.rt d
   |.no=>.no
noncomputable def cA (f:yL)(b:Z9)(g:zM):zM:=fun ρ=>match f (visF ρ) with
 |some a=>fU b g a ρ
 |none=>.no
def Fp {E:cj}{J:It}{g:TG}{a:zl}{b:Z9}(p:lD J F1 a)(O:RG g b)(R:RS C j)(c:Rl Fb Hb F1 H1 ρ σ)(k:lw Fb Hb E (fU b j a ρ)) :
 ∃ W:Nat->Nat->St->Hp->Prop,(∃ m,W 0 m σ H1)/\∀ i m σ H,W i m σ H ->
  (J.stop i H/\E.nx σ H)\/(J.go i H/\∃ N:wS,(∀ t H',N t H'->∃ B,B<m/\W (i+1) B t H')/\∀ x H',J.yld i H x H'->g x σ H' λz H2=>C { E with nx:=N,ct:=N,bk:=E.nx } z H2):=by
 refine⟨λi m σ H=>m=↥a-i/\i<=↥a/\∃ F ρ,zZ F1 F/\Rl Fb Hb F H ρ σ/\lw Fb Hb E (fU b j (a.drop i) ρ),⟨↥a,by simp,cO _,F1,ρ,zZ.refl _,c,k⟩,?_⟩
 rintro i m σ H ⟨rfl,V,F,ρ,G,q,k⟩
 obtain⟨n,L⟩:=p i F H G q.gr.fh
 by_cases h:i<↥a
 .have Q:a.drop i=a[i]::a.drop (i+1):=CQ h
  rw[Q]at k
  unfold fU at k
  obtain⟨U,K⟩:=L a[i] (by simp[h])
  refine .inr ⟨U,fun σ H=>∃ F ρ,zZ F1 F/\Rl Fb Hb F H ρ σ/\lw Fb Hb E (fU b j (a.drop (i+1)) ρ),λt H' w=>⟨↥a-(i+1),by omega,rfl,h,w⟩,λx H' P=>?_⟩
  obtain⟨F3,A,S⟩:=K x H' P
  cases y:b a[i] ρ with
  |none=>rw[y]at k;exact k.elim
  |some r =>
   rw[y]at k
   dsimp only at k
   refine O Fb Hb F3 H' ρ r σ _ x _ (q.grow A) S y λz u=>?_
   have I:=G.trans A.ff
   refine R F1 (cV F1 Hb) F3 H' r z _ (u.dn c.gr.ff I) ?_
   cases l:j r with
   |nx o=>rw[l]at k;exact λF4 H4 s f=>⟨F4,o,f.gr.ff,f.up c.gr,k⟩
   |ct o=>rw[l]at k;exact λF4 H4 s f=>⟨F4,o,f.gr.ff,f.up c.gr,k⟩
   |bk o=>rw[l]at k;exact λF4 H4 s f=>k F4 H4 s (f.up c.gr)
   |rt d=>rw[l]at k;exact λF4 H4 v T M=>k F4 H4 v (c.gr.up T) M
   |no=>rw[l]at k;exact k.elim
 .have e:i=↥a:=by omega
  subst e
  rw[Bx]at k
  exact .inl ⟨n rfl,k F H σ q⟩
def VG {a:Expr}{c:vu}{f:yL}{b:Z9}{g:zM}(l:Q1Y (Q0i X.prog X.w) X.A X.env X.xe)(r:X.calm=true)(o:ID X tg a f)(v:BD X tg b)(n:bK X c g)
 (q:∀ x,Q0m a X.env x=pure x:=by intro _;rfl):SD X (.For tg a c [] pos) (cA f b g):=by
 obtain⟨y,e,j⟩:=o
 obtain⟨t,p,u⟩:=v
 obtain⟨z,m,s⟩:=n
 refine⟨_,Fw l r e p m q,λFb Hb F H ρ σ E d k=>?_⟩
 unfold cA at k
 cases h:f (visF ρ) with
 |none=>rw[h]at k;exact k.elim
 |some i =>
  rw[h]at k
  exact j σ _ _ H i _ d.gr.fh d.visF h λF1 H1 J w ok=>Fp ok u s (d.grow w) k
end
def dG (b:jl)(t:vL)(f:zW)(ρ:Ev):fj
 |[]=>some []
 |d::ds=>(b d).bind λown=>(t (own++ρ)).bind λc=>if c then (f (own++ρ)).bind λy=>(dG b t f ρ ds).map (y::·)else dG b t f ρ ds
def aL (i:yL)(b:jl)(t:vL)(f:zW):yL:=fun ρ=>(i ρ).bind λa=>if aU ↥a then dG b t f ρ a else none
def b1:jl:=λd=>some [some d]
def b2:jl
 |.tup [x,y]=>some [some x,some y]
 |_=>none
def RB (n:Nat)(t:TG)(b:jl):Prop:=∀ (σ:St) (ρ:Ev) (F H:Hp) (d:D) (v:V) (own:List (Option D)) (Q:wS),zZ F H->cI F ρ σ->At F d v->b d≈own->(∀ a,cI F (own++ρ) a->Q a H)->t v (Q0a n none++σ) H Q
def yN:vL:=λ_=>some true
def Mv:RT rE yN:=λ_ _ _ _ _ _ s _ e q=>by cases e;exact q _ _ (.refl s)
def uT {g:TG}{tt:TT}(ri:RI wi fi)(rg:RB n g b)(rt:RT tt ft)(re:RE te Y) :
 RF (nJ wi n g tt te) (aL fi b ft Y):=by
 intro σ ρ F H T Q s va e q
 obtain⟨a,e1,L⟩:=u4.mp e
 split at L <;> try cases L
 rename_i B
 have B:↥a<=sizeLine:=j8 B
 refine ri σ ρ F H a _ s va e1 λF1 H1 J C ok=>?_
 intro P G
 have O:F1 P=none:=C.fh.free G
 have a0:H P=none:=by
  cases e:H P with
  |none=>rfl
  |some o =>
   cases L:F P with
   |none=>rw[(C.kp P o L e).2]at G;cases G
   |some u=>rw[C.fh _ _ (C.ff _ _ L)]at G;cases G
 refine⟨λi m M H2=>m=↥a-i/\i<=↥a/\∃ F2 done,Gr F1 H1 F2 H2/\Gr F1 (aA H1 P (.lst [])) F2 (aA H2 P (.lst []))/\F2 P=none/\H2 P≈(.lst M)/\ao F2 done M/\↥done<=i/\∃ c,dG b ft Y ρ (a.drop i)≈c/\done++c=T,⟨↥a,by simp,cO _,F1,[],Gr.hide C.fh G _,?_,O,zn,.nil,cO _,T,L,rfl⟩,?_⟩
 .rw[G5]
  exact .refl λb u z=>by rw[zj (zf z O)];exact C.fh b u z
 rintro i m M H2 ⟨rfl,hi,F2,done,w,a1,I,K,V,a2,c,d,f⟩
 obtain⟨S,go⟩:=ok i F2 H2 w.ff w.fh
 by_cases p:i<↥a
 .have hd:a.drop i=a[i]::a.drop (i+1):=CQ p
  rw[hd]at d
  unfold dG at d
  obtain⟨own,hb,d⟩:=u4.mp d
  obtain⟨cb,hc,d⟩:=u4.mp d
  obtain⟨k1,k2⟩:=go a[i] (by simp[p])
  refine .inr ⟨k1,by rw[↥V];omega,λx H3 hy=>?_⟩
  obtain⟨F3,U,a3⟩:=k2 x H3 hy
  refine rg σ ρ F3 H3 a[i] x own _ U.fh (va.mono (C.ff.trans (w.ff.trans U.ff))) a3 hb fun σ4 N=>?_
  refine rt σ4 _ F3 H3 cb _ U.fh N hc λF5 H5 W=>?_
  have k:=U.trans W
  obtain⟨X,h5⟩:=k.kl (λ_ e=>by cases e) I K
  have l:∀ {F6 H6:Hp} {o:HO},Gr F2 H2 F6 H6->F6 P=none->Gr F1 (aA H1 P (.lst [])) F6 (aA (aA H6 P o) P (.lst [])):=λ{F6 H6 o} t A=>by
   rw[G5]
   refine⟨w.ff.trans t.ff,λb u z=>?_,λb u z1 E=>?_⟩
   .rw[zj (zf z A)];exact t.fh b u z
   .by_cases j:b=P
    .subst j
     rw[zn]at E ⊢
     exact⟨.inl A,E⟩
    .rw[zj j]at E ⊢
     exact(w.trans t).kp b u z1 E
  have h:∀ {F6 H6:Hp} {o:HO},Gr F2 H2 F6 H6->F6 P=none->Gr F1 H1 F6 (aA H6 P o):=λ{F6 H6 o} t A=>by
   refine⟨w.ff.trans t.ff,λb u z=>?_,λb u z1 E=>?_⟩
   .rw[zj (zf z A)];exact t.fh b u z
   .rw[zj (zf E G)]
    exact(w.trans t).kp b u z1 E
  cases cb with
  |false =>
   rw[j5 u7]at d ⊢
   have R:H5=aA H5 P (.lst M):=by
    funext b
    by_cases j:b=P
    .subst j;rw[zn];exact h5
    .rw[zj j]
   refine⟨↥a-(i+1),by omega,rfl,p,F5,done,?_,?_,X,h5,V.mono k.ff,by omega,c,d,f⟩
   .rw[R];exact h k X
   .have:=l (o:=.lst M) k X
    rw[<-R]at this
    exact this
  |true =>
   rw[t5 rfl]at d ⊢
   obtain⟨y,hy,d⟩:=u4.mp d
   obtain⟨rest,Z,rfl⟩:=u8.mp d
   refine re σ4 _ F5 H5 y _ W.fh (N.mono W.ff) hy λF6 H6 v t a6=>?_
   have r:=k.trans t
   obtain⟨A,h6⟩:=r.kl (λ_ e=>by cases e) I K
   refine⟨h6,↥a-(i+1),by omega,rfl,p,F6,done++[y],h r A,l r A,A,zn,(V.mono r.ff).snoc a6,by rw[j9];simp;omega,rest,Z,by rw[<-f,qM];rfl⟩
 .have e:i=↥a:=by omega
  subst e
  rw[Bx]at d
  cases d
  rw[p7]at f
  subst f
  exact .inl ⟨S rfl,q F2 H2 P M (C.trans w) a0 I K V⟩
def dF:RB 1 (Zi 0) b1:=by
 intro σ ρ F H d v own Q s b c e q
 cases e
 refine q _ λi a h=>?_
 cases i with
 |zero=>cases h;exact⟨v,rfl,c⟩
 |succ i=>exact b i a h
def Jx:RB 2 (ue K 2 (jQ (Zi 0) (jQ (Zi 1) tU))) b2:=by
 intro σ ρ F H d v own Q s c j e q
 unfold b2 at e
 split at e <;> cases e
 obtain⟨p,l,rfl,g,a⟩:=j.tup_inv
 obtain⟨x,r,rfl,k,a⟩:=a.cons_inv
 obtain⟨y,r,rfl,f,a⟩:=a.cons_inv
 cases a.nil_inv
 refine⟨p,_,rfl,aM.of (s _ _ g),rfl,x,_,rfl,y,_,rfl,rfl,?_⟩
 refine q _ λi b h=>?_
 match i,h with
 |0,h=>cases h;exact⟨x,rfl,k⟩
 |1,h=>cases h;exact⟨y,rfl,f⟩
 |i+2,h=>exact c i b h
def rH (f:zW):TE:=fun σ H Q=>∃ ρ F d,zZ F H/\cI F ρ σ/\f ρ≈d/\∀ F' H' v,Gr F H F' H'->At F' d v->Q v H'
def J8 (f:vL):TT:=fun σ H Q=>∃ ρ F d,zZ F H/\cI F ρ σ/\f ρ≈d/\∀ F' H',Gr F H F' H'->Q d H'
def ED.can {f:zW}(h:ED X e f):PE X e (rH f):=by
 obtain⟨t,p,r⟩:=h
 rintro a s σ H Q I ⟨ρ,F,d,i,g,c,b⟩
 exact p a s σ H Q I (r σ ρ F H d Q i g c b)
def TD.can {f:vL}(h:TD X e f):PT X e (J8 f):=by
 obtain⟨t,p,r⟩:=h
 rintro a s σ H Q I ⟨ρ,F,d,i,g,c,b⟩
 exact p a s σ H Q I (r σ ρ F H d Q i g c b)
def Ab {f:zW}:RE (rH f) f:=λ_ ρ F _ d _ b a e c=>⟨ρ,F,d,b,a,e,c⟩
def M6 {f:vL}:RT (J8 f) f:=λ_ ρ F _ d _ b a e c=>⟨ρ,F,d,b,a,e,c⟩
def Yt {X:Cx}{L:zF}{f:Pos}{k:yL}{g:TG}(s:X.calm=true)(S:x5 X L M a h)(n:ID X i c k)(e:∀ (σ:St) (v:V) (H:Hp) (Q:wS),g v (Q0a ↥L none++σ) H Q->g v (Q0a ↥L none++σ) H (λm H2=>ZI (Q0a ↥L none++σ) m/\Q m H2))(j:RB ↥L g b)(t:∀ s₀ H₀ ex pn,PG (WK X L M a h s₀ H₀ ex pn) i g)(p:∀ s₀ H₀ ex pn,ED (WK X L M a h s₀ H₀ ex pn) d l)(r:∀ x,Q0m c X.env x=pure x:=by intro _;rfl):FL X (.ListComp d [⟨i,c,[],0⟩] a f) (aL k b yN l):=by
 obtain⟨u,o,q⟩:=n
 exact⟨_,La s S o e t (λ_ _ _ _=>Pj) (λ_ _ _ _=>(p _ _ _ _).can) r,uT q j Mv Ab⟩
def Fx {X:Cx}{L:zF}{f:Zg}{g:TG}(w:X.calm=true)(S:x5 X L M a f)(s:ID X j d m)(h:∀ (σ:St) (v:V) (H:Hp) (Q:wS),g v (Q0a ↥L none++σ) H Q->g v (Q0a ↥L none++σ) H (λo H2=>ZI (Q0a ↥L none++σ) o/\Q o H2))(k:RB ↥L g b)(y:∀ s₀ H₀ ex pn,PG (WK X L M a f s₀ H₀ ex pn) j g)(q:∀ s₀ H₀ ex pn,TD (WK X L M a f s₀ H₀ ex pn) c l)(t:∀ s₀ H₀ ex pn,ED (WK X L M a f s₀ H₀ ex pn) e n)(u:∀ x,Q0m d X.env x=pure x:=by intro _;rfl):FL X (.ListComp e [⟨j,d,[c],0⟩] a i) (aL m b l n):=by
 obtain⟨z,p,r⟩:=s
 exact⟨_,La w S p h y (λ_ _ _ _=>Ou (q _ _ _ _).can) (λ_ _ _ _=>(t _ _ _ _).can) u,uT r k M6 Ab⟩
def zq9 {t:TE}{f:yL}(r:RF t f):RE t (xm f):=by
 intro σ ρ F H d Q s c e q
 obtain⟨i,l,rfl⟩:=u8.mp e
 refine r σ ρ F H i Q s c l λF' H' p m g h0 a k j=>?_
 have h:=g.show h0 a k
 exact q _ _ _ h (At.lst zn (j.mono (λb u e=>by rw[zj (zf e a)];exact e)))
def Tc (X:Cx)(i:Nat)(a:Stmt)(f:yL):Prop:=∃ t,PS X a (lF t (Zi i))/\RF t f
def O8 {f:yL}(c:Tc X i b f):SD X b (xn m i (xm f)):=by
 obtain⟨t,p,r⟩:=c
 refine⟨_,p,λFb Hb F H ρ σ E a k=>?_⟩
 unfold xn at k
 cases h:bF m (xm f) ρ with
 |none=>rw[h]at k;exact k.elim
 |some d =>
  rw[h]at k
  exact(zq9 r).at a h λF' H' v g e=>k F' H' _ ((a.grow g).set e)
def NT {i:Nat}{d:Pos}{X:Cx}{L:zF}{f:Pos}{g:TG}(y:X.N.Nodup)(n:X.N[i]?≈x)(u:eF X.env.scope x)(w:X.calm=true)(S:x5 X L M a l)(s:ID X h c p)(k:∀ (σ:St) (v:V) (H:Hp) (Q:wS),g v (Q0a ↥L none++σ) H Q->g v (Q0a ↥L none++σ) H (λr H2=>ZI (Q0a ↥L none++σ) r/\Q r H2))(m:RB ↥L g b)(z:∀ s₀ H₀ ex pn,PG (WK X L M a l s₀ H₀ ex pn) h g)(t:∀ s₀ H₀ ex pn,ED (WK X L M a l s₀ H₀ ex pn) e o)(C:∀ x,Q0m c X.env x=pure x:=by intro _;rfl)(j:Q0q (.ListComp e [⟨h,c,[],0⟩] a f) (some (.Name x q)) d.line X.env=pure true:=by rfl)(E:X.fn x=true\/X.env.scope.names.lookup x≈.local:=by first|exact .inl rfl|exact .inr rfl|assumption):Tc X i (.Assign [.Name x q] (.ListComp e [⟨h,c,[],0⟩] a f) d) (aL p b yN o):=by
 obtain⟨F,A,B⟩:=s
 exact⟨_,UG y n u w S A k z (λ_ _ _ _=>Pj) (λ_ _ _ _=>(t _ _ _ _).can) C j E,uT B m Mv Ab⟩
noncomputable def aK (n:Nat)(g:zM)(a:zl):Option D:=match g (a.map .v++Q0a (n-↥a) .no) with
 |.rt d=>some d
 |.nx _=>some .non
 |_=>none
def cH (m:Nat)(p:x9):Sp:=λb H Q _=>∃ a d F,↥a=m/\zZ F H/\ao F a b/\p a≈d/\∀ F' H' v,Gr F H F' H'->At F' d v->Q v H'
def WQ {N:zF}{b:zl}{k:zD}(s:zZ F H)(a:ao F b k):Rl F H F H (b.map .v++Q0a (↥N-↥b) .no) (L2.start N k):=by
 have l:=↥a
 have c:∀ (i:Nat) (t:Sl),(b.map Sl.v++Q0a (↥N-↥b) Sl.no)[i]?≈t->t.isO=true->False:=λi t h f=>by
  by_cases g:i<↥b
  .rw[l0 (by simpa using g),q4]at h
   cases e:b[i]? with
   |none=>rw[e]at h;cases h
   |some d=>rw[e]at h;cases h;cases f
  .rw[p6 (by simpa using g),p8]at h
   split at h <;> cases h
   cases f
 refine⟨.refl s,λi d h=>?_,λi t h f=>(c i t h f).elim,λi j p t u h _ f=>(c i t h f).elim,?_,λi w h q e=>(c i _ e rfl).elim⟩
 .by_cases g:i<↥b
  .rw[l0 (by simpa using g),q4]at h
   cases e:b[i]? with
   |none=>rw[e]at h;cases h
   |some o =>
    rw[e]at h
    cases h
    obtain⟨x,m,n⟩:=a.get e
    refine⟨x,?_,n⟩
    unfold L2.start
    rw[l0 (by simpa [l]using g),q4,m]
    rfl
  .rw[p6 (by simpa using g),p8]at h
   split at h <;> cases h
 .unfold L2.start
  simp[l]
def Zh {w:Q0k}{f:Addr}{N ps:zF}{k:Nat}{g:zM}(Fu:cg K x b j f o)(S:yZ N ps (zo j))(B:∀ (c:Q0e) (A:zP) (outer:List Env) (s:zm) (H:Hp) (E:XK),xH k (A.deeper (Q0p b (zo j) ⇑s f c))->bK (ZR aV P w K u i N b (zo j) f c A outer s H E).nox (ym j) g) :
 wt P w K u i aV (k+1) f o ps (cH ↥ps (aK ↥N g)):=by
 refine Fu.ok S (λz H Q E h=>?_) λc A outer s H z Q E D h=>?_
 .obtain⟨m,d,F,n,_,a,_⟩:=h
  rw[↥a];exact n
 .obtain⟨m,d,F,n,C,a,e,q⟩:=h
  obtain⟨t,p,r⟩:=B c A outer s H E D
  refine⟨t,p,r F H F H _ _ _ (WQ C a) ?_⟩
  unfold aK at e
  cases l:g (m.map .v++Q0a (↥N-↥m) .no) with
  |rt I=>rw[l]at e;cases e;exact λF' H' v g G=>q F' H' v g G
  |nx ρ=>rw[l]at e;cases e;exact λF' H' σ y=>q F' H' _ y.gr .non
  |bk ρ=>rw[l]at e;cases e
  |ct ρ=>rw[l]at e;cases e
  |no=>rw[l]at e;cases e
def xZ {w:Q0k}{g:wA}{f:Addr}{k:Nat}{p q:x9}(F:wt P w K g a aV k f c i (cH m p))(h:∀ b d,↥b=m->q b≈d->p b≈d):wt P w K g a aV k f c i (cH m q) :=
 F.imp λr H Q E ⟨b,d,F',e,n,l,j,o⟩=>⟨b,d,F',e,n,l,h b d e j,o⟩
def zi (m:Nat)(p:x9)(f:yL):zW:=fun ρ=>(f ρ).bind λds=>if ↥ds=m then p ds else none
def znz {X:Cx} {k:Nat} {f:Addr} (F:wt X.prog X.w X.K X.mg X.base aV k f l n (cH m p)) (M:xH k X.A) (E:Gl X x) (B:X.mg x≈(.ref f)) (G:Q0H X.K (.ref f)=true) (I:vf X.K l n []) (L:AD X (e::b) o) (h:(x == ("__debug__":Str))=false:=by decide) (A:Q0c (e::b) X.env=(false,eval e X.env)::Q0c b X.env:=by rfl) (i:(Q0v a (Q0c b X.env)).any (·.1)=false:=by rfl) :
 ED X (.Call (.Name x J) (e::b) [] a) (zi m p o):=by
 obtain⟨t,z,r⟩:=L
 refine⟨_,Ny F M E B G I .nil pI z h A i,fun σ ρ F0 H d Q s w e q=>?_⟩
 obtain⟨j,C,c⟩:=u4.mp e
 split at c <;> try cases c
 rename_i y
 refine r σ ρ F0 H j _ s w C λF1 H1 O u K=>?_
 refine⟨j,d,F1,y,u.fh,by rw[p7];exact K,c,λF' H' v g N=>q F' H' v (u.trans g) N⟩
end Dl
namespace Dl
open PySem L2
variable [KK]
section
variable {X:Cx}{a b c e:Expr}{pos:Pos}
def zN:Q0j "isinstance"≈(.builtin "isinstance"):=by decide +kernel
def XZ:Q0j "len"≈(.builtin "len"):=by decide +kernel
def zqK:Q0j "min"≈(.builtin "min"):=by decide +kernel
def MN:Q0j "max"≈(.builtin "max"):=by decide +kernel
def QX:Q0j "sorted"≈(.builtin "sorted"):=by decide +kernel
def Mh:Q0j "sum"≈(.builtin "sum"):=by decide +kernel
def Mt:Q0j "all"≈(.builtin "all"):=by decide +kernel
def zqw:Q0j "any"≈(.builtin "any"):=by decide +kernel
def Ga:Q0j "int"≈(.type "int"):=by decide +kernel
def N8:Q0j "bool"≈(.type "bool"):=by decide +kernel
def PX:Q0j "tuple"≈(.type "tuple"):=by decide +kernel
def Gi:Q0j "list"≈(.type "list"):=by decide +kernel
def yb:Q0j "str"≈(.type "str"):=by decide +kernel
def YK:Q0j "enumerate"≈(.type "enumerate"):=by decide +kernel
def zpk:Q0j "zip"≈(.type "zip"):=by decide +kernel
def fB (C:Int->Int->Bool)(g:Int->Int->Int):xD
 |.int i,.int j=>if C i j then some (.int (g i j))else none
 |_,_=>none
def mq (g:Int->Int->Int):xD
 |.int i,.int j=>some (.int (g i j))
 |_,_=>none
def jK (g:Int->Int->Bool):xD
 |.int i,.int j=>some (.bl (g i j))
 |_,_=>none
def WE {C:Int->Int->Prop}{Cb:Int->Int->Bool}{g:Int->Int->Int}(h:∀ i j,Cb i j=true->C i j):bx (rI C λi j=>.int (g i j)) (fB Cb g):=by
 intro F H x y d e z Q s f b a q
 cases d <;> try cases a
 cases e <;> try cases a
 unfold fB at a
 dsimp only at a
 split at a <;> cases a
 rename_i c
 exact⟨_,_,f.int_inv,b.int_inv,h _ _ c,q F H _ (.refl s) .int⟩
def QZ {g:Int->Int->Int}:bx (gH λi j=>.int (g i j)) (mq g):=by
 intro F H x y d e z Q s c b a q
 cases d <;> try cases a
 cases e <;> try cases a
 exact⟨_,_,c.int_inv,b.int_inv,q F H _ (.refl s) .int⟩
def yG {g:Int->Int->Bool}:bx (gH λi j=>.bl (g i j)) (jK g):=by
 intro F H x y d e z Q s c b a q
 cases d <;> try cases a
 cases e <;> try cases a
 exact⟨_,_,c.int_inv,b.int_inv,q F H _ (.refl s) .bl⟩
def pO {r i:R2}{g j:xD}(h:bx r g)(k:bx i j):bx (λx y H Q=>r x y H Q\/i x y H Q) (λd e=>(g d e).or (j d e)):=by
 intro F H x y d e z Q s f c a q
 dsimp only at a
 cases b:g d e with
 |some l=>rw[b]at a;cases a;exact .inl (h F H x y d e z Q s f c b q)
 |none=>rw[b]at a;exact .inr (k F H x y d e z Q s f c a q)
def oh:xD
 |.tup a,.tup b=>if aU (↥a+↥b) then some (.tup (a++b))else none
 |_,_=>none
def oY:D->D->Option zl
 |.lst a,.lst b=>if aU (↥a+↥b) then some (a++b)else none
 |_,_=>none
def pA (d e:D):Option D:=(oY d e).map .lst
def oO:xD
 |.str a,.str b=>if aU (↥a+↥b) then some (.str (a++b))else none
 |_,_=>none
def zkP:bx (Lg K) oh:=by
 intro F H x y d e z Q s o l a q
 cases d <;> try cases a
 cases e <;> try cases a
 unfold oh at a
 dsimp only at a
 split at a <;> cases a
 rename_i m
 obtain⟨p,f,rfl,h,b⟩:=o.tup_inv
 obtain⟨j,c,rfl,i,bl⟩:=l.tup_inv
 refine⟨p,j,f,c,rfl,rfl,aM.of (s _ _ h),aM.of (s _ _ i),by rw[↥b,↥bl];exact j8 m,λt=>?_,λ_ k=>?_,λ_ _ r n=>?_⟩
 .subst t
  have:(_:zl)=[]:=nq.mp b.length.symm
  subst this
  exact q F H _ (.refl s) (.tup i bl)
 .subst k
  have:(_:zl)=[]:=nq.mp bl.length.symm
  subst this
  rw[p7]at q
  exact q F H _ (.refl s) (.tup h b)
 .have g:=Gr.alloc s n (.tup (f++c))
  exact q _ _ _ g (.tup zn ((b.append bl).mono g.ff))
def zlf:bx Eh pA:=by
 intro F H x y d e z Q s n i a q
 cases d <;> try cases a
 cases e <;> try cases a
 unfold pA oY at a
 dsimp only at a
 split at a <;> cases a
 rename_i j
 obtain⟨p,f,rfl,k,c⟩:=n.lst_inv
 obtain⟨h,b,rfl,l,bl⟩:=i.lst_inv
 refine⟨p,h,f,b,rfl,rfl,s _ _ k,s _ _ l,by rw[↥c,↥bl];exact j8 j,λr m=>?_⟩
 have g:=Gr.alloc s m (.lst (f++b))
 exact q _ _ _ g (.lst zn ((c.append bl).mono g.ff))
def zlj:bx (λx y H Q=>∃ i j,x=.str i/\y=.str j/\↥i+↥j<=sizeLine/\Q (.str (i++j)) H) oO:=by
 intro F H x y d e z Q s f b a q
 cases d <;> try cases a
 cases e <;> try cases a
 unfold oO at a
 dsimp only at a
 split at a <;> cases a
 rename_i c
 exact⟨_,_,f.str_inv,b.str_inv,j8 c,q F H _ (.refl s) .str⟩
def yh:xD
 |.int i,.int j=>some (.int (i+j))
 |.tup a,.tup b=>if aU (↥a+↥b) then some (.tup (a++b))else none
 |.lst a,.lst b=>if aU (↥a+↥b) then some (.lst (a++b))else none
 |.str a,.str b=>if aU (↥a+↥b) then some (.str (a++b))else none
 |_,_=>none
def G9 {g a:xD}(h:bx r g)(k:∀ d e z,a d e≈z->g d e≈z):bx r a:=λF H x y d e z Q s f c b q=>h F H x y d e z Q s f c (k d e z b) q
def yr {f:zW}(k:ED X a f)(l:ED X b h):ED X (.BinOp a .Add b pos) (zg yh f h) :=
 VT (((zq2.or zlH).or Ak).or zfM) (G9 (pO (pO (pO (QZ (g:=λi j=>i+j)) zkP) zlf) zlj) λd e z h=>by
  cases d <;> try cases h
  all_goals cases e <;> try cases h
  .rfl
  .unfold yh at h;dsimp only at h;split at h <;> cases h;rename_i c;simp[mq,oh,c,pA,oY,oO]
  .unfold yh at h;dsimp only at h;split at h <;> cases h;rename_i c;simp[mq,oh,c,pA,oY,oO]
  .unfold yh at h;dsimp only at h;split at h <;> cases h;rename_i c;simp[mq,oh,c,pA,oY,oO]) k l
def sU (g:D->D->Option zl)(f h:zW):yL:=fun ρ=>(f ρ).bind λx=>(h ρ).bind λy=>g x y
def iz {H H1:Hp}(b:Gr F H F1 H1)(a:H1 p=none):H p=none:=by
 cases e:H p with
 |none=>rfl
 |some o =>
  cases c:F p with
  |none=>rw[(b.kp p o c e).2]at a;cases a
  |some u=>rw[b.fh _ _ (b.ff _ _ c)]at a;cases a
def XG (i j:Int):Bool:=decide ((-(2^64)<i/\i<2^64)\/(-(2^64)<j/\j<2^64))
def jf:D->D->Option zl
 |.lst a,.int k=>if -(2^63)<=k/\k<2^63/\aU (↥a*k.toNat) then some (Q0a k.toNat a).flatten else none
 |_,_=>none
def uP (d e:D):Option D:=(jf d e).map .lst
def V1:xD
 |.int i,.int j=>if XG i j then some (.int (i*j))else none
 |.lst a,.int k=>if -(2^63)<=k/\k<2^63/\aU (↥a*k.toNat) then some (.lst (Q0a k.toNat a).flatten)else none
 |_,_=>none
def zkD:bx rQ uP:=by
 intro F H x y d e z Q s l h a q
 cases d <;> try cases a
 cases e <;> try cases a
 unfold uP jf at a
 dsimp only at a
 split at a <;> cases a
 rename_i b
 obtain⟨p,f,rfl,i,c⟩:=l.lst_inv
 refine⟨p,_,f,rfl,h.int_inv,s _ _ i,b.1,b.2.1,by rw[↥c];exact j8 b.2.2,λr j=>?_⟩
 rename_i m k
 have g:=Gr.alloc s j (.lst (Q0a k.toNat f).flatten)
 exact q _ _ _ g (.lst zn ((c.rep _).mono g.ff))
def Mx {f:zW}(k:ED X a f)(m:ED X b h):ED X (.BinOp a .Mult b pos) (zg V1 f h) :=
 VT (zpy.or Lq) (G9 (pO (WE (Cb:=XG) (g:=λi j=>i*j) λi j h=>by have l:=j8 (show decide ((-(2^64)<i/\i<2^64)\/(-(2^64)<j/\j<2^64))=true from h);exact l) zkD) λd e z h=>by
  cases d <;> try cases h
  all_goals cases e <;> try cases h
  .unfold V1 at h;dsimp only at h;split at h <;> cases h;rename_i c;simp[fB,c]
  .unfold V1 at h;dsimp only at h;split at h <;> cases h;rename_i c;show(uP _ _)=_;unfold uP jf;dsimp only;rw[t5 c];rfl) k m
def zp4 {f:zW}(E:ED X a f)(A:ED X b h):FL X (.BinOp a .Mult b pos) (sU jf f h):=by
 obtain⟨L,G,o⟩:=E
 obtain⟨M,w,J⟩:=A
 refine⟨_,pF Lq G w,fun σ ρ F H z Q s k e q=>?_⟩
 obtain⟨x,K,l⟩:=u4.mp e
 obtain⟨y,n,d⟩:=u4.mp l
 clear e l
 refine o σ ρ F H x _ s k K λF1 H1 v g C=>?_
 refine J σ ρ F1 H1 y _ g.fh (k.mono g.ff) n λF2 H2 u c t=>?_
 cases x <;> try cases d
 cases y <;> try cases d
 unfold jf at d
 dsimp only at d
 split at d <;> cases d
 rename_i i
 obtain⟨p,B,rfl,I,m⟩:=(C.mono c.ff).lst_inv
 refine⟨p,_,B,rfl,t.int_inv,c.fh _ _ I,i.1,i.2.1,by rw[↥m];exact j8 i.2.2,λr j=>?_⟩
 exact q _ _ _ _ ((g.trans c).trans (Gr.hide c.fh j _)) (iz (g.trans c) j) (c.fh.free j) zn (m.rep _)
def jc:=mq λi j=>i-j
def vO:=fB (λ_ j=>decide (0<j/\j<1606938044258990275541962092341162602522202993782792835301376)) λi j=>i/j
def vt:=fB (λ_ j=>decide (0<j)) λi j=>i%j
def lC:=fB (λ_ j=>decide (0<=j)) λi j=>i/2^j.toNat
def zpn {f:zW}(c:ED X a f)(d:ED X b h):ED X (.BinOp a .Sub b pos) (zg jc f h):=VT U4 QZ c d
def zlv:aQ X (Q0O .FloorDiv) (rI (λ_ j=>0<j/\j<1606938044258990275541962092341162602522202993782792835301376) λi j=>.int (i/j)):=Di λi j _ _ _ _ _ a q=>by
 have d:(0:Int)<j:=a.1
 have c:j<1606938044258990275541962092341162602522202993782792835301376:=a.2
 refine PyProof.Rows.floordiv_int ∅ (by rw[R7 i ∅];exact q) (.inl (PyProof.noPylong_of_log2 ?_))
 have h0:j.natAbs≠0:=by omega
 have b:j.natAbs<1606938044258990275541962092341162602522202993782792835301376:=by omega
 have e:j.natAbs.log2<200:=(Nat.log2_lt h0).mpr b
 omega
def Bf {f:zW}(c:ED X a f)(e:ED X b h):ED X (.BinOp a .FloorDiv b pos) (zg vO f h):=VT zlv (WE λ_ _ h=>by have d:=j8 h;exact d) c e
def pX {f:zW}(c:ED X a f)(e:ED X b h):ED X (.BinOp a .Mod b pos) (zg vt f h):=VT Ut (WE λ_ _ h=>by have d:=j8 h;exact d) c e
def zqG {f:zW}(c:ED X a f)(e:ED X b h):ED X (.BinOp a .RShift b pos) (zg lC f h):=VT zqL (WE λ_ _ h=>by have d:=j8 h;exact d) c e
def nO:=jK λi j=>decide (i<j)
def jB:=jK λi j=>decide (i<=j)
def dH:=jK λi j=>decide (j<i)
def eE:=jK λi j=>decide (j<=i)
def JR:D->D->Option Bool
 |.non,.non=>some true
 |.int i,.int j=>some (decide (i=j))
 |.bl i,.bl j=>some (decide (i=j))
 |.str i,.str j=>some (decide (i=j))
 |.non,.int _=>some false|.int _,.non=>some false|.non,.bl _=>some false|.bl _,.non=>some false|.non,.str _=>some false|.str _,.non=>some false
 |.int _,.str _=>some false|.str _,.int _=>some false|.bl _,.str _=>some false|.str _,.bl _=>some false
 |_,_=>none
def Dm (d e:D):Option D:=(JR d e).map .bl
def bW (d e:D):Option D:=(JR d e).map λc=>.bl (!c)
def Ma:bx Dh Dm:=by
 intro F H x y d e z Q s a b g q
 obtain⟨c,f,rfl⟩:=u8.mp g
 cases d <;> cases e <;> try cases f
 .cases a.non_inv;cases b.non_inv;exact⟨rfl,q F H _ (.refl s) .bl⟩
 .cases a.non_inv;cases b.bl_inv;exact⟨rfl,q F H _ (.refl s) .bl⟩
 .cases a.non_inv;cases b.int_inv;exact⟨rfl,q F H _ (.refl s) .bl⟩
 .cases a.non_inv;cases b.str_inv;exact⟨rfl,q F H _ (.refl s) .bl⟩
 .cases a.bl_inv;cases b.non_inv;exact⟨rfl,q F H _ (.refl s) .bl⟩
 .cases a.bl_inv;cases b.bl_inv;refine⟨rfl,?_⟩;rw[show ∀ i j:Bool,decide (V.bl i=V.bl j)=decide (i=j)from λi j=>by simp];exact q F H _ (.refl s) .bl
 .cases a.bl_inv;cases b.str_inv;exact⟨rfl,q F H _ (.refl s) .bl⟩
 .cases a.int_inv;cases b.non_inv;exact⟨rfl,q F H _ (.refl s) .bl⟩
 .cases a.int_inv;cases b.int_inv;refine⟨rfl,?_⟩;rw[show ∀ i j:Int,decide (V.int i=V.int j)=decide (i=j)from λi j=>by simp];exact q F H _ (.refl s) .bl
 .cases a.int_inv;cases b.str_inv;exact⟨rfl,q F H _ (.refl s) .bl⟩
 .cases a.str_inv;cases b.non_inv;exact⟨rfl,q F H _ (.refl s) .bl⟩
 .cases a.str_inv;cases b.bl_inv;exact⟨rfl,q F H _ (.refl s) .bl⟩
 .cases a.str_inv;cases b.int_inv;exact⟨rfl,q F H _ (.refl s) .bl⟩
 .cases a.str_inv;cases b.str_inv;refine⟨rfl,?_⟩;rw[show ∀ i j:Str,decide (V.str i=V.str j)=decide (i=j)from λi j=>by simp];exact q F H _ (.refl s) .bl
def Zr:bx JC bW:=by
 intro F H x y d e z Q s k a m q
 obtain⟨c,l,rfl⟩:=u8.mp m
 have:=Ma F H x y d e (.bl c) (λv H'=>∃ b,v=.bl b/\Q (.bl (!b)) H') s k a (by unfold Dm;rw[l];rfl) λF' H' v g i=>⟨c,i.bl_inv,q F' H' _ g .bl⟩
 obtain⟨j,b,h,f⟩:=this
 cases h
 exact⟨j,f⟩
def gP:xD
 |d,.non=>some (.bl (match d with|.non=>true|_=>false))
 |.bl a,.bl b=>some (.bl (a == b))
 |_,_=>none
def VP:xD
 |d,.non=>some (.bl (match d with|.non=>false|_=>true))
 |.bl a,.bl b=>some (.bl (!(a == b)))
 |_,_=>none
def Nv (h:At F d x):decide (x=V.non)=(match d with|.non=>true|_=>false):=by
 cases d with
 |non=>cases h.non_inv;rfl
 |bl b=>cases h.bl_inv;rfl
 |int b=>cases h.int_inv;rfl
 |str b=>cases h.str_inv;rfl
 |tup e=>obtain⟨a,c,rfl,_⟩:=h.tup_inv;rfl
 |lst e=>obtain⟨a,c,rfl,_⟩:=h.lst_inv;rfl
 |scr e=>obtain⟨a,rfl,_⟩:=h.scr_inv;rfl
 |dct z t j f=>obtain⟨a,c,rfl,_⟩:=h.dct_inv;rfl
 |obj w d g=>obtain⟨p,k,q,i,l,c,rfl,_⟩:=h.obj_inv;rfl
def Bm:bx (λx y H Q=>(y=.non/\Q (.bl (decide (x=.non))) H)\/∃ i j,x=.bl i/\y=.bl j/\Q (.bl (i == j)) H) gP:=by
 intro F H x y d e z Q s c b a q
 unfold gP at a
 split at a
 .cases a
  refine .inl ⟨b.non_inv,?_⟩
  rw[Nv c]
  have:=q F H _ (.refl s) .bl
  cases d <;> exact this
 .cases a
  exact .inr ⟨_,_,c.bl_inv,b.bl_inv,q F H _ (.refl s) .bl⟩
 .cases a
def RJ:bx (λx y H Q=>(y=.non/\Q (.bl (!decide (x=.non))) H)\/∃ i j,x=.bl i/\y=.bl j/\Q (.bl (!(i == j))) H) VP:=by
 intro F H x y d e z Q s c b a q
 unfold VP at a
 split at a
 .cases a
  refine .inl ⟨b.non_inv,?_⟩
  rw[Nv c]
  have:=q F H _ (.refl s) .bl
  cases d <;> exact this
 .cases a
  exact .inr ⟨_,_,c.bl_inv,b.bl_inv,q F H _ (.refl s) .bl⟩
 .cases a
def uZ:aQ X (Q0l .Is) (λx y H Q=>(y=.non/\Q (.bl (decide (x=.non))) H)\/∃ i j,x=.bl i/\y=.bl j/\Q (.bl (i == j)) H):=zrS.or zkp
def Q6:aQ X (Q0l .IsNot) (λx y H Q=>(y=.non/\Q (.bl (!decide (x=.non))) H)\/∃ i j,x=.bl i/\y=.bl j/\Q (.bl (!(i == j))) H):=znN.or zdZ
def pY (g a:xD)(f h k:zW):zW:=fun ρ=>(f ρ).bind λx=>(h ρ).bind λy=>((g x y).bind bf).bind λc=>if c then (k ρ).bind λz=>a y z else some (.bl false)
def QD {g:xD}{f k:zW}(X:bx r g)(j:bx A C)(K:RE o f)(S:RE E h)(L:RE p k):RE (pR r A o E p) (pY g C f h k):=by
 intro σ ρ F H z Q s b e q
 obtain⟨x,W,e⟩:=u4.mp e
 obtain⟨y,I,e⟩:=u4.mp e
 obtain⟨c,l,e⟩:=u4.mp e
 obtain⟨Y,l,M⟩:=u4.mp l
 cases WJ M
 refine K σ ρ F H x _ s b W λF1 H1 v n R=>?_
 refine S σ ρ F1 H1 y _ n.fh (b.mono n.ff) I λF2 H2 u d t=>?_
 refine X F2 H2 v u x y _ _ d.fh (R.mono d.ff) t l λF3 H3 w i U=>⟨c,U.bl_inv,?_⟩
 have a:=(n.trans d).trans i
 cases c with
 |true =>
  rw[t5 rfl]at e ⊢
  obtain⟨B,V,O⟩:=u4.mp e
  refine L σ ρ F3 H3 B _ i.fh (b.mono a.ff) V λF4 H4 P m N=>?_
  exact j F4 H4 u P y B z Q m.fh (t.mono (i.ff.trans m.ff)) N O λF5 H5 J G T=>q F5 H5 J ((a.trans m).trans G) T
 |false =>
  rw[j5 u7]at e ⊢
  cases e
  exact q F3 H3 _ a .bl
def zlp {g:xD}{f k:zW}(w:aQ X (Q0l i) r)(t:aQ X (Q0l d) l)(v:bx r g)(e:bx l p)(q:ED X a f)(u:ED X b h)(s:ED X c k)(j:∀ {m o n:TE},PE X a m->PE X b o->PE X c n->PE X (.Compare a [i,d] [b,c] pos) (pR r l m o n)):ED X (.Compare a [i,d] [b,c] pos) (pY g p f h k) :=
 let ⟨_,pa,ra⟩:=q
 let ⟨_,pb,rb⟩:=u
 let ⟨_,pc,rc⟩:=s
 ⟨_,j pa pb pc,QD v e ra rb rc⟩
def zk6 {g:xD}{f k:zW}(w:aQ X (Q0l i) r)(t:aQ X (Q0l d) l)(v:bx r g)(e:bx l p)(q:ED X a f)(u:ED X b h)(s:ED X c k)(j:∀ {m o n:TE},PE X a m->PE X b o->PE X c n->PT X (.Compare a [i,d] [b,c] pos) (lR (pR r l m o n))):TD X (.Compare a [i,d] [b,c] pos) (aq (pY g p f h k)) :=
 let ⟨_,pa,ra⟩:=q
 let ⟨_,pb,rb⟩:=u
 let ⟨_,pc,rc⟩:=s
 ⟨_,j pa pb pc,uA (QD v e ra rb rc)⟩
def Ah:zl->Option zr
 |[]=>some []
 |.int b::ds=>(Ah ds).map (b::·)
 |_=>none
omit [KK] in
def VR:∀ {b:zl} {a:zr},Ah b≈a->b=a.map .int
 |[],a,h=>by cases h;rfl
 |d::b,a,h=>by
  cases d <;> try cases h
  obtain⟨e,c,rfl⟩:=u8.mp h
  rw[VR c]
  rfl
def JG:xD
 |.tup a,.tup b=>(Ah a).bind λns=>(Ah b).map λc=>.bl (HT.lexLe ns c)
 |_,_=>none
def zor:bx (rR K) JG:=by
 intro F H x y d e z Q s c b a q
 cases d <;> try cases a
 cases e <;> try cases a
 obtain⟨ns,m,g⟩:=u4.mp a
 obtain⟨i,h,rfl⟩:=u8.mp g
 rw[VR m]at c
 rw[VR h]at b
 obtain⟨p,o,rfl,j,l⟩:=c.tup_inv
 obtain⟨f,n,rfl,k,bl⟩:=b.tup_inv
 cases l.of_ints
 cases bl.of_ints
 exact⟨p,f,ns,i,rfl,rfl,aM.of (s _ _ j),aM.of (s _ _ k),q F H _ (.refl s) .bl⟩
def aB:xD
 |.lst ds,.int i=>atI ds i
 |.tup ds,.int i=>atI ds i
 |.scr ns,.int i=>(atI ns i).map .int
 |_,_=>none
def ao.atI {b:zl}{c:zD}(a:ao F b c)(h:L2.atI b i≈d):∃ x,L2.atI c i≈x/\At F d x:=by
 unfold L2.atI at h ⊢
 obtain⟨j,k,f⟩:=u4.mp h
 obtain⟨x,e,g⟩:=a.get f
 exact⟨x,by rw[↥a,k];exact e,g⟩
def zq5:bx (Sx KK.K) aB:=by
 intro F H x y d e z Q s g o c q
 cases e <;> try (cases d <;> cases c)
 cases o.int_inv
 cases d with
 |lst m =>
  obtain⟨p,i,rfl,b,h⟩:=g.lst_inv
  obtain⟨v,a,f⟩:=h.atI c
  exact .inl ⟨p,i,_,v,rfl,rfl,aN.of (s _ _ b),a,q F H _ (.refl s) f⟩
 |tup m =>
  obtain⟨p,i,rfl,b,h⟩:=g.tup_inv
  obtain⟨v,a,f⟩:=h.atI c
  exact .inr (.inl ⟨p,i,_,v,rfl,rfl,aM.of (s _ _ b),a,q F H _ (.refl s) f⟩)
 |scr ns =>
  obtain⟨p,rfl,b⟩:=g.scr_inv
  obtain⟨n,a,rfl⟩:=u8.mp c
  refine .inl ⟨p,ns.map V.int,_,.int n,rfl,rfl,s.seq b,?_,q F H _ (.refl s) .int⟩
  unfold L2.atI at a ⊢
  rw[u5]
  obtain⟨j,k,l⟩:=u4.mp a
  rw[k]
  show(ns.map V.int)[j]?=_
  rw[q4,l]
  rfl
 |_=>cases c
def xl {f:zW}(e:ED X a f)(c:ED X b h)(d:Gp b)(hK:X.K=KK.K:=by rfl):ED X (.Subscript a b pos) (zg aB f h) :=
 let ⟨_,pa,ra⟩:=e
 let ⟨_,pb,rb⟩:=c
 ⟨_,Kd UL pa pb d,pq (by rw[hK];exact zq5) ra rb⟩
def cu {α:Type}(a:List α)(b c:yl):List α:=(a.drop (HT.sIx ↥a 0 b)).take (HT.sIx ↥a ↥a c-HT.sIx ↥a 0 b)
def ao.cut {a:zl}{b:zD}(c:ao F a b):ao F (cu a lo hi) (du b lo hi):=by
 unfold cu du
 rw[↥c]
 exact(c.drop _).take _
def OD (X:Cx)(e:Option Expr)(f:Ev->Option yl):Prop:=∃ t,PO X e t/\∀ (σ:St) (ρ:Ev) (F H:Hp) (i:yl) (Q:yl->Hp->Prop),zZ F H->cI F ρ σ->f ρ≈i->(∀ F' H',Gr F H F' H'->Q i H')->t σ H Q
def VU:Ev->Option yl:=λ_=>some none
def asI:D->yl
 |.int i=>some i
 |_=>none
def XM (f:zW):Ev->Option yl:=fun ρ=>((f ρ).bind asI).map some
def GJ:OD X none VU:=⟨_,zoS,λ_ _ _ _ _ _ s _ e q=>by cases e;exact q _ _ (.refl s)⟩
def Hd {f:zW}(h:ED X e f):OD X (some e) (XM f):=by
 obtain⟨t,p,r⟩:=h
 refine⟨_,zm4 p,fun σ ρ F H i Q s g e q=>?_⟩
 obtain⟨j,a,rfl⟩:=u8.mp e
 obtain⟨d,a,c⟩:=u4.mp a
 cases d <;> cases c
 exact r σ ρ F H _ _ s g a λF1 H1 v k b=>⟨_,b.int_inv,q F1 H1 k⟩
def gf:D->yl->yl->Option D
 |.lst ds,lo,hi=>some (.lst (cu ds lo hi))
 |.scr ns,lo,hi=>some (.lst ((cu ns lo hi).map .int))
 |.tup ds,lo,hi=>some (.tup (cu ds lo hi))
 |_,_,_=>none
def eY (g:D->yl->yl->Option D)(f:zW)(l h:Ev->Option yl):zW:=fun ρ=>(f ρ).bind λd=>(l ρ).bind λb=>(h ρ).bind λa=>g d b a
omit [KK] in
def zle {ns:zr}{a b:yl}:du (ns.map V.int) a b=(cu ns a b).map V.int:=by
 unfold du cu
 rw[u5,List.map_take,List.map_drop]
end
end Dl
namespace L2
open PySem PySem.Spec PyProof.Rows
def Jz:V->yl->yl->Hp->VK->Prop:=λx d c H Q=>∃ a b,x=.ref a/\H a≈(.tup b)/\(du b d c=b->Q (.ref a) H)/\∀ p,H p=none->Q (.ref p) (aA H p (.tup (du b d c)))
def znW:jE X Jz:=by
 intro d s σ H x v p o k g t Q I m j pl f h
 obtain⟨a,b,rfl,l,q,n⟩:=h
 by_cases hw:HT.sIx ↥b 0 k=0/\HT.sIx ↥b ↥b g=↥b
 .cases m
  obtain⟨e,r,i,u⟩:=I.tuple (aM.of l)
  have c:e.toArray.size=↥b:=by rw[j0];exact r.length.symm
  refine⟨"tuple",_,i5.lookup,i.typeIs,?_⟩
  refine HT.own_getItem_whole i j pl f (by rw[c];exact hw) ⟨.ref a,H,I,rfl,q ?_⟩
  unfold du
  rw[hw.1,hw.2,List.drop_zero,Bt,iK]
 .exact zrP d s σ H (.ref a) v p o k g t Q I m j pl f ⟨a,b,rfl,aM.of l,hw,n⟩
end L2
namespace Dl
open PySem L2
variable [KK]
section
variable {X:Cx}{a b c e:Expr}{pos:Pos}
def Hi {f:zW}(L:ED X a f)(J:OD X A l)(T:OD X y h)(hK:X.K=KK.K:=by rfl):ED X (.Subscript a (.Slice A y none C) pos) (eY gf f l h):=by
 obtain⟨U,N,I⟩:=L
 obtain⟨W,x,E⟩:=J
 obtain⟨Y,P,R⟩:=T
 refine⟨_,zjL (znD.or znW) N x P,fun σ ρ F H z Q s w e q=>?_⟩
 obtain⟨d,S,e⟩:=u4.mp e
 obtain⟨i,G,e⟩:=u4.mp e
 obtain⟨j,O,e⟩:=u4.mp e
 refine I σ ρ F H d _ s w S λF1 H1 v u M=>?_
 refine E σ ρ F1 H1 i _ u.fh (w.mono u.ff) G λF2 H2 o=>?_
 refine R σ ρ F2 H2 j _ o.fh (w.mono (u.ff.trans o.ff)) O λF3 H3 c=>?_
 have b:=(u.trans o).trans c
 have B:=M.mono (o.ff.trans c.ff)
 cases d <;> try cases e
 .obtain⟨p,m,rfl,k,t⟩:=B.tup_inv
  refine .inr ⟨p,m,rfl,c.fh _ _ k,λK=>?_,λr n=>?_⟩
  .have:=t.cut (lo:=i) (hi:=j)
   rw[K]at this
   exact q F3 H3 _ b (.tup k this)
  .have g:=Gr.alloc c.fh n (.tup (du m i j))
   exact q _ _ _ (b.trans g) (.tup zn (t.cut.mono g.ff))
 .obtain⟨p,m,rfl,k,t⟩:=B.lst_inv
  refine .inl ⟨p,m,rfl,aN.of (c.fh _ _ k),λr n=>?_⟩
  have g:=Gr.alloc c.fh n (.lst (du m i j))
  exact q _ _ _ (b.trans g) (.lst zn (t.cut.mono g.ff))
 .rename_i ns _ _
  obtain⟨p,rfl,k⟩:=B.scr_inv
  refine .inl ⟨p,_,rfl,(by rw[hK];exact c.fh.seq k),λr n=>?_⟩
  rw[zle]
  have g:=Gr.alloc c.fh n (.lst ((cu ns i j).map V.int))
  exact q _ _ _ (b.trans g) (.lst zn (.ints _))
def dm (r:jT)(g:x9):Prop:=∀ (F H:Hp) (a:zD) (b:zl) (z:D) (Q:VK),zZ F H->ao F b a->g b≈z->(∀ F' H' v,Gr F H F' H'->At F' z v->Q v H')->r a H Q
def aF (g:x9)(f:yL):zW:=fun ρ=>(f ρ).bind g
def gK (g:fj)(f:yL):yL:=fun ρ=>(f ρ).bind g
def yF {x:Str}{id:String}{p:Pos}{a:y0}{r:jT}{g:x9}{f:yL}(A:vq X (.builtin id) r)(G:dm r g)(c:Gl X x)(C:X.mg x=none)(I:Q0j x≈(.builtin id))(o:AD X (e::a) f)
 (w:x≠"__name__":=by decide) (d:(x == ("__debug__":Str))=false:=by decide) (y:Q0c (e::a) X.env=(false,eval e X.env)::Q0c a X.env:=by rfl) (b:(Q0v pos (Q0c a X.env)).any (·.1)=false:=by rfl) :
 ED X (.Call (.Name x p) (e::a) [] pos) (aF g f):=by
 obtain⟨t,u,k⟩:=o
 refine⟨_,yn A c C I u w d y b,fun σ ρ F H z Q s l e q=>?_⟩
 obtain⟨h,E,j⟩:=u4.mp e
 refine k σ ρ F H h _ s l E λF1 H1 m i n=>?_
 exact G F1 H1 m h z Q i.fh n j λF' H' v g B=>q F' H' v (i.trans g) B
def zB {a:y0} {g:x9} {f:yL} (A:vq X (.type T) r) (G:dm r g) (c:Gl X x) (C:X.mg x=none) (I:Q0j x≈(.type T)) (o:AD X (e::a) f) (w:x≠"__name__":=by decide) (d:(x == ("__debug__":Str))=false:=by decide) (y:Q0c (e::a) X.env=(false,eval e X.env)::Q0c a X.env:=by rfl) (b:(Q0v pos (Q0c a X.env)).any (·.1)=false:=by rfl) :
 ED X (.Call (.Name x p) (e::a) [] pos) (aF g f):=by
 obtain⟨t,u,k⟩:=o
 refine⟨_,W4 A c C I u w d y b,fun σ ρ F H z Q s l e q=>?_⟩
 obtain⟨h,E,j⟩:=u4.mp e
 refine k σ ρ F H h _ s l E λF1 H1 m i n=>?_
 exact G F1 H1 m h z Q i.fh n j λF' H' v g B=>q F' H' v (i.trans g) B
def Xr:x9
 |[.lst ds]=>some (.int ↥ds)
 |[.tup ds]=>some (.int ↥ds)
 |[.scr ds]=>some (.int ↥ds)
 |_=>none
def Vw:dm (λb H Q=>∃ p c,b=[.ref p]/\(aN KK.K H p c\/aM KK.K H p c)/\Q (.int ↥c) H) Xr:=by
 intro F H i h z Q s g e q
 unfold Xr at e
 split at e <;> cases e
 all_goals
  obtain⟨x,r,rfl,d,f⟩:=g.cons_inv
  cases f.nil_inv
 .obtain⟨p,b,rfl,a,bl⟩:=d.lst_inv
  exact⟨p,b,rfl,.inl (aN.of (s _ _ a)),by rw[↥bl];exact q F H _ (.refl s) .int⟩
 .obtain⟨p,b,rfl,a,bl⟩:=d.tup_inv
  exact⟨p,b,rfl,.inr (aM.of (s _ _ a)),by rw[↥bl];exact q F H _ (.refl s) .int⟩
 .obtain⟨p,rfl,a⟩:=d.scr_inv
  exact⟨p,_,rfl,.inl ((s.seq a)),by rw[u5];exact q F H _ (.refl s) .int⟩
def Kv:x9
 |[.int i,.int j]=>some (.int (if j>i then j else i))
 |_=>none
def uU:x9
 |[.int i,.int j]=>some (.int (if j<i then j else i))
 |_=>none
def Qz {g:Int->Int->Int}:dm (λf H Q=>∃ i j,f=[.int i,.int j]/\Q (.int (g i j)) H) (λb=>match b with|[.int i,.int j]=>some (.int (g i j))|_=>none):=by
 intro F H k b z Q s h e q
 dsimp only at e
 split at e <;> cases e
 obtain⟨x,r,rfl,d,a⟩:=h.cons_inv
 obtain⟨y,r,rfl,c,a⟩:=a.cons_inv
 cases a.nil_inv
 exact⟨_,_,by rw[d.int_inv,c.int_inv],q F H _ (.refl s) .int⟩
def zkF:dm (λa H Q=>∃ i j,a=[.int i,.int j]/\Q (.int (if j>i then j else i)) H) Kv:=Qz (g:=λi j=>if j>i then j else i)
def zll:dm (λa H Q=>∃ i j,a=[.int i,.int j]/\Q (.int (if j<i then j else i)) H) uU:=Qz (g:=λi j=>if j<i then j else i)
def vR:x9
 |[.lst ds]=>some (.tup ds)
 |[.tup ds]=>some (.tup ds)
 |_=>none
def zgJ:dm (λa H Q=>∃ p c,a=[.ref p]/\((aN K H p c/\∀ l,H l=none->Q (.ref l) (aA H l (.tup c)))\/(aM K H p c/\Q (.ref p) H))) vR:=by
 intro F H k j z Q s i e q
 unfold vR at e
 split at e <;> cases e
 all_goals
  obtain⟨x,r,rfl,d,h⟩:=i.cons_inv
  cases h.nil_inv
 .obtain⟨p,a,rfl,b,bl⟩:=d.lst_inv
  refine⟨p,a,rfl,.inl ⟨aN.of (s _ _ b),λl f=>?_⟩⟩
  have g:=Gr.alloc s f (.tup a)
  exact q _ _ _ g (.tup zn (bl.mono g.ff))
 .obtain⟨p,a,rfl,b,bl⟩:=d.tup_inv
  exact⟨p,a,rfl,.inr ⟨aM.of (s _ _ b),q F H _ (.refl s) (.tup b bl)⟩⟩
def lY:fj
 |[.lst ds]=>some ds
 |[.tup ds]=>some ds
 |[.scr ns]=>some (ns.map .int)
 |_=>none
def zm6 {f:yL} (i:Gl X "list") (A:X.mg "list"=none) (v:AD X [e] f) (hK:X.K=KK.K:=by rfl) (y:Q0c [e] X.env=(false,eval e X.env)::Q0c [] X.env:=by rfl) (g:(Q0v pos (Q0c [] X.env)).any (·.1)=false:=by rfl):FL X (.Call (.Name "list" p) [e] [] pos) (gK lY f):=by
 obtain⟨t,w,k⟩:=v
 refine⟨_,W4 zcw i A Gi w ⋯ ⋯ y g,fun σ ρ F H z Q s m e q=>?_⟩
 obtain⟨n,B,d⟩:=u4.mp e
 refine k σ ρ F H n _ s m B λF1 H1 C a u=>?_
 unfold lY at d
 split at d <;> cases d
 all_goals
  obtain⟨x,r,rfl,j,o⟩:=u.cons_inv
  cases o.nil_inv
 .obtain⟨p,h,rfl,c,bl⟩:=j.lst_inv
  exact⟨p,h,rfl,.inl (aN.of (a.fh _ _ c)),λl b=>q _ _ _ _ (a.trans (Gr.hide a.fh b _)) (iz a b) (a.fh.free b) zn bl⟩
 .obtain⟨p,h,rfl,c,bl⟩:=j.tup_inv
  exact⟨p,h,rfl,.inr (aM.of (a.fh _ _ c)),λl b=>q _ _ _ _ (a.trans (Gr.hide a.fh b _)) (iz a b) (a.fh.free b) zn bl⟩
 .obtain⟨p,rfl,c⟩:=j.scr_inv
  exact⟨p,_,rfl,.inl (by rw[hK];exact a.fh.seq c),λl b=>q _ _ _ _ (a.trans (Gr.hide a.fh b _)) (iz a b) (a.fh.free b) zn (.ints _)⟩
inductive Do (K:zA) (H:Hp):V->Q0e->Prop where
 |of {v:V} {t:Q0e} (h:dJ K H v t):Do K H v t
 | dd {a:Addr} {u:HO} (h:Rd H a u) (d:(∃ kvs,u=.dK kvs)\/∃ kvs,u=.dT kvs):Do K H (.ref a) (.type "dict")
def zch {X:Cx}:vq X (.builtin "isinstance") (λk H Q=>∃ x n t b,k=[x,.ty n]/\Do X.K H x t/\Q0Y X.K t (.type n)≈b/\Q (.bl b) H):=by
 intro f s σ H k v Q I r h
 obtain⟨x,n,t,b,rfl,ty,e,q⟩:=h
 cases ty with
 |of ty=>exact zeC f s σ H _ v Q I r ⟨x,n,t,b,rfl,ty,e,q⟩
 | @dd a u h d =>
  cases r with
  |cons y m =>
   cases m with
   |cons l A =>
    cases A
    cases y
    cases l
    have ok:=h.ok I.hok
    rcases d with ⟨c,rfl⟩|⟨c,rfl⟩
    .obtain⟨_,_,C,_,p⟩:=(show yU X.prog X.w H s.heap a (.dK c)from ok)
     obtain⟨o,B,w,j,i,_⟩:=p
     exact eQ Cz I.kIn ⟨o,j,i.1⟩ e (λz=>nomatch z) λg=>⟨.bl b,H,I.tok g,rfl,q⟩
    .obtain⟨_,_,k,_,o,B,w,j,i,_⟩:=(show yU X.prog X.w H s.heap a (.dT c)from ok)
     exact eQ Cz I.kIn ⟨o,j,i.1⟩ e (λz=>nomatch z) λg=>⟨.bl b,H,I.tok g,rfl,q⟩
def At.ty (s:zZ F H):∀ {d:D} {v:V},At F d v->(∀ ns,d≠.scr ns)->(∀ w e g,d≠.obj w e g)->Do K H v (.type (Sv d))
 |.non,_,h,_,_=>by cases h.non_inv;exact .of .non
 |.bl b,_,h,_,_=>by cases h.bl_inv;exact .of (.bl b)
 |.int i,_,h,_,_=>by cases h.int_inv;exact .of (.int i)
 |.str x,_,h,_,_=>by cases h.str_inv;exact .of (.str x)
 |.tup ds,_,h,_,_=>by obtain⟨a,j,rfl,e,_⟩:=h.tup_inv;exact .of (.tup (s _ _ e))
 |.lst ds,_,h,_,_=>by obtain⟨a,j,rfl,e,_⟩:=h.lst_inv;exact .of (.lst (s _ _ e))
 |.scr ns,_,_,n,_=>absurd rfl (n ns)
 |.obj w e g,_,_,_,n=>absurd rfl (n w e g)
 |.dct z t ks vs,_,h,_,_=>by
  obtain⟨a,j,rfl,d,_⟩:=h.dct_inv
  obtain⟨u,f,k⟩:=(d.mono s).rd
  exact .dd k (by
   unfold cF at f
   split at f
   .obtain⟨c,rfl,_⟩:=f;exact .inr ⟨c,rfl⟩
   .obtain⟨c,rfl,_⟩:=f;exact .inl ⟨c,rfl⟩)
inductive Ty where
 |int|bool|tuple|list|str
def Ty.nm:Ty->String
 | .int=>"int" | .bool=>"bool" | .tuple=>"tuple" | .list=>"list" | .str=>"str"
def jD:Ty->D->Bool
 |.int,.int _=>true|.int,.bl _=>true
 |.bool,.bl _=>true
 |.tuple,.tup _=>true
 |.list,.lst _=>true
 |.str,.str _=>true
 |_,_=>false
def wZ (n:Ty):D->Option D
 |.scr _=>none
 |.obj _ _ _=>none
 |d=>some (.bl (jD n d))
def zpi (K:zA)(n:Ty)(d:D)(h:∀ ns,d≠.scr ns)(b:∀ w e a,d≠.obj w e a):Q0Y K (.type (Sv d)) (.type n.nm)≈(jD n d):=by
 cases n <;> cases d <;> first|exact absurd rfl (h _)|exact absurd rfl (b _ _ _)|kernel_rfl
def Q9 {f:zW} (n:Ty) (j:Gl X "isinstance") (C:X.mg "isinstance"=none) (y:ED X a f) (u:PE X b (tC (.ty n.nm))) (l:Q0c [a,b] X.env=(false,eval a X.env)::Q0c [b] X.env:=by rfl) (i:Q0c [b] X.env=(false,eval b X.env)::Q0c [] X.env:=by rfl) (g:(Q0v pos (Q0c [b] X.env)).any (·.1)=false:=by rfl) :
 ED X (.Call (.Name "isinstance" p) [a,b] [] pos) (aZ (wZ n) f):=by
 obtain⟨t,A,o⟩:=y
 refine⟨_,yn zch j C zN (zw A (zw u yt i) l) ⋯ ⋯ l g,fun σ ρ F H z Q s r e q=>?_⟩
 obtain⟨d,E,c⟩:=u4.mp e
 refine o σ ρ F H d _ s r E λF1 H1 v m x=>?_
 have ns:∀ ns,d≠.scr ns:=λns h=>by subst h;cases c
 have no:∀ w e k,d≠.obj w e k:=λw e k h=>by subst h;cases c
 have B:z=.bl (jD n d):=by
  cases d <;> first|exact(g0 c).symm|exact absurd rfl (ns _)|exact absurd rfl (no _ _ _)
 subst B
 exact⟨v,n.nm,_,_,rfl,x.ty m.fh ns no,zpi _ n d ns no,q F1 H1 _ m .bl⟩
def dh (m:Bool)(i:Nat)(f:zW):zM:=fun ρ=>match (bF m f ρ).bind λd=>match ρ[i]? with
 |some (.o ds)=>if decide (↥ds<sizeLine) then some (ρ.set i (.o (ds++[d])))else none
 |_=>none with
 |some a=>.nx a
 |none=>.no
def Fo {b:Pos} {f:zW} (C:PE X a (Wd i)) (L:ED X e f) (G:∀ {A:TE} {t:TA},PE X a A->PA X [e] t->PE X (.Call (.Attribute a "append" p) [e] [] b) (jA X.K "list" Gy A t)) (w:Q0q (.Call (.Attribute a "append" p) [e] [] b) none pos.line X.env=pure false:=by rfl) (j:Q0c [e] X.env=(false,eval e X.env)::Q0c [] X.env:=by rfl):SD X (.Expr (.Call (.Attribute a "append" p) [e] [] b) pos) (dh m i f):=by
 obtain⟨t,I,M⟩:=L
 refine⟨_,XH (G C (zw I yt j)) w,λFb Hb F H ρ σ E u k=>?_⟩
 unfold dh at k
 cases h:(bF m f ρ).bind λd=>match ρ[i]? with
  |some (.o n)=>if decide (↥n<sizeLine) then some (ρ.set i (.o (n++[d])))else none
  |_=>none with
 |none=>rw[h]at k;exact k.elim
 |some T =>
  rw[h]at k
  obtain⟨d,O,c⟩:=u4.mp h
  cases j:ρ[i]? with
  |none=>rw[j]at c;cases c
  |some K =>
   rw[j]at c
   cases K with
   |no=>cases c
   |v _=>cases c
   |m _ _ _=>cases c
   |k _ _ _=>cases c
   |o n =>
    dsimp only at c
    split at c <;> cases c
    rename_i B
    obtain⟨q,J,y,U,Q,P,S⟩:=u.owns i n j
    refine⟨_,y,.inl ⟨rfl,J,aN.of P⟩,?_⟩
    refine M.at u O λF' H' v g N=>?_
    have l:=u.grow g
    obtain⟨R,x,r,_,_,z,s⟩:=l.owns i n j
    rw[y]at r
    cases r
    refine⟨q,x,v,rfl,rfl,z,by rw[↥s];exact j8 B,?_⟩
    exact k _ _ σ (l.mutate j y (s.snoc N))
def Eg (i:Nat)(f:zW):zM:=fun ρ=>match (f (visF ρ)).bind λd=>match ρ[i]?,d with
 |some (.o ds),.lst es=>if aU (↥ds+↥es) then some (ρ.set i (.o (ds++es)))else none
 |_,_=>none with
 |some a=>.nx a
 |none=>.no
def zpH {c:Pos} {f:zW} (G:PE X a (Wd i)) (N:ED X e f) (I:∀ {B:TE} {t:TA},PE X a B->PA X [e] t->PE X (.Call (.Attribute a "extend" p) [e] [] c) (jA X.K "list" Nt B t)) (w:Q0q (.Call (.Attribute a "extend" p) [e] [] c) none pos.line X.env=pure false:=by rfl) (j:Q0c [e] X.env=(false,eval e X.env)::Q0c [] X.env:=by rfl):SD X (.Expr (.Call (.Attribute a "extend" p) [e] [] c) pos) (Eg i f):=by
 obtain⟨t,K,O⟩:=N
 refine⟨_,XH (I G (zw K yt j)) w,λFb Hb F H ρ σ E u k=>?_⟩
 unfold Eg at k
 cases h:(f (visF ρ)).bind λd=>match ρ[i]?,d with
  |some (.o n),.lst A=>if aU (↥n+↥A) then some (ρ.set i (.o (n++A)))else none
  |_,_=>none with
 |none=>rw[h]at k;exact k.elim
 |some W =>
  rw[h]at k
  obtain⟨d,Q,b⟩:=u4.mp h
  cases j:ρ[i]? with
  |none=>rw[j]at b;cases b
  |some M =>
   rw[j]at b
   cases M with
   |no=>cases b
   |v _=>cases b
   |m _ _ _=>cases b
   |k _ _ _=>cases b
   |o n =>
    cases d with
    |lst A =>
     dsimp only at b
     split at b <;> cases b
     rename_i C
     obtain⟨q,L,y,Y,T,R,V⟩:=u.owns i n j
     refine⟨_,y,.inl ⟨rfl,L,aN.of R⟩,?_⟩
     refine O σ _ _ H _ _ u.gr.fh u.visF Q λF' H' v g P=>?_
     have l:=u.grow g
     obtain⟨U,x,r,_,_,z,s⟩:=l.owns i n j
     rw[y]at r
     cases r
     obtain⟨J,zs,rfl,S,bl⟩:=P.lst_inv
     refine⟨q,J,x,zs,rfl,rfl,z,g.fh _ _ S,by rw[↥s,↥bl];exact j8 C,?_⟩
     exact k _ _ σ (l.mutate j y (s.append bl))
    |_=>cases b
end
end Dl
namespace Dl
open PySem L2
variable [KK]
def aR:Nat->D->Bool
 |_,.scr _=>false
 |_,.dct _ _ _ _=>false
 |_,.obj _ _ _=>false
 |0,.tup _=>false
 |0,.lst _=>false
 |n+1,.tup ds=>ds.all (aR n)
 |n+1,.lst ds=>ds.all (aR n)
 |_,_=>true
def aX:Nat->D->D->Bool
 |_,.non,.non=>true
 |_,.bl a,.bl b=>a == b
 |_,.bl a,.int b=>(if a then 1 else 0) == b
 |_,.int a,.bl b=>a == (if b then 1 else 0)
 |_,.int a,.int b=>a == b
 |_,.str a,.str b=>a == b
 |n+1,.tup a,.tup b=>(Q0M (aX n) a b).all id&&↥a == ↥b
 |n+1,.lst a,.lst b=>(Q0M (aX n) a b).all id&&↥a == ↥b
 |_,_,_=>false
omit [KK] in
def Gf:∀ (a b:zl),(Q0M (aX n) a b).all id=(Q0g (min ↥a ↥b)).all λj=>aX n (a.getD j .non) (b.getD j .non):=by
 intro a b
 have:Q0M (aX n) a b=(Q0g (min ↥a ↥b)).map λj=>aX n (a.getD j .non) (b.getD j .non):=by
  apply Bw
  .simp
  .intro i c d
   simp at c d
   have f:i<↥a:=q5 c (Nat.min_le_left _ _)
   have e:i<↥b:=q5 c (HW _ _)
   simp[f,e]
 rw[this,mR]
 rfl
omit [KK] in
def iH:D->V
 |.bl b=>.bl b
 |.int i=>.int i
 |.str t=>.str t
 |_=>.non
def wH (h:aR 0 d=true)(a:At F d x):x=iH d:=by
 cases d with
 |non=>exact a.non_inv
 |bl b=>exact a.bl_inv
 |int b=>exact a.int_inv
 |str b=>exact a.str_inv
 |_=>cases h
omit [KK] in
def WM (h:aR 0 d=true):Ey (iH d)=true:=by
 cases d <;> first|rfl|cases h
omit [KK] in
def Bg (h:aR 0 d=true)(e:iH d=.ref p):False:=by
 cases d <;> first | (cases h;done) | (cases e;done)
def JT:V->D
 |.bl b=>.bl b
 |.int i=>.int i
 |.str t=>.str t
 |_=>.non
omit [KK] in
def PK (h:aR 0 d=true):JT (iH d)=d:=by
 cases d <;> first|rfl | (cases h;done)
omit [KK] in
def O7 (b:aR 0 d=true)(a:aR 0 e=true)(h:iH d=iH e):d=e:=by
 rw[<-PK b,h,PK a]
omit [KK] in
def wu {n:Nat}(h:aR (n+1) d=true):aR 0 d=true\/(∃ a,d=.tup a/\a.all (aR n)=true)\/∃ a,d=.lst a/\a.all (aR n)=true:=by
 cases d with
 |tup a=>exact .inr (.inl ⟨a,rfl,h⟩)
 |lst a=>exact .inr (.inr ⟨a,rfl,h⟩)
 |scr _=>cases h
 |dct _ _ _ _=>cases h
 |obj _ _ _=>cases h
 |_=>exact .inl rfl
def N5 (o:∀ {d e:D} {v:V},aR n d=true->aR n e=true->At F d v->At F e v->d=e):∀ {c:zD} {a b:zl},a.all (aR n)=true->b.all (aR n)=true->ao F a c->ao F b c->a=b:=by
 intro c
 induction c with
 |nil =>
  intro a b _ _ f g
  exact(nq.mp f.length.symm).trans (nq.mp g.length.symm).symm
 |cons x c h =>
  intro a b j i f g
  cases a with
  |nil=>cases f.nil_inv
  |cons d a=>cases b with
   |nil=>cases g.nil_inv
   |cons e b =>
    obtain⟨y,r,p,b1,m⟩:=f.cons_inv
    obtain⟨s,q,k,b2,l⟩:=g.cons_inv
    cases p
    cases k
    rw[qu,k9]at j i
    rw[h j.2 i.2 m l,o j.1 i.1 b1 b2]
def M4:∀ (n:Nat) {d e:D} {v:V},aR n d=true->aR n e=true->At F d v->At F e v->d=e:=by
 intro n
 induction n with
 |zero =>
  intro d e v o h i a
  exact O7 o h ((wH o i).symm.trans (wH h a))
 |succ n x =>
  intro d e v o h i a
  rcases wu o with m|⟨y,rfl,t⟩|⟨y,rfl,t⟩
  .have b:=wH m i
   rcases wu h with c|⟨l,rfl,_⟩|⟨l,rfl,_⟩
   .exact O7 m c (b.symm.trans (wH c a))
   .obtain⟨p,u,r,_⟩:=a.tup_inv
    exact(Bg m (b.symm.trans r)).elim
   .obtain⟨p,u,r,_⟩:=a.lst_inv
    exact(Bg m (b.symm.trans r)).elim
  .obtain⟨p,u,g,j,w⟩:=i.tup_inv
   rcases wu h with c|⟨l,rfl,k⟩|⟨l,rfl,k⟩
   .exact(Bg c ((wH c a).symm.trans g)).elim
   .obtain⟨q,s,b,f,bl⟩:=a.tup_inv
    cases g.symm.trans b
    cases j.symm.trans f
    rw[N5 x t k w bl]
   .obtain⟨q,s,b,f,bl⟩:=a.lst_inv
    cases g.symm.trans b
    cases j.symm.trans f
  .obtain⟨p,u,g,j,w⟩:=i.lst_inv
   rcases wu h with c|⟨l,rfl,k⟩|⟨l,rfl,k⟩
   .exact(Bg c ((wH c a).symm.trans g)).elim
   .obtain⟨q,s,b,f,bl⟩:=a.tup_inv
    cases g.symm.trans b
    cases j.symm.trans f
   .obtain⟨q,s,b,f,bl⟩:=a.lst_inv
    cases g.symm.trans b
    cases j.symm.trans f
    rw[N5 x t k w bl]
omit [KK] in
def zkK:∀ (n:Nat) {d:D},aR n d=true->aX n d d=true:=by
 intro n
 induction n with
 |zero =>
  intro d h
  cases d with
  |tup _=>cases h
  |lst _=>cases h
  |scr _=>cases h
  |dct _ _ _ _=>cases h
  |obj _ _ _=>cases h
  |_=>first|rfl|exact j3 rfl|exact qF _
 |succ n e =>
  have b:∀ {a:zl},a.all (aR n)=true->(Q0M (aX n) a a).all id=true:=by
   intro a
   induction a with
   |nil=>intro _;rfl
   |cons d a c =>
    intro h
    rw[qu,k9]at h
    rw[List.zipWith_cons_cons,qu,c h.2,Bs]
    exact e h.1
  intro d h
  cases d with
  |tup a=>show((Q0M (aX n) a a).all id&&↥a == ↥a)=true;rw[b h];simp
  |lst a=>show((Q0M (aX n) a a).all id&&↥a == ↥a)=true;rw[b h];simp
  |scr _=>cases h
  |dct _ _ _ _=>cases h
  |obj _ _ _=>cases h
  |_=>first|rfl|exact j3 rfl|exact qF _
def LR (n:Nat)(f:aR n d=true)(a:aR n e=true)(c:At F d v)(b:At F e v):aX n d e=true:=by
 rw[M4 n f a c b]
 exact zkK n a
omit [KK] in
def Yp {a:zl}{j:Nat}(h:a.all (aR n)=true)(b:j<↥a):aR n (a.getD j .non)=true:=by
 have:a.getD j .non=a[j]:=by simp[b]
 rw[this]
 exact l5.mp h _ (mZ b)
def ao.nth {a:zl}{b:zC}{j:Nat}(f:ao F a e)(r:yy e b)(h:j<↥b):∃ x,At F (a.getD j .non) x/\y6 x b[j]:=by
 have o:=↥f
 have n:=↥r
 have c:j<↥a:=by omega
 obtain⟨x,g,l⟩:=f.get (i:=j) (d:=a[j]) (by simp[c])
 obtain⟨u,k,m⟩:=r.get g
 refine⟨x,by rw[show a.getD j .non=a[j] by simp[c]];exact l,?_⟩
 have:b[j]?≈b[j]:=by simp[h]
 rw[k]at this
 cases this
 exact m
omit [KK] in
def QF (b:aR 0 d=true)(a:aR 0 e=true):aX n d e=SN (iH d) (iH e):=by
 cases n <;> cases d <;> first | (cases b;done)|skip
 all_goals cases e <;> first | (cases a;done)|rfl
omit [KK] in
def uX {n:Nat}(a:zl)(h:aR 0 d=true):aX (n+1) d (.tup a)=false/\aX (n+1) d (.lst a)=false/\aX (n+1) (.tup a) d=false/\aX (n+1) (.lst a) d=false:=by
 cases d <;> first|exact⟨rfl,rfl,rfl,rfl⟩|cases h
omit [KK] in
def Aw {A:zP}{s:zm}(h:aR 0 d=true)(r:y6 (iH d) u)(c:A.units<cLine) :
 (s.heap.IsTuple p e->Q1b A s u (.ref p) false/\Q1b A s (.ref p) u false)/\(s.heap.IsList p e->Q1b A s u (.ref p) false/\Q1b A s (.ref p) u false):=by
 cases d with
 |non=>cases r;exact⟨λa=>⟨.none_tuple a c,.tuple_none a c⟩,λa=>⟨.none_list a c,.list_none a c⟩⟩
 |bl b=>cases r;exact⟨λa=>⟨.bool_tuple b a c,.tuple_bool b a c⟩,λa=>⟨.bool_list b a c,.list_bool b a c⟩⟩
 |int b=>obtain⟨t,rfl⟩:=r;exact⟨λa=>⟨.int_tuple b t a c,.tuple_int b t a c⟩,λa=>⟨.int_list b t a c,.list_int b t a c⟩⟩
 |str b=>obtain⟨t,rfl⟩:=r;exact⟨λa=>⟨.str_tuple b t a c,.tuple_str b t a c⟩,λa=>⟨.str_list b t a c,.list_str b t a c⟩⟩
 |_=>cases h
def Bp {s:zm}(I:aj X c σ H s)(i:zZ F H)(a:At F (.tup e) x)(r:y6 x u):∃ p b d,u=.ref p/\x=.ref p/\yy d b/\ao F e d/\s.heap.IsTuple p b.toArray:=by
 obtain⟨p,d,rfl,h,j⟩:=a.tup_inv
 cases r
 obtain⟨b,g,f,k⟩:=I.tuple (aM.of (i _ _ h))
 exact⟨p,b,d,rfl,rfl,g,j,f⟩
def Bl {s:zm}(I:aj X c σ H s)(i:zZ F H)(a:At F (.lst e) x)(r:y6 x u):∃ p b d,u=.ref p/\x=.ref p/\yy d b/\ao F e d/\s.heap.IsList p b.toArray:=by
 obtain⟨p,d,rfl,h,j⟩:=a.lst_inv
 cases r
 obtain⟨b,g,f,k⟩:=I.list (aN.of (i _ _ h))
 exact⟨p,b,d,rfl,rfl,g,j,f.isList⟩
omit [KK] in
def NB (b a:zl):((Q0M (aX n) b a).all id&&↥b == ↥a)=((Q0g (min ↥b ↥a)).all (λj=>aX n (b.getD j .non) (a.getD j .non))&&↥b == ↥a):=by rw[Gf]
def Ft (I:aj X S σ H s)(C:zZ F H):∀ (n:Nat) {A:zP} {d e:D} {x y:V} {u v:Q0e},aR n d=true->aR n e=true->At F d x->At F e y->y6 x u->y6 y v->A.units+n<cLine->Q1b A s u v (aX n d e):=by
 intro n
 induction n with
 |zero =>
  intro A d e x y u v K w z g M m hu
  cases wH K z
  cases wH w g
  rw[QF K w]
  exact M7 M m (WM K) (WM w)
 |succ n ih =>
  intro A d e x y u v K w z g M m hu
  have c:A.units<cLine:=l6 (iJ _ _) hu
  have P:A.units+1+n<cLine:=by rw[Nat.add_assoc,Nat.add_comm 1 n];exact hu
  rcases wu K with J|⟨l,rfl,W⟩|⟨l,rfl,W⟩
  .cases wH J z
   rcases wu w with o|⟨f,rfl,N⟩|⟨f,rfl,N⟩
   .cases wH o g
    rw[QF J o]
    exact M7 M m (WM J) (WM o)
   .obtain⟨q,b,Q,rfl,_,_,_,a⟩:=Bp I C g m
    rw[(uX f J).1]
    exact((Aw J M c).1 a).1
   .obtain⟨q,b,Q,rfl,_,_,_,a⟩:=Bl I C g m
    rw[(uX f J).2.1]
    exact((Aw J M c).2 a).1
  .obtain⟨p,E,xs,rfl,L,R,T,B⟩:=Bp I C z M
   rcases wu w with o|⟨f,rfl,N⟩|⟨f,rfl,N⟩
   .cases wH o g
    rw[(uX l o).2.2.1]
    exact((Aw o m c).1 B).2
   .obtain⟨q,b,Q,rfl,G,r,bl,a⟩:=Bp I C g m
    by_cases i:p=q
    .subst i
     rw[L]at z
     rw[G]at g
     rw[LR (n+1) K w z g]
     exact .same _
    .have h:E.toArray.size=↥l:=by rw[j0,<- ↥R,↥T]
     have k:b.toArray.size=↥f:=by rw[j0,<- ↥r,↥bl]
     have:=SeqAt.RcAt.tuples (A:=A) (e:=λj=>aX n (l.getD j .non) (f.getD j .non)) B a c λj U O=>by
      obtain⟨x',ax,rx⟩:=T.nth R (j:=j) U
      obtain⟨y',Y,Z⟩:=bl.nth r (j:=j) O
      exact ih (Yp W (h ▸ U)) (Yp N (k ▸ O)) ax Y rx Z P
     rw[h,k]at this
     rw[show aX (n+1) (.tup l) (.tup f)=_ from NB l f]
     exact Ir i this
   .obtain⟨q,b,Q,rfl,_,_,_,a⟩:=Bl I C g m
    exact .tuple_list B a c
  .obtain⟨p,E,xs,rfl,L,R,T,B⟩:=Bl I C z M
   rcases wu w with o|⟨f,rfl,N⟩|⟨f,rfl,N⟩
   .cases wH o g
    rw[(uX l o).2.2.2]
    exact((Aw o m c).2 B).2
   .obtain⟨q,b,Q,rfl,_,_,_,a⟩:=Bp I C g m
    exact .list_tuple B a c
   .obtain⟨q,b,Q,rfl,G,r,bl,a⟩:=Bl I C g m
    by_cases i:p=q
    .subst i
     rw[L]at z
     rw[G]at g
     rw[LR (n+1) K w z g]
     exact .same _
    .have h:E.toArray.size=↥l:=by rw[j0,<- ↥R,↥T]
     have k:b.toArray.size=↥f:=by rw[j0,<- ↥r,↥bl]
     rw[show aX (n+1) (.lst l) (.lst f)=_ from NB l f]
     by_cases t:↥l=↥f
     .have:=SeqAt.RcAt.lists (A:=A) (e:=λj=>aX n (l.getD j .non) (f.getD j .non)) B a (by rw[h,k,t]) c λj U O=>by
       obtain⟨x',ax,rx⟩:=T.nth R (j:=j) U
       obtain⟨y',Y,Z⟩:=bl.nth r (j:=j) O
       exact ih (Yp W (h ▸ U)) (Yp N (k ▸ O)) ax Y rx Z P
      rw[h]at this
      rw[<-t,Nat.min_self,qF,Bs]
      exact Ir i this
     .have:=SeqAt.RcAt.lists_lengths (A:=A) B a (by rw[h,k];exact bne_iff_ne.mpr t) c
      rw[l8.mpr t,qx]
      exact Ir i this
def oW (d:D)(a:zl):Option Bool:=if aR 20 d=true/\a.all (aR 20) then some (a.any λe=>aX 20 e d)else none
def lg (d e:D):Option D:=(wW e).bind λa=>(oW d a).map .bl
open Classical in
noncomputable def gm (F:Hp)(d:D)(u:Q0e):Bool:=decide (∃ a x,At F a x/\y6 x u/\aR 20 a=true/\aX 20 a d=true)
open Classical in
def N7 (a:At F b x)(r:y6 x u)(k:aR 20 b=true):gm F d u=aX 20 b d:=by
 unfold gm
 cases h:aX 20 b d with
 |true=>exact j3 ⟨b,x,a,r,k,h⟩
 |false =>
  refine r0 ?_
  rintro⟨j,y,f,g,i,c⟩
  have e:=g.inj r
  subst e
  rw[M4 20 i k f a]at c
  rw[c]at h
  cases h
def Hr:∀ {a:zl} {b:zD} {c:zC},ao F a b->yy b c->a.all (aR 20)=true->c.any (gm F d)=a.any λe=>aX 20 e d
 |[],_,_,al,r,_=>by cases al.nil_inv;cases r;rfl
 |e::a,_,_,al,r,k=>by
  obtain⟨x,b,rfl,g,f⟩:=al.cons_inv
  cases r with
  |cons h i =>
   rw[qu,k9]at k
   rw[qt,qt,N7 g h k.1,Hr f i k.2]
section
variable {X:Cx}
def rY (a:Bool):R2:=λx y H Q=>∃ F d e c b,zZ F H/\At F d x/\At F e y/\wW e≈c/\oW d c≈b/\Q (.bl (if a then !b else b)) H
def Nh {k:Nat}(O:xH k X.A):aQ X (Q0l .In) (rY false):=by
 intro D s σ H x y v u Q I N C h
 obtain⟨F,d,e,J,b,A,L,B,M,t,q⟩:=h
 unfold oW at t
 split at t <;> cases t
 rename_i m
 have P:X.A.in1.units+20<cLine:=by have:=O.un;show X.A.units+1+20<cLine;omega
 have g:∀ {i:zD} {o:zC},ao F J i->yy i o->∀ z∈o,Q1b X.A.in1 s z v (gm F d z):=λ{i o} c r z f=>by
  obtain⟨j,K,rfl⟩:=kW f
  obtain⟨R,E,l⟩:=c.nth r K
  have n:j<↥J:=by have:=↥c;have:=↥r;omega
  have G:=Yp m.2 n
  rw[N7 E l G]
  exact Ft I A 20 G m.1 E L l N P
 cases e <;> cases M
 .obtain⟨p,i,rfl,w,c⟩:=B.tup_inv
  cases C
  obtain⟨a,r,pl,f⟩:=I.tuple (aM.of (A _ _ w))
  refine SeqAt.in_tupleAt (gm F d) pl (λz f=>g c r z (by simpa using f)) ⟨.bl _,H,I,rfl,?_⟩
  rw[show a.toArray.any (gm F d)=a.any (gm F d) by simp,Hr c r m.2]
  exact q
 .obtain⟨p,i,rfl,w,c⟩:=B.lst_inv
  cases C
  obtain⟨a,r,pl,f⟩:=I.list (aN.of (A _ _ w))
  refine SeqAt.in_listAt (gm F d) pl.isList (λz f=>g c r z (by simpa using f)) ⟨.bl _,H,I,rfl,?_⟩
  rw[show a.toArray.any (gm F d)=a.any (gm F d) by simp,Hr c r m.2]
  exact q
def Nb:bx (rY false) lg:=by
 intro F H x y d e z Q s g f j q
 obtain⟨i,h,a⟩:=u4.mp j
 obtain⟨b,c,rfl⟩:=u8.mp a
 exact⟨F,d,e,i,b,s,g,f,h,c,q F H _ (.refl s) .bl⟩
def SQ (d e:D):Option Bool:=match d,e with
 |.tup _,.tup _=>if aR 20 d=true/\aR 20 e then some (aX 20 d e)else none
 |.lst _,.lst _=>if aR 20 d=true/\aR 20 e then some (aX 20 d e)else none
 |_,_=>JR d e
def wB (d e:D):Option D:=(SQ d e).map .bl
def tX:R2:=λx y H Q=>∃ F d e,zZ F H/\At F d x/\At F e y/\((∃ a b,d=.tup a/\e=.tup b)\/(∃ a b,d=.lst a/\e=.lst b))/\aR 20 d=true/\aR 20 e=true/\Q (.bl (aX 20 d e)) H
def zqB {k:Nat}(hr:xH k X.A):aQ X (Q0l .Eq) tX:=by
 intro R s σ H x y v u Q I t n h
 obtain⟨F,d,e,o,P,O,U,N,S,q⟩:=h
 have D:X.A.units+30<cLine:=by have:=hr.un;omega
 rcases U with ⟨c,g,rfl,rfl⟩|⟨c,g,rfl,rfl⟩
 .obtain⟨p,Y,rfl,K,A⟩:=P.tup_inv
  obtain⟨M,Z,rfl,G,bl⟩:=O.tup_inv
  cases t
  cases n
  obtain⟨i,r,C,hz⟩:=I.tuple (aM.of (o _ _ K))
  obtain⟨b,w,m,J⟩:=I.tuple (aM.of (o _ _ G))
  have a:i.toArray.size=↥c:=by rw[j0,<- ↥r,↥A]
  have f:b.toArray.size=↥g:=by rw[j0,<- ↥w,↥bl]
  refine SeqAt.eq_tupleAt (e:=λj=>aX 19 (c.getD j .non) (g.getD j .non)) (show s.heap.IsTuple p i.toArray from C) (show s.heap.IsTuple M b.toArray from m) ∅ (λj B z=>?_) ⟨.bl _,H,I,rfl,?_⟩
  .obtain⟨V,L,t⟩:=A.nth r (j:=j) (by simpa using B)
   obtain⟨W,E,n⟩:=bl.nth w (j:=j) (by simpa using z)
   exact Ft I o 19 (Yp N (by rw[<-a];exact B)) (Yp S (by rw[<-f];exact z)) L E (by simpa using t) (by simpa using n) (l6 (show X.A.units+20<=X.A.units+30 from Cr ⋯ _) D)
  .rw[a,f,<- Gf]
   exact q
 .obtain⟨p,Y,rfl,K,A⟩:=P.lst_inv
  obtain⟨M,Z,rfl,G,bl⟩:=O.lst_inv
  cases t
  cases n
  obtain⟨i,r,C,hz⟩:=I.list (aN.of (o _ _ K))
  obtain⟨b,w,m,J⟩:=I.list (aN.of (o _ _ G))
  have a:i.toArray.size=↥c:=by rw[j0,<- ↥r,↥A]
  have f:b.toArray.size=↥g:=by rw[j0,<- ↥w,↥bl]
  have T:aX 20 (.lst c) (.lst g)=((Q0g (min ↥c ↥g)).all (λj=>aX 19 (c.getD j .non) (g.getD j .non))&&↥c == ↥g):=by
   show((Q0M (aX 19) c g).all id&&↥c == ↥g)=_
   rw[Gf]
  by_cases l:↥c=↥g
  .refine SeqAt.eq_listAt (e:=λj=>aX 19 (c.getD j .non) (g.getD j .non)) C.isList m.isList (by rw[a,f];exact l) (l6 (iJ _ 30) D) (λj B z=>?_) ⟨.bl _,H,I,rfl,?_⟩
   .obtain⟨V,L,t⟩:=A.nth r (j:=j) (by simpa using B)
    obtain⟨W,E,n⟩:=bl.nth w (j:=j) (by simpa using z)
    exact Ft I o 19 (Yp N (by rw[<-a];exact B)) (Yp S (by rw[<-f];exact z)) L E (by simpa using t) (by simpa using n) (l6 (show X.A.units+20<=X.A.units+30 from Cr ⋯ _) D)
   .rw[a]
    rw[T,<- l,Nat.min_self]at q
    simpa using q
  .refine SeqAt.eq_list_lengthsAt C.isList m.isList (by rw[a,f];simpa using l) (l6 (iJ _ 30) D) ⟨.bl _,H,I,rfl,?_⟩
   have:(↥c == ↥g)=false:=by simpa using l
   rw[T,this,qx]at q
   exact q
def znx:bx tX (λd e=>match d,e with
 |.tup _,.tup _=>if aR 20 d=true/\aR 20 e then some (.bl (aX 20 d e))else none
 |.lst _,.lst _=>if aR 20 d=true/\aR 20 e then some (.bl (aX 20 d e))else none
 |_,_=>none):=by
 intro F H x y d e z Q s c f a q
 dsimp only at a
 split at a
 .split at a <;> cases a
  rename_i b
  exact⟨F,_,_,s,c,f,.inl ⟨_,_,rfl,rfl⟩,b.1,b.2,q F H _ (.refl s) .bl⟩
 .split at a <;> cases a
  rename_i b
  exact⟨F,_,_,s,c,f,.inr ⟨_,_,rfl,rfl⟩,b.1,b.2,q F H _ (.refl s) .bl⟩
 .cases a
def xK {k:Nat}(a:xH k X.A):aQ X (Q0l .Eq) (λx y H Q=>Dh x y H Q\/tX x y H Q):=T4.or (zqB a)
def yK:bx (λx y H Q=>Dh x y H Q\/tX x y H Q) wB:=by
 refine G9 (pO Ma znx) λd e z h=>?_
 obtain⟨b,a,rfl⟩:=u8.mp h
 unfold SQ at a
 split at a
 .split at a <;> cases a
  rename_i c
  show(Option.or none (if aR 20 _=true/\aR 20 _ then some (D.bl (aX 20 _ _))else none))=_
  rw[t5 c]
  rfl
 .split at a <;> cases a
  rename_i c
  show(Option.or none (if aR 20 _=true/\aR 20 _ then some (D.bl (aX 20 _ _))else none))=_
  rw[t5 c]
  rfl
 .show((Dm d e).or _)=_
  unfold Dm
  rw[a]
  rfl
def seq_walk {t:zD}{A:zP}{Q:yM}(I:aj X d σ H s)(F:A.handled=none)(h:aN X.K H a t\/aM X.K H a t) (k:∀ (C:Addr) (c:zC) (B y:xt) (St:Nat->Heap->Prop) (f:zm),yy t c->Walks X.prog X.w A C B y ↥c (λi v=>c[i]?≈v) St->St 0 f.heap->(∀ b∈B,b<⇑f) ->
 (∀ (l:Heap) (m:Nat),(∀ b o,b∉y->f.heap.get? b≈o->l.get? b≈o)->aj X d σ H { f with heap:=l,toks:=m })->Q (.ref C) f) :
 Q0d (Q0i X.prog X.w) A (pyIter (.ref a)) Q E s:=by
 have g:∀ {o:Obj} {f:zm},f={ s with heap:=s.heap.push o }->∀ (l:Heap) (m:Nat),(∀ b u,b∉[⇑s]->f.heap.get? b≈u->l.get? b≈u)->aj X d σ H { f with heap:=l,toks:=m }:=λ{o f} e l m kk=>by
  subst e
  exact I.kept (t':=m) λb u z=>kk b u (by simpa using r4 (j4 z)) (u6 _ z)
 rcases h with h|h
 .obtain⟨c,x,p,G⟩:=I.list h
  have q:a<⇑s:=by obtain⟨o,n,r,_⟩:=p;exact j4 r
  refine nF p.isList ?_
  have W:=Walks.list (prog:=X.prog) (w:=X.w) (A:=A) F ⇑s a (r4 q) c.toArray
  refine k ⇑s c [⇑s,a] [⇑s] (λi h=>h.IsListIter ⇑s a i/\h.IsList a c.toArray) _ x (by simpa using W) ⟨⟨_,j6 _ rfl,rfl,rfl⟩,p.isList.at λo e=>u6 _ e⟩ (λb j=>?_) (g rfl)
  show b<(s.heap.push _).objs.size
  rw[s0]
  rcases t9.mp j with rfl|j
  .exact mY _
  .rw[t7.mp j];exact qK q
 .obtain⟨c,x,p,G⟩:=I.tuple h
  have D:s.heap.IsTuple a c.toArray:=p
  have q:a<⇑s:=by obtain⟨o,r,_⟩:=p;exact j4 r
  refine iM D ?_
  have W:=Walks.tuple (prog:=X.prog) (w:=X.w) (A:=A) F ⇑s a (r4 q) c.toArray
  refine k ⇑s c [⇑s,a] [⇑s] (λi h=>h.IsTupleIter ⇑s a i/\h.IsTuple a c.toArray) _ x (by simpa using W) ⟨⟨_,j6 _ rfl,rfl,rfl⟩,D.at λo e=>u6 _ e⟩ (λb j=>?_) (g rfl)
  show b<(s.heap.push _).objs.size
  rw[s0]
  rcases t9.mp j with rfl|j
  .exact mY _
  .rw[t7.mp j];exact qK q
end
end Dl
namespace Dl
open PySem L2
variable [KK]
omit [KK] in
def zhX {a:List Bool}:(Q0g ↥a).all (λi=>a.getD i false)=a.all id:=by
 have:a=(Q0g ↥a).map λi=>a.getD i false:=by
  apply Bw
  .simp
  .intro i b c
   simp[b]
 conv=>rhs;rw[this]
 rw[mR]
 rfl
omit [KK] in
def ziz {a:List Bool}:(Q0g ↥a).any (λi=>a.getD i false)=a.any id:=by
 have:a=(Q0g ↥a).map λi=>a.getD i false:=by
  apply Bw
  .simp
  .intro i b c
   simp[b]
 conv=>rhs;rw[this]
 rw[Q2J]
 rfl
omit [KK] in
def zii:∀ (ns:zr) (n:Nat),n<=↥ns->preSum (λi=>ns.getD i 0) n=(ns.take n).sum:=by
 intro ns n
 induction n with
 |zero=>intro _;simp[preSum]
 |succ n a =>
  intro h
  show preSum (λi=>ns.getD i 0) n+ns.getD n 0=_
  rw[a ∅,Cd,BV]
  have:ns[n]?≈ns[n]:=by simp[show n<↥ns by omega]
  simp[this]
section
variable {X:Cx}
omit [KK] in
def O5 {b:List Bool}{i:Nat}(r:yy (b.map V.bl) a)(h:a[i]?≈v):v=.bool (b.getD i false):=by
 have e:=↥r
 have f:i<↥a:=(t8.mp h).1
 rw[u5]at e
 obtain⟨u,c,d⟩:=r.get (i:=i) (x:=.bl (b[i]'∅)) (by rw[q4];simp[show i<↥b by omega])
 rw[h]at c
 cases c
 cases d
 simp[show i<↥b by omega]
omit [KK] in
def vals_int {ns:zr}{i:Nat}(r:yy (ns.map V.int) a)(h:a[i]?≈v):∃ t,v=.int (ns.getD i 0) t:=by
 have d:=↥r
 have e:i<↥a:=(t8.mp h).1
 rw[u5]at d
 obtain⟨u,b,c⟩:=r.get (i:=i) (x:=.int (ns[i]'∅)) (by rw[q4];simp[show i<↥ns by omega])
 rw[h]at b
 cases b
 obtain⟨t,rfl⟩:=c
 exact⟨t,by simp[show i<↥ns by omega]⟩
def Q8 (y:X.calm=true):vq X (.builtin "all") (λd H Q=>∃ (p:Addr) (a:List Bool),d=[.ref p]/\(aN X.K H p (a.map V.bl)\/aM X.K H p (a.map V.bl))/\Q (.bl (a.all id)) H):=by
 intro f s σ H d C Q I r h
 obtain⟨p,a,rfl,z,q⟩:=h
 obtain⟨u,rfl,t⟩:=Zj r
 cases t
 refine call_all_walk (seq_walk I (I.ok.hd y) z λw g n l St D e W j m b=>?_)
 have c:=↥e
 rw[u5]at c
 refine⟨w,n,l,_,_,St,λi=>a.getD i false,rfl,W,j,λi v s Q E B x=>?_,λA k o=>⟨.bl _,H,b A k o,rfl,?_⟩⟩
 .rw[O5 e B]
  exact fX x
 .rw[<-c,zhX]
  exact q
def zhS (y:X.calm=true):vq X (.builtin "any") (λd H Q=>∃ (p:Addr) (a:List Bool),d=[.ref p]/\(aN X.K H p (a.map V.bl)\/aM X.K H p (a.map V.bl))/\Q (.bl (a.any id)) H):=by
 intro f s σ H d C Q I r h
 obtain⟨p,a,rfl,z,q⟩:=h
 obtain⟨u,rfl,t⟩:=Zj r
 cases t
 refine call_any_walk (seq_walk I (I.ok.hd y) z λw g n l St D e W j m b=>?_)
 have c:=↥e
 rw[u5]at c
 refine⟨w,n,l,_,_,St,λi=>a.getD i false,rfl,W,j,λi v s Q E B x=>?_,λA k o=>⟨.bl _,H,b A k o,rfl,?_⟩⟩
 .rw[O5 e B]
  exact fX x
 .rw[<-c,ziz]
  exact q
def Rp (t:X.calm=true):vq X (.builtin "sum") (λf H Q=>∃ (p:Addr) (ns:zr),f=[.ref p]/\(aN X.K H p (ns.map V.int)\/aM X.K H p (ns.map V.int))/\Q (.int ns.sum) H):=by
 intro e s σ H f B Q I r h
 obtain⟨p,ns,rfl,w,q⟩:=h
 obtain⟨u,rfl,m⟩:=Zj r
 cases m
 refine call_sum_walkG (seq_walk I (I.ok.hd t) w λo g z n St C c W k b a=>?_)
 have d:=↥c
 rw[u5]at d
 refine⟨o,z,n,_,_,St,λi=>ns.getD i 0,rfl,W,k,b,λi v y=>vals_int c y,λx l A j=>⟨.int ns.sum,H,a x l j,?_,q⟩⟩
 refine⟨A,?_⟩
 rw[<-d,zii ns _ (t6 _),iK]
def maxL (ns:zr):Int:=(ns.max?).getD 0
omit [KK] in
def best_ge (f:Nat->Int):∀ k i,i<=k->f i<=f (Q00 (λi j=>decide (f j<f i)) k)/\Q00 (λi j=>decide (f j<f i)) k<=k:=by
 intro k
 induction k with
 |zero =>
  intro i hi
  have:i=0:=by omega
  subst this;exact⟨fH _,t6 _⟩
 |succ k ih =>
  intro i hi
  unfold Q00
  obtain⟨h1,h2⟩:=ih (min i k) (HW _ _)
  split
  .rename_i hc
   have hc:f (Q00 (λi j=>decide (f j<f i)) k)<f (k+1):=j8 hc
   refine⟨?_,t6 _⟩
   by_cases hik:i<=k
   .rw[km hik]at h1;omega
   .have:i=k+1:=by omega
    subst this;exact fH _
  .rename_i hc
   have hc:¬ f (Q00 (λi j=>decide (f j<f i)) k)<f (k+1):=λz=>hc (j3 z)
   refine⟨?_,by omega⟩
   by_cases hik:i<=k
   .rw[km hik]at h1;exact h1
   .have:i=k+1:=by omega
    subst this;omega
omit [KK] in
def max_is {m:Int}(b:m∈ns)(a:∀ x∈ns,x<=m):maxL ns=m:=by
 unfold maxL
 rw[List.max?_eq_some_iff.mpr ⟨b,a⟩]
 rfl
omit [KK] in
def getD_mem {ns:zr}{k:Nat}(h:k<↥ns):ns.getD k 0∈ns:=by
 rw[p5,j7 h]
 exact mZ h
omit [KK] in
def getD_at {ns:zr}{k:Nat}(h:k<↥ns):ns.getD k 0=ns[k]:=by
 rw[p5,j7 h]
 rfl
def zgT (J:X.calm=true):vq X (.builtin "max") (λg H Q=>∃ (p:Addr) (ns:zr),g=[.ref p]/\(aN X.K H p (ns.map V.int)\/aM X.K H p (ns.map V.int))/\ns≠[]/\Q (.int (maxL ns)) H):=by
 intro l s σ H g S Q I r h
 obtain⟨p,ns,rfl,L,f,q⟩:=h
 obtain⟨u,rfl,D⟩:=Zj r
 cases D
 refine call_max_walk (seq_walk I (I.ok.hd J) L λF a A w St T c W n e b=>?_)
 have y:=↥c
 rw[u5]at y
 have k:0<↥ns:=List.length_pos_iff.mpr f
 refine⟨F,A,w,_,_,St,λi j=>decide (ns.getD j 0<ns.getD i 0),rfl,W,n,e,by omega,λi j O R s Q E C d G=>?_,λv M o N B=>?_⟩
 .obtain⟨P,rfl⟩:=vals_int c C
  obtain⟨U,rfl⟩:=vals_int c d
  exact Q2g G
 .obtain⟨t,rfl⟩:=vals_int c N
  refine⟨.int (maxL ns),H,b M o B,⟨t,?_⟩,q⟩
  have key:=best_ge (λi=>ns.getD i 0) (↥a-1)
  have z:Q00 (λi j=>decide (ns.getD j 0<ns.getD i 0)) (↥a-1)<↥ns:=by
   have:=(key 0 (cO _)).2
   omega
  rw[max_is (m:=ns.getD (Q00 (λi j=>decide (ns.getD j 0<ns.getD i 0)) (↥a-1)) 0)]
  .exact getD_mem z
  .intro x K
   obtain⟨j,d,rfl⟩:=kW K
   have:=(key j ∅).1
   rw[<-getD_at d]
   exact this
def gA:zl->Option (List Bool)
 |[]=>some []
 |.bl b::ds=>(gA ds).map (b::·)
 |_=>none
def dR:zl->Option zr
 |[]=>some []
 |.int b::ds=>(dR ds).map (b::·)
 |_=>none
omit [KK] in
def Gk:∀ {b:zl} {a:List Bool},gA b≈a->b=a.map .bl
 |[],a,h=>by cases h;rfl
 |d::b,a,h=>by
  cases d <;> try cases h
  obtain⟨e,c,rfl⟩:=u8.mp h
  rw[Gk c]
  rfl
omit [KK] in
def W9:∀ {b:zl} {a:zr},dR b≈a->b=a.map .int
 |[],a,h=>by cases h;rfl
 |d::b,a,h=>by
  cases d <;> try cases h
  obtain⟨e,c,rfl⟩:=u8.mp h
  rw[W9 c]
  rfl
omit [KK] in
def QK (a:List Bool):gA (a.map .bl)≈a:=by
 induction a with
 |nil=>rfl
 |cons b r c=>show(gA (r.map .bl)).map (b::·)=_;rw[c];rfl
omit [KK] in
def Xe (a:zr):dR (a.map .int)≈a:=by
 induction a with
 |nil=>rfl
 |cons b r c=>show(dR (r.map .int)).map (b::·)=_;rw[c];rfl
def ao.of_bls:∀ {ns:List Bool} {a:zD},ao H (ns.map D.bl) a->a=ns.map V.bl
 |[],_,h=>h.nil_inv
 |n::r,_,h=>by
  obtain⟨x,d,rfl,c,b⟩:=ao.cons_inv (by simpa using h)
  rw[c.bl_inv,ao.of_bls b]
  rfl
def lO {α:Type}(a:zl->Option α)(g:α->Option D):x9
 |[d]=>((wW d).bind a).bind g
 |_=>none
def Az {k:zl}{α:Type}{l:zl->Option α}{g:α->Option D}(s:zZ F H)(t:ao F k j)(e:lO l g k≈z) :
 ∃ p f a b,j=[.ref p]/\(aN K H p a\/aM K H p a)/\ao F f a/\l f≈b/\g b≈z:=by
 unfold lO at e
 split at e
 .obtain⟨b,q,h⟩:=u4.mp e
  obtain⟨f,n,i⟩:=u4.mp q
  obtain⟨x,r,rfl,m,o⟩:=t.cons_inv
  cases o.nil_inv
  rename_i d
  cases d <;> cases n
  .obtain⟨p,a,rfl,c,bl⟩:=m.tup_inv
   exact⟨p,_,a,b,rfl,.inr (aM.of (s _ _ c)),bl,i,h⟩
  .obtain⟨p,a,rfl,c,bl⟩:=m.lst_inv
   exact⟨p,_,a,b,rfl,.inl (aN.of (s _ _ c)),bl,i,h⟩
 .cases e
def lN:=lO gA λa=>some (.bl (a.all id))
def oE:=lO gA λa=>some (.bl (a.any id))
def ji:=lO dR λns=>some (.int ns.sum)
def uG:=lO dR λns=>if ns=[]then none else some (.int (maxL ns))
def Nr:dm (λb H Q=>∃ (p:Addr) (a:List Bool),b=[.ref p]/\(aN K H p (a.map V.bl)\/aM K H p (a.map V.bl))/\Q (.bl (a.all id)) H) lN:=by
 intro F H i h z Q s g e q
 obtain⟨p,j,b,a,rfl,c,bl,f,d⟩:=Az (K:=K) s g e
 cases d
 rw[Gk f]at bl
 rw[bl.of_bls]at c
 exact⟨p,a,rfl,c,q F H _ (.refl s) .bl⟩
def zob:dm (λb H Q=>∃ (p:Addr) (a:List Bool),b=[.ref p]/\(aN K H p (a.map V.bl)\/aM K H p (a.map V.bl))/\Q (.bl (a.any id)) H) oE:=by
 intro F H i h z Q s g e q
 obtain⟨p,j,b,a,rfl,c,bl,f,d⟩:=Az (K:=K) s g e
 cases d
 rw[Gk f]at bl
 rw[bl.of_bls]at c
 exact⟨p,a,rfl,c,q F H _ (.refl s) .bl⟩
def O4:dm (λa H Q=>∃ (p:Addr) (ns:zr),a=[.ref p]/\(aN K H p (ns.map V.int)\/aM K H p (ns.map V.int))/\Q (.int ns.sum) H) ji:=by
 intro F H i h z Q s g e q
 obtain⟨p,j,a,c,rfl,b,bl,f,d⟩:=Az (K:=K) s g e
 cases d
 rw[W9 f]at bl
 rw[bl.of_ints]at b
 exact⟨p,c,rfl,b,q F H _ (.refl s) .int⟩
def zka:dm (λc H Q=>∃ (p:Addr) (ns:zr),c=[.ref p]/\(aN K H p (ns.map V.int)\/aM K H p (ns.map V.int))/\ns≠[]/\Q (.int (maxL ns)) H) uG:=by
 intro F H j i z Q s h e q
 obtain⟨p,k,c,f,rfl,d,bl,g,b⟩:=Az (K:=K) s h e
 split at b <;> cases b
 rename_i a
 rw[W9 g]at bl
 rw[bl.of_ints]at d
 exact⟨p,f,rfl,d,a,q F H _ (.refl s) .int⟩
end
end Dl
namespace Dl
open PySem L2
variable [KK]
section
variable {X:Cx}{tg a b c e:Expr}{pos:Pos}
def gB:zl->zl->zl
 |x::xs,y::ys=>.tup [x,y]::gB xs ys
 |_,_=>[]
omit [KK] in
def QJ:∀ (a b:zl) (i:Nat),(gB a b)[i]?=match a[i]?,b[i]? with|some x,some y=>some (.tup [x,y])|_,_=>none
 |[],b,i=>by simp[gB]
 |x::a,[],i=>by simp[gB]
 |x::a,y::b,0=>by simp[gB]
 |x::a,y::b,i+1=>by simpa [gB]using QJ a b i
omit [KK] in
def VC:∀ (a b:zl),↥a<=↥b->(gB a b).length=↥a
 |[],b,_=>by simp[gB]
 |x::a,[],h=>by simp at h
 |x::a,y::b,h=>by simp[gB,VC a b (by simpa using h)]
def K7 (f:yL):yL:=fun ρ=>(f ρ).bind λc=>match c with
 |[d,e]=>(wW d).bind λb=>(wW e).bind λa=>if ↥b<=↥a then some (gB b a)else none
 |_=>none
def Ky (s:zZ F H)(h:At F d v)(e:wW d≈j):∃ b p a,v=.ref p/\(∀ {F' H':Hp},zZ F F'->zZ F' H'->Sq b K H' p a)/\ao F j a:=by
 cases d <;> cases e
 .obtain⟨p,a,rfl,g,i⟩:=h.tup_inv
  exact⟨false,p,a,rfl,λc f=>aM.of (f _ _ (c _ _ g)),i⟩
 .obtain⟨p,a,rfl,g,i⟩:=h.lst_inv
  exact⟨true,p,a,rfl,λc f=>aN.of (f _ _ (c _ _ g)),i⟩
def U6 {k:Nat} {f:yL} (hg:Gl X "zip") (hm:X.mg "zip"=none) (ha:AD X [a,b] f) (hs:Q0c [a,b] X.env=[(false,eval a X.env),(false,eval b X.env)]:=by rfl) (I:Q0c [b] X.env=[(false,eval b X.env)]:=by rfl):ID X (.Tuple es k tp) (.Call (.Name "zip" p) [a,b] [] pos) (K7 f):=by
 obtain⟨t,pa,r⟩:=ha
 refine⟨_,zq7 hg hm zpk pa hs I,fun σ ρ F H ds R s va e q=>?_⟩
 obtain⟨as,e1,o⟩:=u4.mp e
 refine r σ ρ F H as _ s va e1 λF1 H1 v n a1=>?_
 split at o
 .obtain⟨x,r',rfl,ax,N⟩:=a1.cons_inv
  obtain⟨y,r',rfl,ay,N⟩:=N.cons_inv
  cases N.nil_inv
  obtain⟨xs,e3,l⟩:=u4.mp o
  obtain⟨ys,e4,c⟩:=u4.mp l
  clear o l e
  split at c <;> cases c
  rename_i C
  obtain⟨b1,p1,A,rfl,j,Z⟩:=Ky (K:=X.K) n.fh ax e3
  obtain⟨b2,p2,L,rfl,h,bl⟩:=Ky (K:=X.K) n.fh ay e4
  refine⟨b1,b2,p1,p2,A,L,rfl,j (zZ.refl _) n.fh,h (zZ.refl _) n.fh,q F1 H1 _ n λi F2 H2 B J=>?_⟩
  have P:=j B J
  have S:=h B J
  refine⟨λhl=>⟨A,P,by rw[hl,VC _ _ C,↥Z]⟩,λd g=>?_⟩
  rw[QJ]at g
  cases w:xs[i]? with
  |none=>rw[w]at g;cases g
  |some x =>
   cases G:ys[i]? with
   |none=>rw[w,G]at g;cases g
   |some y =>
    rw[w,G]at g
    cases g
    obtain⟨u,Y,au⟩:=Z.get w
    obtain⟨V,m,M⟩:=bl.get G
    refine⟨⟨A,L,u,V,P,S,Y,m⟩,λz H3 hz=>?_⟩
    obtain⟨T,x',y',rfl,hT,rfl,O,Q⟩:=hz
    have U:=O A P
    have W:=Q L S
    rw[Y]at U
    rw[m]at W
    cases U
    cases W
    have E:=Gr.alloc J hT (.tup [u,V])
    exact⟨_,E,.tup zn (.cons (au.mono (B.trans E.ff)) (.cons (M.mono (B.trans E.ff)) .nil))⟩
 .cases o
def Xm (g:fj)(f:yL)(b:Z9)(h:zM):zM:=fun ρ=>match (f (visG ρ)).bind g with
 |some a=>fU b h a ρ
 |none=>.no
def Hu {b:vu} {f:yL} {g:zM} (s:Q1Y (Q0i X.prog X.w) X.A X.env X.xe) (i:X.calm=true) (m:Gl X "range") (I:X.mg "range"=none) (y:AD X [a] f) (K:BD X tg n) (v:bK X b g) (l:Q0c [a] X.env=[(false,eval a X.env)]:=by rfl) (B:∀ x,Q0m (.Call (.Name "range" p) [a] [] pos) X.env x=pure x:=by intro _;rfl):SD X (.For tg (.Call (.Name "range" p) [a] [] pos) b [] d) (Xm Wy f n g):=by
 obtain⟨t,z,r⟩:=y
 obtain⟨G,A,J⟩:=K
 obtain⟨R,u,C⟩:=v
 refine⟨_,Fw s i (Ra m I z l) A u B,λFb Hb F H ρ σ E e k=>?_⟩
 unfold Xm at k
 cases h:(f (visG ρ)).bind Wy with
 |none=>rw[h]at k;exact k.elim
 |some P =>
  rw[h]at k
  obtain⟨o,L,c⟩:=u4.mp h
  refine r σ _ _ H o _ e.gh e.visG L λF1 H1 O N w=>?_
  have j:=e.grow (e.back N).1
  unfold Wy at c
  split at c
  .split at c <;> cases c
   rename_i i
   obtain⟨x,Q,rfl,M,q⟩:=w.cons_inv
   cases q.nil_inv
   exact⟨_,by rw[M.int_inv],(yq.mp i).1,(yq.mp i).2,Fp (Ai 0 _) J C j k⟩
  .cases c
def zjS {c:vu} {f:yL} {g:zM} (w:Q1Y (Q0i X.prog X.w) X.A X.env X.xe) (d:X.calm=true) (q:Gl X "range") (N:X.mg "range"=none) (G:AD X [a,b] f) (P:BD X tg s) (B:bK X c g) (o:Q0c [a,b] X.env=[(false,eval a X.env),(false,eval b X.env)]:=by rfl) (n:Q0c [b] X.env=[(false,eval b X.env)]:=by rfl) (K:∀ x,Q0m (.Call (.Name "range" p) [a,b] [] pos) X.env x=pure x:=by intro _;rfl):SD X (.For tg (.Call (.Name "range" p) [a,b] [] pos) c [] i) (Xm cT f s g):=by
 obtain⟨t,I,r⟩:=G
 obtain⟨M,J,O⟩:=P
 obtain⟨V,z,L⟩:=B
 refine⟨_,Fw w d (RC q N I o n) J z K,λFb Hb F H ρ σ E j k=>?_⟩
 unfold Xm at k
 cases h:(f (visG ρ)).bind cT with
 |none=>rw[h]at k;exact k.elim
 |some U =>
  rw[h]at k
  obtain⟨v,Q,e⟩:=u4.mp h
  refine r σ _ _ H v _ j.gh j.visG Q λF1 H1 T S C=>?_
  have l:=j.grow (j.back S).1
  unfold cT at e
  split at e
  .split at e <;> cases e
   rename_i d
   obtain⟨x,A,rfl,R,m⟩:=C.cons_inv
   obtain⟨y,A,rfl,u,m⟩:=m.cons_inv
   cases m.nil_inv
   exact⟨_,_,by rw[R.int_inv,u.int_inv],⟨(yq.mp d.1).1,(yq.mp d.1).2,(yq.mp d.2).1,(yq.mp d.2).2⟩,Fp (Ai _ _) O L l k⟩
  .cases e
end
def zm8 {w:Q0k}{f:Addr}{g:zF}{k:Nat}:wt P w K d a aV k f c g (cH m λ_=>none):=by
 refine⟨λb H Q E h=>?_,λA outer s H args i b Q E _ _ _ _ h=>?_⟩
 .obtain⟨_,_,_,_,_,_,e,_⟩:=h
  cases e
 .obtain⟨_,_,_,_,_,_,e,_⟩:=h
  cases e
def oM (n:Nat)(g:x9->SE->aP):Nat->zl->Option D
 |0=>λ_=>none
 |k+1=>aK n (g (oM n g k))
def Uy {w:Q0k}{f:Addr}{N d:zF}{k0:Nat}{g:x9->SE->aP}(Fu:cg K x a c f e)(S:yZ N d (zo c))(i:∀ (k:Nat) (r:x9),wt P w K mg base aV (k0+k) f e d (cH ↥d r)->∀ (b:Q0e) (A:zP) (outer:List Env) (s:zm) (H:Hp) (E:XK),xH (k0+k) (A.deeper (Q0p a (zo c) ⇑s f b))->bK (ZR aV P w K mg base N a (zo c) f b A outer s H E).nox (ym c) (g r)) :
 ∀ n,wt P w K mg base aV (k0+n) f e d (cH ↥d (oM ↥N g n)):=by
 intro n
 induction n with
 |zero=>exact zm8
 |succ n j=>exact Zh Fu S λb A outer s H E h=>i n _ j b A outer s H E h
def pM (K:zA):Sp:=λb H Q _=>∃ (a:Addr) (ns:zr),b=[.ref a]/\aN K H a (ns.map V.int)/\↥ns<=63/\∀ H',Q (.bl true) H'
end Dl
namespace Dl
open PySem L2
def zqh {w:Q0k}{f:Addr}{k:Nat}{p:x9}(F:wt P w K e b aV k f c ps (@cH ⟨K,d⟩ 1 p))(h:∀ ns:zr,↥ns<=63->p [.scr ns]≈(.bl true)) :
 wt P w K e b aV k f c ps (pM K):=by
 letI:KK:=⟨K,d⟩
 refine F.imp λm H Q E i=>?_
 obtain⟨a,ns,rfl,l,g,q⟩:=i
 refine⟨[.scr ns],.bl true,H,rfl,zZ.refl _,.cons ?_ .nil,h ns g,λF' H' v _ j=>?_⟩
 .unfold At
  exact⟨a,rfl,l⟩
 .rw[j.bl_inv]
  exact q H'
structure jG (K:zA) (mg:wA) (x:Str) (st:Stmt) (ps:zF) (f:Addr) (fd:vv):Prop where
 fn:cg K x x st f fd
 bd:vf K fd ps []
 at_:mg x≈(.ref f)
def jG.kp {f:Addr}(d:jG K b x a c f e):Q0H K (.ref f)=true:=d.fn.kp
inductive aP.w:aP->vl->vl->vl->(D->Prop)->Prop where
 |nx {ρ:SE} {n b k:vl} {r:D->Prop}:n ρ->aP.w (.nx ρ) n b k r
 |bk {ρ:SE} {n b k:vl} {r:D->Prop}:b ρ->aP.w (.bk ρ) n b k r
 |ct {ρ:SE} {n b k:vl} {r:D->Prop}:k ρ->aP.w (.ct ρ) n b k r
 |rt {d:D} {n b k:vl} {r:D->Prop}:r d->aP.w (.rt d) n b k r
section
variable {ρ:SE}{d:D}{n b k:vl}{r:D->Prop}
def aP.w.nxi (h:aP.w (.nx ρ) n b k r):n ρ:=by cases h;assumption
def aP.w.bki (h:aP.w (.bk ρ) n b k r):b ρ:=by cases h;assumption
def aP.w.cti (h:aP.w (.ct ρ) n b k r):k ρ:=by cases h;assumption
def aP.w.rti (h:aP.w (.rt d) n b k r):r d:=by cases h;assumption
def aP.w.noi (h:aP.w .no n b k r):False:=by cases h
end
abbrev bO:vl:=λ_=>False
section
variable {g h:zM}{ρ ρ':SE}{n b k:vl}{r:D->Prop}
def yE (e:(g ρ).w (fun ρ'=>(h ρ').w n b k r) b k r):(zG g h ρ).w n b k r:=by
 unfold zG
 cases a:g ρ with
 |nx ρ'=>rw[a]at e;exact e.nxi
 |bk ρ'=>rw[a]at e;exact .bk e.bki
 |ct ρ'=>rw[a]at e;exact .ct e.cti
 |rt d=>rw[a]at e;exact .rt e.rti
 |no=>rw[a]at e;exact e.noi.elim
def zu (e:g ρ=.nx ρ')(q:(h ρ').w n b k r):(zG g h ρ).w n b k r:=yE (by rw[e];exact .nx q)
def vE (e:g ρ=.nx ρ')(q:n ρ'):(g ρ).w n b k r:=by rw[e];exact .nx q
def wz (e:g ρ=.rt d)(q:r d):(g ρ).w n b k r:=by rw[e];exact .rt q
def ZQ {t:vL}(e:t (visG ρ)≈c)(d:c=true->(g ρ).w n b k r)(a:c=false->(h ρ).w n b k r):(aH t g h ρ).w n b k r:=by
 unfold aH
 rw[e]
 cases c with
 |true=>exact d rfl
 |false=>exact a rfl
def gw (e:uc ρ i=ρ')(q:(g ρ').w n b k r):(dX i g ρ).w n b k r:=by
 unfold dX
 rw[e]
 exact q
theorem Ge {l:Z9}(I:Nat->SE->Prop):∀ (c:zl) (j:Nat) (ρ:SE),I j ρ ->
 (∀ i d ρ,c[i]?≈d->I (j+i) ρ->∃ f,l d ρ≈f/\(g f).w (I (j+i+1)) n (I (j+i+1)) r)->(∀ ρ,I (j+↥c) ρ->n ρ)->(fU l g c ρ).w n b k r
 |[],j,ρ,h0,_,fin=>.nx (fin ρ h0)
 |d::c,j,ρ,h0,step,fin=>by
  obtain⟨f,q,a⟩:=step 0 d ρ rfl h0
  unfold fU
  rw[q]
  dsimp only
  have next:∀ ρ',I (j+1) ρ'->(fU l g c ρ').w n b k r:=fun ρ' p=>Ge I c (j+1) ρ' p
   (λi m ρ o h=>by
    have:=step (i+1) m ρ (by simpa using o) (by rw[show j+(i+1)=j+1+i by omega];exact h)
    rwa[show j+(i+1)+1=j+1+i+1 by omega]at this)
   (fun ρ h=>fin ρ (by rw[g5,show j+(↥c+1)=j+1+↥c by omega];exact h))
  cases e:g f with
  |nx ρ'=>rw[e]at a;exact next ρ' a.nxi
  |ct ρ'=>rw[e]at a;exact next ρ' a.cti
  |bk ρ'=>rw[e]at a;exact .nx a.bki
  |rt m=>rw[e]at a;exact .rt a.rti
  |no=>rw[e]at a;exact a.noi.elim
def Xn {f:yL}{c:Z9}{ds:zl}(I:Nat->SE->Prop)(e:f (visF ρ)≈ds)(h0:I 0 ρ)
 (step:∀ i d ρ,ds[i]?≈d->I i ρ->∃ h,c d ρ≈h/\(g h).w (I (i+1)) n (I (i+1)) r) (fin:∀ ρ,I ↥ds ρ->n ρ):(cA f c g ρ).w n b k r:=by
 unfold cA
 rw[e]
 exact Ge I ds 0 ρ h0 (λi d ρ j a=>by rw[i3]at a ⊢;exact step i d ρ j a) (fun ρ a=>fin ρ (by rw[i3]at a;exact a))
def Ve {f:yL}{m:Z9}(I:Nat->SE->Prop)(e:(f (visG ρ)).bind l≈(ZS lo c))(h0:I 0 ρ)(step:∀ (i:Nat) ρ,i<c->I i ρ->∃ o,m (.int (lo+i)) ρ≈o/\(g o).w (I (i+1)) n (I (i+1)) r)(fin:∀ ρ,I c ρ->n ρ):(Xm l f m g ρ).w n b k r:=by
 unfold Xm
 rw[e]
 refine Ge I (ZS lo c) 0 ρ h0 (λi d ρ a h=>?_) (fun ρ h=>fin ρ ?_)
 .rw[i3]at h ⊢
  unfold ZS at a
  rw[q4]at a
  by_cases j:i<c
  .rw[Cv j]at a
   cases a
   exact step i ρ j h
  .rw[kh (by simpa using j)]at a
   cases a
 .rw[i3]at h
  rwa[show(ZS lo c).length=c by unfold ZS;simp]at h
def Lx {e g f:vl}{a:D->Prop}{c:aP}(q:c.w n b k r)(i:∀ ρ,n ρ->e ρ)(h:∀ ρ,b ρ->g ρ)(l:∀ ρ,k ρ->f ρ)(j:∀ d,r d->a d):c.w e g f a:=by
 cases q with
 |nx q=>exact .nx (i _ q)
 |bk q=>exact .bk (h _ q)
 |ct q=>exact .ct (l _ q)
 |rt q=>exact .rt (j _ q)
def W6 {t:vL}(I:vl)(μ:SE->Nat)(step:∀ ρ,I ρ->∃ c,t (visG ρ)≈c/\(c=true->(g ρ).w (fun ρ'=>I ρ'/\μ ρ'<μ ρ) n (fun ρ'=>I ρ'/\μ ρ'<μ ρ) r)/\(c=false->n ρ)):∀ (a:Nat) (ρ:SE),I ρ->μ ρ<a->(Yu t g a ρ).w n b k r
 |0,ρ,_,hf=>by omega
 |a+1,ρ,hI,hf=>by
  obtain⟨c,e,h,f⟩:=step ρ hI
  unfold Yu
  rw[e]
  cases c with
  |false=>exact .nx (f rfl)
  |true =>
   have q:=h rfl
   dsimp only
   cases d:g ρ with
   |nx ρ'=>rw[d]at q;exact W6 I μ step a ρ' q.nxi.1 (by have:=q.nxi.2;omega)
   |ct ρ'=>rw[d]at q;exact W6 I μ step a ρ' q.cti.1 (by have:=q.cti.2;omega)
   |bk ρ'=>rw[d]at q;exact .nx q.bki
   |rt i=>rw[d]at q;exact .rt q.rti
   |no=>rw[d]at q;exact q.noi.elim
end
def w4 {m:Nat}{g:zM}{ds:zl}(e:ds.map .v++Q0a (m-↥ds) .no=ρ)(q:(g ρ).w (λ_=>d=.non) bO bO (λb=>b=d)):aK m g ds≈d:=by
 unfold aK
 rw[e]
 cases a:g ρ with
 |nx c=>rw[a]at q;rw[show d=.non from q.nxi]
 |rt b=>rw[a]at q;rw[show b=d from q.rti]
 |bk _=>rw[a]at q;exact q.bki.elim
 |ct _=>rw[a]at q;exact q.cti.elim
 |no=>rw[a]at q;exact q.noi.elim
def qi {i:Nat}{f:zW}{ρ:SE}{ds:zl}(b:bF m f ρ≈d)(a:ρ[i]?≈(.o ds))(e:↥ds<=1000):dh m i f ρ=.nx (ρ.set i (.o (ds++[d]))):=by
 unfold dh
 rw[b,a]
 show(match (if decide (↥ds<sizeLine) then some (ρ.set i (.o (ds++[d])))else none)with|some c=>aP.nx c|none=>aP.no)=_
 rw[t5 (j3 (vm e))]
def wM {b:jl}{t:vL}{f:zW}{α:Type}(c:α->D)(y:α->D):∀ (a:List α),(∀ x∈a,∃ own,b (c x)≈own/\t (own++ρ)≈true/\f (own++ρ)≈(y x))->dG b t f ρ (a.map c)≈(a.map y)
 |[],_=>rfl
 |x::a,h=>by
  obtain⟨own,g,e,d⟩:=h x o5
  show dG b t f ρ (c x::a.map c)=_
  unfold dG
  rw[g]
  simp only[q7,e,dD,d,wM c y a λz i=>h z (r6 _ i)]
  rfl
def xJ {b:jl}{t:vL}{f:zW}{α:Type}(c:α->D)(p:α->Bool)(y:α->D):∀ (a:List α),(∀ x∈a,∃ own,b (c x)≈own/\t (own++ρ)≈(p x)/\(p x=true->f (own++ρ)≈(y x)))->dG b t f ρ (a.map c)≈((a.filter p).map y)
 |[],_=>rfl
 |x::a,h=>by
  obtain⟨own,i,g,k⟩:=h x o5
  have e:=xJ c p y a λz j=>h z (r6 _ j)
  show dG b t f ρ (c x::a.map c)=_
  unfold dG
  rw[i]
  simp only[q7,g]
  cases d:p x with
  |false =>
   rw[j5 u7,e,List.filter_cons,j5 (by rw[d];exact u7)]
  |true =>
   rw[t5 rfl,k d,e,List.filter_cons,t5 d]
   rfl
mutual
def bu:D->Bool
 |.tup ds=>gn ds
 |.lst ds=>gn ds
 |.scr _=>false
 |.obj _ _ _=>false
 |_=>true
def gn:zl->Bool
 |[]=>true
 |d::ds=>bu d&&gn ds
end
def Yk:∀ {ds:zl} {i:Nat} {d:D},gn ds=true->ds[i]?≈d->bu d=true
 |[],_,_,_,h=>by simp at h
 |d::ds,i,e,h,he=>by
  unfold gn at h
  rw[k9]at h
  cases i with
  |zero=>simp at he;subst he;exact h.1
  |succ i=>exact Yk h.2 (by simpa using he)
def yV {n:Nat}(h:n<=1000):aU n=true:=by
 unfold aU
 exact j3 (i7 (vm h))
def v8 (a:Int)(n:Nat):(ZS a n).length=n:=by unfold ZS;simp
end Dl
namespace Dl
open PySem L2
abbrev Pr:=Int × Int
def gj (t:Pr):D:=.tup [.int t.1,.int t.2]
def tL:D->Option Pr
 |.tup [.int a,.int b]=>some (a,b)
 |_=>none
def iu:zl->Option (List Pr)
 |[]=>some []
 |d::ds=>(tL d).bind λt=>(iu ds).map (t::·)
def zof {t:Pr}(h:tL d≈t):d=gj t:=by
 unfold tL at h
 split at h
 .cases h;rfl
 .cases h
def QG:∀ {b:zl} {a:List Pr},iu b≈a->b=a.map gj
 |[],a,h=>by cases h;rfl
 |d::b,a,h=>by
  unfold iu at h
  obtain⟨t,e,c⟩:=u4.mp h
  obtain⟨g,f,rfl⟩:=u8.mp c
  rw[zof e,QG f]
  rfl
def QS (a:List Pr):iu (a.map gj)≈a:=by
 induction a with
 |nil=>rfl
 |cons t a b =>
  show(tL (gj t)).bind (λu=>(iu (a.map gj)).map (u::·))=_
  rw[b]
  rfl
def lL (a b:Pr):Bool:=!OwnSort.bltP b a
def V0 (a:List Pr):List Pr:=a.mergeSort lL
def sG (a b:Int):Bool:=decide (a<=b)
def uy (ns:zr):zr:=ns.mergeSort sG
def R4:OwnSort.bltP b a=false↔lL a b=true:=by unfold lL;simp
def vF:lL a b=true↔a.1<b.1\/(a.1=b.1/\a.2<=b.2):=by
 rw[<-R4]
 unfold OwnSort.bltP
 rw[h8]
 omega
def zgk {g d:List Pr}(p:d.Perm g)(h:d.Pairwise λa b=>OwnSort.bltP b a=false):d=V0 g:=by
 refine Jm (le:=λa b=>lL a b=true) (λa b _ _ f e=>?_) (h.imp λx=>R4.mp x) ?_ (p.trans (Jb _ _).symm)
 .rw[vF]at f e
  exact gD ∅ ∅
 .exact Jk (λa b c f e=>by rw[vF]at *;omega) (λa b=>by rw[HS,vF,vF];omega) _
def zfT {g f:zr}(p:f.Perm g)(h:f.Pairwise (·<=·)):f=uy g:=by
 refine Jm (le:=λa b=>sG a b=true) (λa b _ _ e d=>?_) (h.imp λx=>j3 x) ?_ (p.trans (Jb _ _).symm)
 .unfold sG at e d
  rw[k7]at e d
  omega
 .exact Jk (λa b c e d=>by unfold sG at *;rw[k7]at *;omega) (λa b=>by unfold sG;rw[HS,k7,k7];omega) _
def jR:fj
 |[.lst ds]=>if ↥ds<64 then match iu ds with
  |some a=>some ((V0 a).map gj)
  |none=>match dR ds with
   |some ns=>some ((uy ns).map .int)
   |none=>none
  else none
 |_=>none
variable [KK]
section
variable {X:Cx}{e:Expr}{pos:Pos}
def At.pr_inv {F:Hp}{t:Pr}(h:At F (gj t) v):∃ a,v=.ref a/\F a≈(.tup [.int t.1,.int t.2]):=by
 obtain⟨a,f,rfl,c,b⟩:=h.tup_inv
 obtain⟨x,r,rfl,e,b⟩:=b.cons_inv
 obtain⟨y,r,rfl,d,b⟩:=b.cons_inv
 cases b.nil_inv
 cases e.int_inv
 cases d.int_inv
 exact⟨a,rfl,c⟩
def zcf (hc:X.calm=true):vq X (.builtin "sorted") (λxs H Q=>∃ F p ys ds y,xs=[.ref p]/\zZ F H/\H p≈(.lst ys)/\ao F ds ys/\jR [.lst ds]≈y/\∀ l zs,H l=none->ao F y zs->Q (.ref l) (aA H l (.lst zs))):=by
 intro R s σ H xs us Q I r h
 obtain⟨F,p,ys,ds,y,rfl,sm,hp,al,C,q⟩:=h
 obtain⟨u,rfl,ru⟩:=Zj r
 cases ru
 obtain⟨c,Z,pl,hz⟩:=I.list (aN.of hp)
 have k:↥c=↥ds:=by rw[<-↥Z,↥al]
 unfold jR at C
 dsimp only at C
 split at C <;> try cases C
 rename_i P
 have fin:∀ (zs:zD) (e:zC),↥zs<64->yy zs e->ao F y zs->EP X R σ Q (.ref (⇑s+1)) { s with heap:=PyProof.Rows.sortedAll s.heap c e.toArray }:=λzs e m rz az=>by
  have hn:H (⇑s+1)=none:=I.hok.fresh (eX _)
  obtain⟨ep,he⟩:=PyProof.Rows.sortedAll_at s.heap c e.toArray
  refine⟨.ref (⇑s+1),aA H (⇑s+1) (.lst zs),I.laid (t':=s.toks) (λb o z=>PyProof.Rows.sortedAll_old z) (eX _) ?_,rfl,q _ zs hn az⟩
  exact⟨i7 (vm ∅),e,ep,rz,he⟩
 split at C
 .rename_i L a0
  cases C
  have G:=QG a0
  subst G
  have B:∀ {v:Q0e},v∈c->∃ a t,v=.ref a/\t∈L/\F a≈(.tup [.int t.1,.int t.2])/\OwnSort.TP s.heap v t:=λ{v} W=>by
   obtain⟨j,hj,rfl⟩:=kW W
   have T:j<↥L:=by rw[u5]at k;omega
   obtain⟨x,hx,ax⟩:=al.get (i:=j) (d:=gj L[j]) (by rw[q4];simp[T])
   obtain⟨a,rfl,O⟩:=ax.pr_inv
   obtain⟨v,W,E⟩:=Z.get hx
   have e1:c[j]?≈c[j]:=by simp[hj]
   rw[W]at e1
   cases e1
   have e2:c[j]=.ref a:=E
   refine⟨a,L[j],e2,mZ T,O,?_⟩
   obtain⟨us,ru,⟨o,ho,K,n,hd⟩,_⟩:=I.tuple (aM.of (sm _ _ O))
   obtain⟨u1,u2,rfl,r1,r2⟩:=lZ ru
   obtain⟨t1,rfl⟩:=r1
   obtain⟨t2,rfl⟩:=r2
   exact⟨a,o,n,t1,t2,e2,ho,K,hd⟩
  refine OwnSort.own_sorted pl.isList (λv W=>let ⟨a,t,_,_,_,J⟩:=B W;⟨t,J⟩) ∅ λM pm ri=>?_
  obtain⟨us,l1,l2,l3⟩:=ri
  have a6:M.toList.length=↥L:=by rw[pm.length_eq,k,u5]
  -- the values' addresses
  have S:∀ (e:zC) (f:List Pr),↥e=↥f->(∀ w∈e,w∈c)->(∀ (i:Nat) v t,e[i]?≈v->f[i]?≈t->OwnSort.TP s.heap v t)->∃ zs:zD,yy zs e/\ao F (f.map gj) zs:=by
   intro e
   induction e with
   |nil =>
    intro f m _ _
    cases f with
    |nil=>exact⟨[],.nil,.nil⟩
    |cons _ _=>simp at m
   |cons w e ih =>
    intro f m hm J
    cases f with
    |nil=>simp at m
    |cons t f =>
     obtain⟨zs,N,Y⟩:=ih f (by simpa using m) (λw' a1=>hm w' (r6 _ a1)) (λi v t D A=>J (i+1) v t (by simpa using D) (by simpa using A))
     obtain⟨a,t',rfl,_,O,a3⟩:=B (hm w o5)
     have et:t'=t:=a3.uniq (J 0 _ t rfl rfl)
     subst et
     exact⟨.ref a::zs,.cons rfl N,.cons (.tup O (.cons .int (.cons .int .nil))) Y⟩
  obtain⟨zs,N,Y⟩:=S M.toList us l1 (λw hw=>pm.mem_iff.mp hw) l2
  have g:us.Perm L:=by
   -- by the keys of the values
   have kv:∀ (e:zC) (f:List Pr),↥e=↥f->(∀ (i:Nat) v t,e[i]?≈v->f[i]?≈t->OwnSort.TP s.heap v t)->f=e.map λv=>(OwnSort.keyP s.heap v).getD (0,0):=by
    intro e
    induction e with
    |nil=>intro f m _;cases f with
     |nil=>rfl
     |cons _ _=>simp at m
    |cons w e ih =>
     intro f m J
     cases f with
     |nil=>simp at m
     |cons t f =>
      rw[n0,OwnSort.keyP_of (J 0 w t rfl rfl),<- ih f (by simpa using m) λi v t D A=>J (i+1) v t (by simpa using D) (by simpa using A)]
      rfl
   rw[kv _ _ l1 l2,kv c L (by rw[k,u5]) λi v t D A=>?_]
   .exact pm.map _
   .obtain⟨x,hx,ax⟩:=al.get (i:=i) (d:=gj t) (by rw[q4,A];rfl)
    obtain⟨a,rfl,O⟩:=ax.pr_inv
    obtain⟨v',U,E⟩:=Z.get hx
    rw[D]at U
    cases U
    obtain⟨a7,a2,⟨o,ho,K,n,hd⟩,_⟩:=I.tuple (aM.of (sm _ _ O))
    obtain⟨u1,u2,rfl,r1,r2⟩:=lZ a2
    obtain⟨t1,rfl⟩:=r1
    obtain⟨t2,rfl⟩:=r2
    exact⟨a,o,n,t1,t2,E,ho,K,hd⟩
  have e3:=zgk g l3
  rw[e3]at Y
  have:=fin zs M.toList (by rw[↥N];rw[u5]at P;omega) N Y
  simpa using this
 .split at C <;> try cases C
  rename_i ns a4
  have G:=W9 a4
  subst G
  have hI:PyProof.Rows.IntsAre c ns:=vY (by rw[<-al.of_ints];exact Z)
  refine PyProof.Rows.sorted_ints pl.isList hI ∅ λM a5 D A h3=>?_
  have e3:=zfT A h3
  subst e3
  have N:yy ((uy ns).map V.int) M.toList:=QQ D
  have:=fin ((uy ns).map V.int) M.toList (by rw[u5,A.length_eq];rw[u5]at P;omega) N (.ints _)
  simpa using this
def zhR {f:yL} (y:X.calm=true) (g:Gl X "sorted") (C:X.mg "sorted"=none) (o:AD X [e] f) (v:Q0c [e] X.env=(false,eval e X.env)::Q0c [] X.env:=by rfl) (d:(Q0v pos (Q0c [] X.env)).any (·.1)=false:=by rfl):FL X (.Call (.Name "sorted" p) [e] [] pos) (gK jR f):=by
 obtain⟨t,u,i⟩:=o
 refine⟨_,yn (zcf y) g C QX u ⋯ ⋯ v d,fun σ ρ F H z Q s j e q=>?_⟩
 obtain⟨k,G,h⟩:=u4.mp e
 refine i σ ρ F H k _ s j G λF1 H1 I b n=>?_
 have a:=h
 unfold jR at a
 split at a
 .obtain⟨x,r,rfl,E,m⟩:=n.cons_inv
  cases m.nil_inv
  obtain⟨p,w,rfl,A,bl⟩:=E.lst_inv
  exact⟨F1,p,w,_,z,rfl,b.fh,b.fh _ _ A,bl,h,λl zs c B=>q _ _ _ _ (b.trans (Gr.hide b.fh c _)) (iz b c) (b.fh.free c) zn B⟩
 .cases a
end
end Dl
namespace Dl
open PySem L2
variable [KK]
def DX (m:Nat)(p:fj):Sp:=λd H Q _=>∃ a b F,↥a=m/\zZ F H/\ao F a d/\p a≈b/\∀ F' H' q c,Gr F H F' H'->H q=none->F' q=none->H' q≈(.lst c)->ao F' b c->Q (.ref q) H'
def sZ (X:Cx)(a:vu)(g:zM)(i:Nat):Prop:=∃ t,bH X a t/\∀ (Fb Hb F H:Hp) (ρ:SE) (σ:St) (E:cj),Rl Fb Hb F H ρ σ->∀ (b:SE) (c:zl),g ρ=.nx b->b[i]?≈(.o c) ->
 (∀ F' H' q d,Gr Fb Hb F' H'->Hb q=none->F' q=none->H' q≈(.lst d)->ao F' c d->E.rt (.ref q) H')->t E σ H
section
variable {X:Cx}{st:Stmt}{sts:vu}{a e:Expr}{pos:Pos}
def zn0 (h:PE X e (Wd i)):sZ X [.Return (some e) pos] zL i:=by
 refine⟨_,Yf (XY h),λFb Hb F H ρ σ E a o l j b k=>?_⟩
 cases j
 obtain⟨p,n,g,f,d,m,c⟩:=a.owns i l b
 exact⟨_,g,k F H p n a.gr f d m c⟩
def PQ {g:zM}(q:SD X st g)(o:sZ X sts h i):sZ X (st::sts) (zG g h) i:=by
 obtain⟨t,p,r⟩:=q
 obtain⟨u,c,l⟩:=o
 refine⟨_,xy p c,λFb Hb F H ρ σ E f n s a j k=>?_⟩
 refine r Fb Hb F H ρ σ { E with nx:=u E } f ?_
 unfold zG at a
 cases e:g ρ with
 |nx v =>
  rw[e]at a
  exact λF' H' m b=>l Fb Hb F' H' v m E b n s a j k
 |rt d=>rw[e]at a;cases a
 |bk d=>rw[e]at a;cases a
 |ct d=>rw[e]at a;cases a
 |no=>rw[e]at a;cases a
end
noncomputable def oZ (n:Nat)(g:zM)(i:Nat)(a:zl):Option zl:=match g (a.map .v++Q0a (n-↥a) .no) with
 |.nx ρ=>match ρ[i]? with
  |some (.o es)=>some es
  |_=>none
 |_=>none
def zq1 {w:Q0k}{f:Addr}{N ps:zF}{k:Nat}{g:zM}(Fu:cg K x b n f B)(S:yZ N ps (zo n))(M:∀ (c:Q0e) (A:zP) (outer:List Env) (s:zm) (H:Hp) (E:XK),xH k (A.deeper (Q0p b (zo n) ⇑s f c))->sZ (ZR aV P w K C j N b (zo n) f c A outer s H E).nox (ym n) g i) :
 wt P w K C j aV (k+1) f B ps (DX ↥ps (oZ ↥N g i)):=by
 refine Fu.ok S (λI H Q E h=>?_) λc A outer s H I Q E V h=>?_
 .obtain⟨u,d,F,z,_,a,_⟩:=h
  rw[↥a];exact z
 .obtain⟨u,W,F,z,U,a,e,q⟩:=h
  obtain⟨t,p,r⟩:=M c A outer s H E V
  unfold oZ at e
  cases l:g (u.map .v++Q0a (↥N-↥u) .no) with
  |nx ρ =>
   rw[l]at e
   dsimp only at e
   cases y:ρ[i]? with
   |none=>rw[y]at e;cases e
   |some R =>
    rw[y]at e
    cases R with
    |no=>cases e
    |v _=>cases e
    |m _ _ _=>cases e
    |k _ _ _=>cases e
    |o D =>
     cases e
     exact⟨t,p,r F H F H _ _ _ (WQ U a) ρ W l y λF' H' J O g h0 G L T=>q F' H' J O g h0 G L T⟩
  |rt X=>rw[l]at e;cases e
  |bk ρ=>rw[l]at e;cases e
  |ct ρ=>rw[l]at e;cases e
  |no=>rw[l]at e;cases e
def zqq {w:Q0k}{f:Addr}{k:Nat}{p:fj}(F:wt P w K j a aV k f i l (DX m p)):wt P w K j a aV k f i l (cH m λc=>(p c).map .lst) :=
 F.imp λA H Q E ⟨c,d,F',s,r,o,n,v⟩=>by
  obtain⟨z,y,rfl⟩:=u8.mp n
  exact⟨c,z,F',s,r,o,y,λF2 H2 q B g h0 h t x=>v _ _ _ (g.show h0 h t) (At.lst zn (x.mono (λb u e=>by rw[zj (zf e h)];exact e)))⟩
omit [KK] in
def zqy {m:Nat}{g:zM}{i:Nat}{c f:zl}(e:c.map .v++Q0a (m-↥c) .no=ρ)(q:(g ρ).w (λb=>b[i]?≈(.o f)) bO bO (λ_=>False)):oZ m g i c≈f:=by
 unfold oZ
 rw[e]
 cases a:g ρ with
 |nx b=>rw[a]at q;dsimp only;rw[q.nxi]
 |bk b=>rw[a]at q;exact q.bki.elim
 |ct b=>rw[a]at q;exact q.cti.elim
 |rt d=>rw[a]at q;exact q.rti.elim
 |no=>rw[a]at q;exact q.noi.elim
end Dl
namespace Dl
open PySem L2
variable [KK]
section
variable {X:Cx}{a b:Expr}{pos:Pos}
def Xd {a:vu}:bK X a bV:=⟨_,zh7,λ_ _ _ _ _ _ _ _ h=>h.elim⟩
end
end Dl
namespace Dl
open PySem L2
variable [KK]
section
variable {X:Cx}{a e:Expr}
def ZV (m:xD)(f:zW)(g:yL):zW:=fun ρ=>(f ρ).bind λc=>(g ρ).bind λa=>match a with
 |[d]=>m c d
 |_=>none
end
end Dl
namespace Dl
open PySem L2
def DN:D->Option aJ
 |.int i=>some (.inl i)
 |.str x=>some (.inr x)
 |_=>none
def mj:zl->Option (List aJ)
 |[]=>some []
 |d::ds=>(DN d).bind λk=>(mj ds).map (k::·)
def eG:D->Option (List aJ)
 |.tup a=>mj a
 |_=>none
def jM (t:Bool)(d:D):Option (List aJ):=if t then eG d else (DN d).map ([·])
def sI:Int->Int->Bool
 |.ofNat a,.ofNat b=>Nat.beq a b
 |.negSucc a,.negSucc b=>Nat.beq a b
 |_,_=>false
def Qa:sI a b=true↔a=b:=by
 cases a with
 |ofNat a=>cases b with
  |ofNat b=>exact⟨λh=>(by rw[Nat.eq_of_beq_eq_true h]),λh=>(by cases h;exact Nat.beq_refl a)⟩
  |negSucc b=>exact⟨λh=>(by cases h),λh=>(by cases h)⟩
 |negSucc a=>cases b with
  |ofNat b=>exact⟨λh=>(by cases h),λh=>(by cases h)⟩
  |negSucc b=>exact⟨λh=>(by rw[Nat.eq_of_beq_eq_true h]),λh=>(by cases h;exact Nat.beq_refl a)⟩
def uN:aJ->aJ->Bool
 |.inl i,.inl j=>sI i j
 |.inr a,.inr b=>decide (a=b)
 |_,_=>false
def tO:List aJ->List aJ->Bool
 |[],[]=>true
 |a::r,b::s=>match uN a b with
  |true=>tO r s
  |false=>false
 |_,_=>false
def QW:uN a b=true↔a=b:=by
 cases a with
 |inl i=>cases b with
  |inl j=>exact⟨λh=>(by rw[Qa.mp h]),λh=>(by cases h;exact Qa.mpr rfl)⟩
  |inr b=>exact⟨λh=>(by cases h),λh=>(by cases h)⟩
 |inr i=>cases b with
  |inl j=>exact⟨λh=>(by cases h),λh=>(by cases h)⟩
  |inr b=>exact⟨λh=>(by rw[j8 h]),λh=>(by cases h;exact j3 rfl)⟩
def QB:tO x y=true↔x=y:=by
 induction x generalizing y with
 |nil=>cases y with
  |nil=>exact⟨λ_=>rfl,λ_=>rfl⟩
  |cons b s=>exact⟨λh=>(by cases h),λh=>(by cases h)⟩
 |cons a r c=>cases y with
  |nil=>exact⟨λh=>(by cases h),λh=>(by cases h)⟩
  |cons b s =>
   show(match uN a b with|true=>tO r s|false=>false)=true↔_
   cases h:uN a b with
   |true=>rw[QW.mp h];exact c.trans ⟨λh=>(by rw[h]),λh=>(by cases h;rfl)⟩
   |false=>exact⟨λh=>(by cases h),λe=>(by cases e;rw[QW.mpr rfl]at h;cases h)⟩
def pW (x y:List aJ):Decidable (x=y):=match h:tO x y with
 |true=>.isTrue (QB.mp h)
 |false=>.isFalse λe=>by rw[QB.mpr e]at h;cases h
def ZN:List (List aJ)->zl->List aJ->Option D
 |k'::ks,v::vs,k=>@ite _ (k'=k) (pW k' k) (some v) (ZN ks vs k)
 |_,_,_=>none
def lM:List (List aJ)->zl->List aJ->D->zl
 |k'::ks,v::vs,k,d=>(@ite _ (k'=k) (pW k' k) d v)::lM ks vs k d
 |_,_,_,_=>[]
def iy (a:List (List aJ))(b:zl)(k:List aJ):List (List aJ):=if (ZN a b k).isSome then a else a++[k]
def iC (b:List (List aJ))(a:zl)(k:List aJ)(d:D):zl:=if (ZN b a k).isSome then lM b a k d else a++[d]
def Xa {k:List aJ}:ZN (a::c) (v::b) k=if a=k then some v else ZN c b k:=by
 show @ite _ (a=k) (pW a k) (some v) (ZN c b k)=_
 by_cases h:a=k
 .rw[t5 h,t5 h]
 .rw[j5 h,j5 h]
section
variable [KK]
def GQ {k:aJ}(h:DN d≈k)(a:At F d y):y=kV k:=by
 cases d with
 |int i=>cases h;exact a.int_inv
 |str x=>cases h;exact a.str_inv
 |_=>cases h
def P0:∀ {b:zl} {e:List aJ} {c:zD},mj b≈e->ao F b c->c=e.map kV
 |[],_,_,h,a=>by cases h;exact a.nil_inv
 |d::b,_,_,h,a=>by
  obtain⟨k,i,f⟩:=u4.mp h
  obtain⟨r,l,rfl⟩:=u8.mp f
  obtain⟨x,m,rfl,j,g⟩:=a.cons_inv
  rw[GQ i j,P0 l g]
  rfl
def GP {F:Hp}{k:List aJ}(h:eG d≈k)(a:At F d y):∃ b,y=.ref b/\F b≈(.tup (k.map kV)):=by
 cases d with
 |tup e =>
  obtain⟨b,g,rfl,c,f⟩:=a.tup_inv
  rw[P0 (show mj e≈k from h) f]at c
  exact⟨b,rfl,c⟩
 |_=>cases h
section
variable {κ:Type}[DecidableEq κ](f:κ->List aJ)(hf:∀ a b,f a=f b->a=b)
include hf
theorem Bc {k:κ}:∀ {b:List (κ × V)} {c:zl},ao F c (b.map (·.2)) ->
 (∀ d,ZN (b.map λp=>f p.1) c (f k)≈d->∃ x,dN b k≈x/\At F d x)/\(ZN (b.map λp=>f p.1) c (f k)=none->dN b k=none)
 |[],_,_=>⟨λd h=>(by cases h),λ_=>rfl⟩
 |p::b,[],a=>by cases a.nil_inv
 |p::b,v::c,a=>by
  obtain⟨x,r,e,i,g⟩:=a.cons_inv
  cases e
  have j:=Bc (k:=k) g
  by_cases h:p.1=k
  .rw[WG h]
   have e:ZN ((p::b).map λp=>f p.1) (v::c) (f k)≈v:=by
    rw[n0,Xa,t5 (by rw[h])]
   rw[e]
   exact⟨λd z=>(by cases z;exact⟨_,rfl,i⟩),λz=>(by cases z)⟩
  .rw[WC h]
   have e:ZN ((p::b).map λp=>f p.1) (v::c) (f k)=ZN (b.map λp=>f p.1) c (f k):=by
    rw[n0,Xa,j5 (λz=>h (hf _ _ z))]
   rw[e]
   exact j
theorem zkE {k:κ}{b:List (κ × V)}(a:ao F c (b.map (·.2))):(ZN (b.map λp=>f p.1) c (f k)).isSome=(dN b k).isSome:=by
 obtain⟨i,g⟩:=Bc f hf (k:=k) a
 cases h:ZN (b.map λp=>f p.1) c (f k) with
 |none=>rw[g h];rfl
 |some d=>obtain⟨x,e,_⟩:=i d h;rw[e];rfl
theorem Om {k:κ}(i:At F d y):∀ {b:List (κ × V)} {g:zl},ao F g (b.map (·.2)) ->
 ao F (lM (b.map λp=>f p.1) g (f k) d) ((b.map λc=>if c.1=k then (c.1,y)else c).map (·.2))
 |[],_,_=>by unfold lM;exact .nil
 |p::b,[],a=>by cases a.nil_inv
 |p::b,v::g,a=>by
  obtain⟨x,r,e,j,l⟩:=a.cons_inv
  cases e
  have m:=Om (k:=k) i l
  rw[n0,n0]
  refine ao.cons ?_ m
  by_cases h:p.1=k
  .rw[t5 h,t5 (by rw[h])];exact i
  .rw[j5 h,j5 (λz=>h (hf _ _ z))];exact j
theorem Oi {k:κ}(g:At F d y){b:List (κ × V)}(a:ao F c (b.map (·.2))) :
 (dw b k y).map (λp=>f p.1)=iy (b.map λp=>f p.1) c (f k)/\ao F (iC (b.map λp=>f p.1) c (f k) d) ((dw b k y).map (·.2)):=by
 unfold dw iy iC
 rw[zkE f hf a,Hg]
 cases h:(dN b k).isSome with
 |true =>
  rw[t5 rfl,t5 rfl,t5 rfl]
  refine⟨?_,Om f hf g a⟩
  rw[l4]
  refine qQ λp _=>?_
  by_cases e:p.1=k
  .show f (if p.1=k then (p.1,y)else p).1=_;rw[t5 e]
  .show f (if p.1=k then (p.1,y)else p).1=_;rw[j5 e]
 |false =>
  rw[j5 u7,j5 u7,j5 u7,r8,r8]
  exact⟨rfl,a.append (.cons g .nil)⟩
end
def PB (a b:aJ)(h:[a]=[b]):a=b:=by cases h;rfl
def M9 (a b:List aJ)(h:a=b):a=b:=h
def zoB {t:Bool}{g:zl}{k:List aJ}(s:zZ F H)(e:iD F a z t h m)(n:ao F g m)(f:jM t i≈k)(j:At F i y) :
 ∃ o,tY H a y o/\(∀ d,ZN h g k≈d->∃ x,o≈x/\At F d x)/\(ZN h g k=none->o=none):=by
 obtain⟨u,e,l⟩:=(e.mono s).rd
 unfold cF at e
 unfold jM at f
 cases t with
 |true =>
  rw[t5 rfl]at e f
  obtain⟨c,rfl,rfl,rfl⟩:=e
  obtain⟨b,rfl,q⟩:=GP f j
  exact⟨_,.inr ⟨c,k,b,l,rfl,s _ _ q,rfl⟩,Bc (λk=>k) M9 n⟩
 |false =>
  rw[j5 u7]at e f
  obtain⟨c,rfl,rfl,rfl⟩:=e
  obtain⟨r,p,rfl⟩:=u8.mp f
  rw[GQ p j]
  exact⟨_,.inl ⟨c,r,l,rfl,rfl⟩,Bc (λk=>[k]) PB n⟩
def znr {H:Hp}{t:Bool}{f:List (List aJ)}{k:List aJ}(h:H a≈o)(e:cF o t f r)(u:ao F i r)(c:jM t n≈k)(q:At G n y)(s:zZ G H)(m:At F d v)(p:↥f<sizeLine):∃ w,gR H a y v (aA H a w)/\dM F w (.m t (iy f i k) (iC f i k d)):=by
 unfold cF at e
 unfold jM at c
 cases t with
 |true =>
  rw[t5 rfl]at e c
  obtain⟨g,rfl,rfl,rfl⟩:=e
  obtain⟨b,rfl,z⟩:=GP c q
  obtain⟨l,j⟩:=Oi (λk=>k) M9 (k:=k) m u
  refine⟨_,gR.t h (s _ _ z) (by simpa using p),_,?_,j⟩
  unfold cF
  rw[t5 rfl]
  exact⟨_,rfl,l,rfl⟩
 |false =>
  rw[j5 u7]at e c
  obtain⟨g,rfl,rfl,rfl⟩:=e
  obtain⟨A,x,rfl⟩:=u8.mp c
  rw[GQ x q]
  obtain⟨l,j⟩:=Oi (λk=>[k]) PB (k:=A) m u
  refine⟨_,gR.k h (by simpa using p),_,?_,j⟩
  unfold cF
  rw[j5 u7]
  exact⟨_,rfl,l,rfl⟩
def ik (a:Bool):xD
 |kd,.dct _ t ks vs=>(jM t kd).map λk=>.bl (a != (ZN ks vs k).isSome)
 |_,_=>none
section
variable {X:Cx}{a b c:Expr}{pos apos:Pos}
def DQ (b:Bool):R2:=λx y H Q=>∃ a o,y=.ref a/\tY H a x o/\Q (.bl (b != o.isSome)) H
def zqf {k:Nat}(d:xH k X.A):aQ X (Q0l .In) (DQ false):=by
 intro b s σ H x y v u Q I c e h
 obtain⟨a,o,rfl,g,q⟩:=h
 obtain rfl:u=Q0f a:=e
 exact JS (pH d) I g c λf I3=>⟨.bl o.isSome,H,I3,rfl,by simpa using q⟩
def Rb {k:Nat}(d:xH k X.A):aQ X (Q0l .NotIn) (DQ true):=by
 intro b s σ H x y v u Q I c e h
 obtain⟨a,o,rfl,g,q⟩:=h
 obtain rfl:u=Q0f a:=e
 exact znF (pH d) I g c λf I3=>⟨.bl (!o.isSome),H,I3,rfl,by simpa using q⟩
def Gu {a:Bool}:bx (DQ a) (ik a):=by
 intro F H x y d e z Q s f l h q
 cases e with
 |dct u t c b =>
  obtain⟨k,m,rfl⟩:=u8.mp h
  obtain⟨p,v,rfl,i,n⟩:=l.dct_inv
  obtain⟨o,r,j,g⟩:=zoB s i n m f
  refine⟨p,o,rfl,r,?_⟩
  have e:(ZN c b k).isSome=o.isSome:=by
   cases h:ZN c b k with
   |none=>rw[g h];rfl
   |some d=>obtain⟨w,rfl,_⟩:=j d h;rfl
  rw[<-e]
  exact q F H _ (.refl s) .bl
 |_=>cases h
end
section
variable {X:Cx}{a e ko:Expr}{pos pos':Pos}{st:Stmt}
def uw (t:Bool)(i:Nat):zM:=fun ρ=>.nx (ρ.set i (.m t [] []))
def zoo {t:Bool}{i:Nat}(l:X.N.Nodup)(f:X.N[i]?≈x)(h:eF X.env.scope x)(c:Q0q (.Dict [] [] pos) (some (.Name x pos')) pos.line X.env=pure false:=by rfl)(j:X.fn x=true\/X.env.scope.names.lookup x≈.local:=by first|exact .inl rfl|exact .inr rfl|assumption)(c:Q0q (.Dict [] [] d) (some (.Name x pos')) pos.line X.env=pure false:=by rfl):SD X (.Assign [.Name x pos'] (.Dict [] [] d) pos) (uw t i):=by
 have e:∀ (o:HO),dM (λ_=>none) o (.m t [] [])->∀ (Fb Hb F H:Hp) (ρ:SE) (σ:St) (E:cj),Rl Fb Hb F H ρ σ->lw Fb Hb E (uw t i ρ)->∀ p,H p=none->E.nx (σ.set i (some (.ref p))) (aA H p o):=λo m Fb Hb F H ρ σ E a k p b=>by
  have g:=Gr.hide a.gr.fh b o
  refine k F _ _ ((a.grow g).setW (a.notbase b) (a.gr.fh.free b) zn (m.mono λ_ _ z=>by cases z) (a.notown g b))
 cases t with
 |true =>
  refine⟨_,YE l f h zkY c j,λFb Hb F H ρ σ E a k=>?_⟩
  refine λp b=>e (.dT []) ⟨[],?_,.nil⟩ Fb Hb F H ρ σ E a k p b
  unfold cF
  rw[t5 rfl]
  exact⟨[],rfl,rfl,rfl⟩
 |false =>
  refine⟨_,YE l f h zlD c j,λFb Hb F H ρ σ E a k=>?_⟩
  refine λp b=>e (.dK []) ⟨[],?_,.nil⟩ Fb Hb F H ρ σ E a k p b
  unfold cF
  rw[j5 u7]
  exact⟨[],rfl,rfl,rfl⟩
def fC (ρ:SE)(i:Nat)(a d:D):Option SE:=match ρ[i]? with
 |some (.m t ks vs)=>(jM t a).bind λk=>if decide (↥ks<sizeLine) then some (ρ.set i (.m t (iy ks vs k) (iC ks vs k d)))else none
 |_=>none
def VE (m:Bool)(i:Nat)(a e:zW):zM:=fun ρ=>match (bF m e ρ).bind λd=>(a (visG ρ)).bind λc=>fC ρ i c d with
 |some b=>.nx b
 |none=>.no
def Pb {k:Nat}{w:zW}(T:xH k X.A)(R:ED X e s)(L:PE X a (Wd i))(I:ED X ko w)(l:Q0q e (some (.Subscript a ko pos')) pos.line X.env=pure false:=by rfl):SD X (.Assign [.Subscript a ko pos'] e pos) (VE m i w s):=by
 obtain⟨t,p,r⟩:=R
 obtain⟨Y,M,O⟩:=I
 refine⟨_,zna (pH T) L M p l,λFb Hb F H ρ σ E y k=>?_⟩
 unfold VE at k
 cases h:(bF m s ρ).bind λd=>(w (visG ρ)).bind λz=>fC ρ i z d with
 |none=>rw[h]at k;exact k.elim
 |some ρ' =>
  rw[h]at k
  obtain⟨d,V,c⟩:=u4.mp h
  obtain⟨z,S,c⟩:=u4.mp c
  unfold fC at c
  split at c
  .rename_i tt C Z l
   obtain⟨kk,J,n⟩:=u4.mp c
   have A:decide (↥C<sizeLine)=true:=by
    cases K:decide (↥C<sizeLine) with
    |true=>rfl
    |false=>rw[K,j5 u7]at n;cases n
   rw[t5 A]at n
   cases n
   refine r.at y V λF' H' v g U=>?_
   have b:=y.grow g
   obtain⟨q,o,u,_⟩:=b.ows i _ l rfl
   refine⟨_,u,?_⟩
   refine O σ _ _ H' _ _ b.gh b.visG S λF3 H3 v3 B x=>?_
   obtain⟨G,_⟩:=b.back B
   have j:=b.grow G
   obtain⟨q3,o3,f,_,_,W,xs,Q,P⟩:=j.ows i _ l rfl
   rw[u]at f
   cases f
   obtain⟨o',N,hw⟩:=znr W Q P J x B.fh (U.mono G.ff) (j8 A)
   exact⟨q,_,rfl,N,k _ _ σ (j.mutW l rfl u hw)⟩
  .cases c
end
end
end Dl
namespace L2
open PySem PySem.Spec PyProof.Rows
section
variable {prog:zO}{w:Q0k}{A:zP}{E:yM}{s:zm}{d it:Addr}{o:Obj}{es:Array Q07}{ep i:Nat}
def raw_iter {Q:yM}(e:(d == Q0B)=false)(b:s.heap.get? d≈o)(g:o.ExactDict)(c:o.data=.dict es ep)
 (f:Q (.ref ⇑s) { s with heap:=s.heap.push { cls:=.type "dict_keyiterator",data:=.fields #[.ref d,.int 0 0,.int es.size 0,.int ep 0] } }):Q0d (Q0i prog w) A (pyIter (.ref d)) Q E s:=by
 have a:s.TypeIs (.ref d) "dict":=⟨o,b,g.1⟩
 refine wpAny_pyIter_slot a Q1R (fG Q1R a PySem.F.entry_dict_iter ?_ (PySem.F.args_dict_iter_1 _))
 unfold Builtin.«dict.__iter__»
 refine u3 ?_
 unfold Builtin.Dict.dictSlotNone
 refine u3 (wpAny_notOrdered_dict a ?_)
 show Q0d _ _ (pure (Q0f d)) _ _ s
 refine t4 ?_
 show Q0d _ _ (Q1U d>>=_) _ _ s
 unfold Q1U
 rw[j5 (by rw[e];exact u7)]
 refine u3 (t4 (u3 (BP b c (u3 (Q14 b c ?_)))))
 refine u3 (l9 (t4 ⟨_,rfl,"dict_keyiterator",_,⟨_,j6 _ rfl,rfl⟩,rB.lookup,?_⟩))
 simpa [Q1H]using f
def raw_next {e:Q07}{Q:Option Q0e->Q0u->Prop}(a:s.heap.IsKeyIter it d i es.size ep)(k:s.heap.get? d≈o)(l:o.data=.dict es ep)(n:es[i]?≈e)
 (m:∀ h,h.IsKeyIter it d (i+1) es.size ep->Q0U it s.heap h->Q (some e.key) { s with heap:=h }):Q0d (Q0i prog w) A (Q1o (.ref it)) Q E s:=by
 obtain⟨p,f,j,b⟩:=id a
 unfold Q1o
 refine u3 (jr (p9 (name:=Q0b "__next__") a.typeIs rB
  (fG rB a.typeIs Ss ?_ (Sh _))))
 refine u3 (t4 ?_)
 refine u3 ?_
 refine u3 ?_
 first|refine u3 (CW a.typeIs (t4 ?_))|refine u3 (CZ a.typeIs (t4 ?_))
 refine u3 (wpAny_fieldsOf f b ?_)
 have g:Q1f "dict_keyiterator"=false:=by decide
 simp only[g,qP,gC]
 show Q0d _ _ (if (Q0f d == Q0z) then _ else _) _ _ s
 rw[j5 (show ¬ ((Q0f d == Q0z)=true)from u7)]
 refine u3 (t4 (u3 (BP k l ?_)))
 rw[j5 (by simp)]
 refine u3 (t4 (u3 (Q14 k l ?_)))
 rw[j5 (by simp)]
 refine t4 ?_
 simp only[show ¬ ((i:Int)<0)from by omega,gC,jy,n]
 refine u3 ?_
 first|refine u3 (CW a.typeIs (t4 ?_))|refine u3 (CZ a.typeIs (t4 ?_))
 refine u3 (wpAny_isOneOf_keyiter a.typeIs ?_)
 show Q0d _ _ (setField (.ref it) 1 (Q1H ((i:Int)+1))>>=_) _ _ s
 refine u3 (Ca f b (by simp) ?_)
 have c:(s.heap.update it (Q2q (·.setIfInBounds 1 (Q1H ((i:Int)+1))))).IsKeyIter it d (i+1) es.size ep :=
  ⟨_,i6 _ f (Obj.isFreed_of_fields (Ck b _)),(Obj.cls_mapFields ..).trans j,by rw[Ck b];simp[Q1H]⟩
 refine u3 (h9 ?_)
 refine u3 (wpAny_isOneOf_keyiter (s:={ s with heap:=s.heap.update it (Q2q (·.setIfInBounds 1 (Q1H ((i:Int)+1)))) }) c.typeIs ?_)
 show Q0d _ _ (pure e.key) _ _ _
 exact t4 (t4 ⟨_,rfl,t4 (m _ c (Cw ..))⟩)
def raw_end {Q:Option Q0e->Q0u->Prop}(n:A.handled=none)(c:s.heap.IsKeyIter it d i es.size ep)(h:s.heap.get? d≈o)(k:o.data=.dict es ep)(q:es.size<=i)
 (p:∀ j,Heap.ExtBut it s.heap j->Q none { s with heap:=j }):Q0d (Q0i prog w) A (Q1o (.ref it)) Q E s:=by
 obtain⟨r,f,l,g⟩:=id c
 unfold Q1o
 refine u3 (jr (p9 (name:=Q0b "__next__") c.typeIs rB
  (fG rB c.typeIs Ss ?_ (Sh _))))
 refine u3 (t4 ?_)
 refine u3 ?_
 refine u3 ?_
 first|refine u3 (CW c.typeIs (t4 ?_))|refine u3 (CZ c.typeIs (t4 ?_))
 refine u3 (wpAny_fieldsOf f g ?_)
 have e:Q1f "dict_keyiterator"=false:=by decide
 simp only[e,qP,gC]
 show Q0d _ _ (if (Q0f d == Q0z) then _ else _) _ _ s
 rw[j5 (show ¬ ((Q0f d == Q0z)=true)from u7)]
 refine u3 (t4 (u3 (BP h k ?_)))
 rw[j5 (by simp)]
 refine u3 (t4 (u3 (Q14 h k ?_)))
 rw[j5 (by simp)]
 refine t4 ?_
 simp only[show ¬ ((i:Int)<0)from by omega,gC,jy,Q1Q q]
 refine u3 ?_
 first|refine u3 (CW c.typeIs (t4 ?_))|refine u3 (CZ c.typeIs (t4 ?_))
 show Q0d _ _ (setField (.ref it) 0 .none>>=_) _ _ s
 refine u3 (Ca f g (by simp) ?_)
 show Q0d _ _ (newExc (.type "StopIteration") []>>=_) _ _ _
 refine u3 ?_
 simp only[newExc,newTuple]
 refine u3 (l9 ?_ (by size_fits))
 refine u3 (m:=Q1z _ _) (wpAny_of_eq (a:=Q0z) (by first|rfl | (simp only[Q1z];rfl)) ?_)
 refine l9 ?_ (by size_fits)
 simp only[raiseNew]
 refine u3 (wpAny_handled ?_)
 rw[show A.in1.handled=none from n]
 refine u3 (t4 (wpAny_throw ?_))
 refine u3 (Q1P (T:="StopIteration") (b:=true) ⟨_,j6 _ rfl,rfl⟩ isSubtype_stop ?_)
 exact t4 (p _ (((Cw ..).extBut.push _).push _))
end
def oX:HO->Nat
 |.dK a=>↥a
 |.dT a=>↥a
 |_=>0
def jV (u:HO):Prop:=(∃ a,u=.dK a)\/∃ a,u=.dT a
def Kw (H:Hp)(u:HO)(i:Nat)(x:V):Prop:=match u with
 |.dK a=>∃ p,a[i]?≈p/\x=kV p.1
 |.dT a=>∃ p b,a[i]?≈p/\x=.ref b/\H b≈(.tup (p.1.map kV))
 |_=>False
def zr3 {w:Q0k}{k:aJ}(h:(xf P w).is k v=true):y6 (kV k) v:=by
 rcases yC h with ⟨i,t,rfl,rfl⟩|⟨x,t,rfl,rfl⟩
 .exact⟨t,rfl⟩
 .exact⟨t,rfl⟩
structure J5 (H:Hp) (a:Addr) (ob:Obj) (u:HO) (es:Array Q07) (ep:Nat):Prop where
 sys:(a == Q0B)=false
 exact_:ob.ExactDict
 data:ob.data=.dict es ep
 size:es.size=oX u
def GX {w:Q0k}{h:Heap}(ok:yU P w H h a (.frz I u))(S:jV u):h.get? a≈I/\∃ c y,J5 H a I u c y/\∀ (i:Nat) (e:Q07),c[i]?≈e->∃ x,y6 x e.key/\Kw H u i x:=by
 obtain⟨E,ok⟩:=ok
 rcases S with ⟨b,rfl⟩|⟨b,rfl⟩
 .obtain⟨_,d,n,D,o,c,y,C,ex,F,W,z,U⟩:=ok
  rw[E]at C
  cases C
  have G:c.size=↥n:=by rw[<-↥z];simp
  refine⟨E,c,y,⟨d,ex,F,by rw[G,<- ↥D];rfl⟩,λi e B=>?_⟩
  have g:i<↥b:=by
   have:=(CV.mp B).1
   rw[↥D];omega
  have M:i<↥n:=by rw[<-↥D];exact g
  have f:=z.get? (i:=i) (e:=e) (k:=n[i].1) (v:=n[i].2) (by simpa using B) (by simp[M])
  have Q:b[i].1=n[i].1:=by
   have:=bJ (λl=>l[i]?) D.keys
   simp only[q4]at this
   rw[j7 g,j7 M]at this
   exact g0 this
  exact⟨kV b[i].1,by rw[Q];exact zr3 f.1,b[i],j7 g,rfl⟩
 .obtain⟨_,d,A,z,o,c,y,C,ex,F,B,U⟩:=ok
  rw[E]at C
  cases C
  have G:c.size=↥A:=by rw[<-i8,B,u5]
  have R:=qp z
  refine⟨E,c,y,⟨d,ex,F,by rw[G,<- R];rfl⟩,λi e s=>?_⟩
  have L:i<↥A:=by
   have:=(CV.mp s).1
   omega
  have g:i<↥b:=by omega
  have N:e=entryOfKey (Q1p (xf P w)) A[i]:=by
   have:c.toList[i]?≈e:=by simpa using s
   rw[B,q4,j7 L]at this
   exact(g0 this).symm
  have J:∀ {l:VV} {m:List (List aJ × Addr × Q0e)},Paired (λp q=>p.1=q.1/\H q.2.1≈(.tup (p.1.map kV))/\y6 p.2 q.2.2) l m->∀ (j:Nat) (f:j<↥l) (K:j<↥m),l[j].1=m[j].1/\H m[j].2.1≈(.tup (l[j].1.map kV)):=λ{l m} r=>by
   induction r with
   |nil=>intro j f;simp at f
   |cons h t T =>
    intro j f K
    cases j with
    |zero=>exact⟨h.1,h.2.1⟩
    |succ j=>exact T j (by simpa using f) (by simpa using K)
  obtain⟨_,O⟩:=J z i g L
  subst N
  exact⟨.ref A[i].2.1,rfl,b[i],A[i].2.1,j7 g,rfl,O⟩
def J4 (a:Addr)(b:Obj)(u:HO):It :=
 ⟨λi H=>H a≈(.frz b u)/\i<oX u,λi H x H'=>H'=H/\Kw H u i x,λi H=>H a≈(.frz b u)/\oX u<=i⟩
def ziF {P:zO}{w:Q0k}{K:zA}{tg:Expr}{a it:Addr}{ob:Obj}{u:HO}{es:Array Q07}{ep:Nat}(hu:jV u)(hn:es.size=oX u)(hd:ob.data=.dict es ep):gQ P w K tg (J4 a ob u) [it] it (λi h=>h.IsKeyIter it a i es.size ep) where
 mem:=by simp
 obj:=λi h st b hb=>by
  have e:b=it:=by simpa using hb
  subst e
  obtain⟨o,e,c,d⟩:=st
  exact⟨o,e,λv z=>by rw[d]at z;cases z⟩
 keep:=λi h h' st k=>by
  obtain⟨o,e,r⟩:=st
  exact⟨o,k it (by simp) o e,r⟩
 item:=by
  intro X hP hw hK hc i pins s σ H E I hf st hg
  subst hP hw hK
  obtain⟨e1,hi⟩:=hg
  obtain⟨e0,es',ep',D,ky⟩:=GX (I.hok a _ e1) hu
  have e2:=D.data
  rw[hd]at e2
  cases e2
  obtain⟨f0,f1,f2,f3,f4,f5⟩:=hf it (by simp)
  have hlt:i<es.size:=by omega
  obtain⟨x,rx,kx⟩:=ky i es[i] (nu hlt)
  refine raw_next st e0 hd (nu hlt) λh' st' sb=>?_
  have I1:aj X pins σ H { s with heap:=h' }:=I.turned (t':=s.toks) (λb o hb e=>(sb.2 b hb).trans e) f0 f1 f3 f4 f5
  obtain⟨o,e,c,d⟩:=id st'
  exact⟨_,rfl,pC (s:={ s with heap:=h' }) e c d ⋯ ⟨x,H,I1,rx,⟨rfl,kx⟩,st',λb hb=>(hf b hb).1⟩⟩
 done:=by
  intro X hP hw hK hc i pins s σ H E I hf st hg
  subst hP hw hK
  obtain⟨e1,hi⟩:=hg
  obtain⟨e0,es',ep',D,ky⟩:=GX (I.hok a _ e1) hu
  obtain⟨f0,f1,f2,f3,f4,f5⟩:=hf it (by simp)
  exact raw_end (I.ok.hd hc) st e0 hd ∅ λh' eb=>⟨rfl,I.turned (t':=s.toks) (λb o hb e=>eb b o hb e) f0 f1 f3 f4 f5⟩
 self:=λ_ _ _ _ _ st h=>wpAny_pyIter_keyiter st h
section
variable {X:Cx}{tg:Expr}
def Ud (c:TE):TI:=fun σ H R=>c σ H λx H1=>∃ a b u,x=.ref a/\H1 a≈(.frz b u)/\jV u/\R (J4 a b u) H1
def zn1 {g:TE}(j:PE X l g):PI X tg l (Ud g):=by
 intro c s σ H R I h
 refine aG (j c s σ H _ I h) λv d hh9=>?_
 obtain⟨x,H1,I1,i,m⟩:=hh9
 obtain⟨a,r,u,e,n,f,q⟩:=m
 subst e
 cases i
 obtain⟨k,w,t,D,_⟩:=GX (I1.hok a _ n) f
 refine raw_iter D.sys k D.exact_ D.data ?_
 refine⟨⇑d,[⇑d],_,_,H1,rfl,I1.kept (t':=d.toks) λb o e=>u6 _ e,ziF f D.size D.data,⟨_,j6 _ rfl,rfl,rfl⟩,λb p=>?_,q⟩
 have e:b=⇑d:=by simpa using p
 subst e
 exact I1.fpOk (t6 _) (I1.hok.fresh (t6 _))
def aj.frz {a:xz}{σ:St}{H:Hp}{s:zm}{p:Addr}{u:HO}(I:aj X a σ H s)(e:H p≈u)(j:jV u):∃ l,aj X a σ (aA H p (.frz l u)) s:=by
 have ok:=I.hok p u e
 have i:nR (H p):=by
  rw[e]
  rcases j with ⟨c,rfl⟩|⟨c,rfl⟩ <;> exact Q0D
 rcases j with ⟨c,rfl⟩|⟨c,rfl⟩
 .obtain⟨z,d,n,m,o,h,g,f,r⟩:=ok
  refine⟨o,I.write (h':=s.heap) (t':=s.toks) i (.inl rfl) (λb u _ e=>e) ⟨o,f⟩ ⟨f,z,d,n,m,o,h,g,f,r⟩⟩
 .obtain⟨z,d,t,q,o,h,g,f,r⟩:=ok
  refine⟨o,I.write (h':=s.heap) (t':=s.toks) i (.inl rfl) (λb u _ e=>e) ⟨o,f⟩ ⟨f,z,d,t,?_,o,h,g,f,r⟩⟩
  exact KT.keeps q λb v k=>by
   rw[zj (uV k e (λz=>nomatch z))]
   exact k
def Jt (i:Nat)(t:TS):TS:=λE σ H=>∃ p u,σ[i]?≈(some (.ref p))/\H p≈u/\jV u/\∀ a,t E σ (aA H p (.frz a u))
def znT {t:TS}(i:Nat)(h:bH X b t):bH X b (Jt i t):=by
 intro a s σ H E I q
 obtain⟨p,u,_,e,c,q⟩:=q
 obtain⟨d,I2⟩:=I.frz e c
 exact h a s σ _ E I2 (q d)
def Mw (z:Bool)(c d:TE):TE:=fun σ H Q=>∀ p,H p=none->c σ (aA H p (.dT [])) λx H1=>d σ H1 λy H2=>H2 p≈(.dT [])/\∃ b k,x=.ref b/\H2 b≈(.tup (k.map kV)) /\
 if z then ∀ a,Q (.ref p) (aA H2 p (.frz a (.dT [(k,y)])))else Q (.ref p) (aA H2 p (.dT [(k,y)]))
def PN {k:Expr}(T:X.A.units+1<cLine)(A:PE X k l)(F:PE X v n):PE X (.Dict [some k] [v] i) (Mw z l n):=by
 intro d s σ H Q I q
 have N:=I.hok.fresh (t6 ⇑s)
 have I1:=I.laid (a:=⇑s) (o:=.dT []) (h':=s.heap.push { cls:=.type "dict",data:=.dict #[] }) (t':=s.toks) (λ_ _ q=>u6 _ q) (t6 _) (Qs s.heap I.big)
 refine wpAny_Dict_any (by rfl) rfl (by simp) (by simp) ?_
 refine pairTrees_cons_walk (aG (A d _ σ _ _ I1 (q _ N)) λu K ⟨x,H1,I1,S,V⟩=>aG (F d K σ H1 _ I1 V) λw2 R hh9=>?_)
 obtain⟨y,H2,I2,E,f⟩:=hh9
 obtain⟨e,b,h,ex,r,f⟩:=f
 subst ex
 obtain rfl:u=Q0f b:=S
 refine pairTrees_nil_walk ?_
 unfold storeAll
 simp only[mV,mU]
 obtain⟨Y,M,Z,j,L⟩:=KC I2.hok e
 cases j
 refine u3 (u3 (wpAny_dictSet_heap (hsz:=cO _) (show(Q1p (xf X.prog X.w)).room X.A from Nat.lt_of_succ_lt T) (qj I2.hok r) L λU g P=>t4 (t4 ?_)))
 have J:=g
 obtain⟨q,W,G,w,D,C,B,_,O⟩:=g
 have I3:=GK (t':=R.toks+(Q1p (xf X.prog X.w)).draws h) (ob:=.dT [(h,y)]) I2 (by rw[e];exact Q0D) P ⟨q,w⟩ ⟨by show 1<=sizeLine;decide,M,_,((show KT H2 [] []from .nil).put h r E).keeps λc ys m=>by
  rw[zj (uV m e (λz=>nomatch z))]
  exact m,q,W,G,w,D,C,B,O⟩
 cases z with
 |false=>exact⟨.ref ⇑s,_,I3,rfl,by rw[j5 u7]at f;exact f⟩
 |true =>
  rw[t5 rfl]at f
  obtain⟨t,I4⟩:=I3.frz (p:=⇑s) (u:=.dT [(h,y)]) zn (.inr ⟨_,rfl⟩)
  rw[G5]at I4
  exact⟨.ref ⇑s,_,I4,rfl,f t⟩
end
end L2
namespace Dl
open PySem L2
def sH:aJ->D
 |.inl i=>.int i
 |.inr x=>.str x
def pP (t:Bool)(k:List aJ):D:=if t then .tup (k.map sH)else match k with
 |[a]=>sH a
 |_=>.non
def mJ:D->Option zl
 |.dct true t a _=>some (a.map (pP t))
 |_=>none
section
variable [KK]
def MK (k:aJ):At F (sH k) (kV k):=by
 cases k with
 |inl i=>exact .int
 |inr x=>exact .str
def Od:∀ a:List aJ,ao F (a.map sH) (a.map kV)
 |[]=>.nil
 |k::a=>.cons (MK k) (Od a)
def GZ {t:Bool}{b:List (List aJ)}(h:cF u t b c):jV u/\oX u=↥b:=by
 unfold cF at h
 cases t with
 |true=>rw[t5 rfl]at h;obtain⟨a,rfl,rfl,_⟩:=h;exact⟨.inr ⟨_,rfl⟩,by rw[u5];rfl⟩
 |false=>rw[j5 u7]at h;obtain⟨a,rfl,rfl,_⟩:=h;exact⟨.inl ⟨_,rfl⟩,by rw[u5];rfl⟩
def Gr.see {H:Hp}(s:zZ F H)(h:H b≈(.tup d)):∃ F',Gr F H F' H/\F' b≈(.tup d):=by
 cases e:F b with
 |some o =>
  have:=s _ _ e
  rw[h]at this
  cases this
  exact⟨F,.refl s,e⟩
 |none =>
  refine⟨aA F b (.tup d),⟨λp o z=>?_,λp o z=>?_,λp o f c=>⟨?_,c⟩⟩,zn⟩
  .rw[zj (zf z e)];exact z
  .by_cases a:p=b
   .subst a;rw[zn]at z;cases z;exact h
   .rw[zj a]at z;exact s p o z
  .by_cases a:p=b
   .subst a
    rw[h]at c
    cases c
    exact .inr ⟨⟨_,rfl⟩,zn⟩
   .exact .inl (by rw[zj a];exact f)
def zqT {F:Hp}{t:Bool}{s:List (List aJ)}(h:F a≈(.frz q u))(c:cF u t s A):lD (J4 a q u) F (s.map (pP t)):=by
 intro i F2 H2 w m
 have o:=m _ _ (w _ _ h)
 obtain⟨_,r⟩:=GZ c
 refine⟨λv=>⟨o,by rw[r,v,u5];exact t6 _⟩,λd f=>?_⟩
 rw[q4]at f
 obtain⟨k,e,rfl⟩:=u8.mp f
 refine⟨⟨o,by rw[r];exact(t8.mp e).1⟩,λx H3 j=>?_⟩
 obtain⟨rfl,j⟩:=j
 unfold cF at c
 cases t with
 |true =>
  rw[t5 rfl]at c
  obtain⟨l,rfl,rfl,_⟩:=c
  obtain⟨p,b,n,rfl,z⟩:=j
  rw[q4,n]at e
  cases e
  obtain⟨F3,g,y⟩:=Gr.see m z
  exact⟨F3,g,.tup y (Od _)⟩
 |false =>
  rw[j5 u7]at c
  obtain⟨l,rfl,rfl,_⟩:=c
  obtain⟨p,n,rfl⟩:=j
  rw[q4,n]at e
  cases e
  exact⟨F2,.refl m,MK _⟩
section
variable {X:Cx}{tg a b e k v:Expr}{pos pos':Pos}{sts:vu}
def jj (f:zW):yL:=fun ρ=>(f ρ).bind mJ
def Ph {f:zW}(j:ED X a f):ID X tg a (jj f):=by
 obtain⟨t,p,r⟩:=j
 refine⟨_,zn1 p,fun σ ρ F H n R s l e q=>?_⟩
 obtain⟨d,m,c⟩:=u4.mp e
 refine r σ ρ F H d _ s l m λF1 H1 v h i=>?_
 unfold mJ at c
 split at c
 .cases c
  obtain⟨p,o,rfl,⟨u,g,b⟩,_⟩:=i.dct_inv
  rw[t5 rfl]at b
  obtain⟨k,b⟩:=b
  exact⟨p,k,u,rfl,h.fh _ _ b,(GZ g).1,q F1 H1 _ h (zqT b g)⟩
 .cases c
def oN (i:Nat)(g:zM):zM:=fun ρ=>match ρ[i]? with
 |some (.m t ks vs)=>g (ρ.set i (.v (.dct true t ks vs)))
 |_=>.no
def Rl.fzM {H:Hp}{ρ:SE}{i:Nat}{t:Bool}(r:Rl Fb Hb F H ρ σ)(h:ρ[i]?≈(.m t K I)) :
 ∃ p u,σ[i]?≈(some (.ref p))/\H p≈u/\jV u/\∀ B,Rl Fb Hb (aA F p (.frz B u)) (aA H p (.frz B u)) (ρ.set i (.v (.dct true t K I))) σ:=by
 obtain⟨p,u,l,V,e3,X,xs,S,al⟩:=r.ows i _ h rfl
 refine⟨p,u,l,X,(GZ S).1,λB=>?_⟩
 have P:i<ρ.length:=(t8.mp h).1
 have n:zZ F (aA F p (.frz B u)):=λb o e=>by rw[zj (zf e e3)];exact e
 have m:∀ {j:Nat} {s:Sl},(ρ.set i (.v (.dct true t K I)))[j]?≈s->s.isO=true->i≠j:=λ{j s} h f e=>by
  subst e
  rw[o4 P]at h
  cases h
  cases f
 refine⟨⟨r.gr.ff.trans n,λb o z=>?_,λb o z1 N=>?_⟩,λj d z=>?_,λj s z f=>?_,λj k q s s' g G U Q h3 W=>?_,by simp[r.len],r.dk.step (λj x d' ps J=>?_) n λj x d' ps p' dx q vw vh ys c C E M L Z R=>?_⟩
 .by_cases A:b=p
  .subst A;rw[zn]at z ⊢;exact z
  .rw[zj A]at z ⊢;exact r.gr.fh b o z
 .have A:b≠p:=zf N V
  obtain⟨x,y⟩:=r.gr.kp b o z1 N
  refine⟨?_,by rw[zj A];exact y⟩
  unfold tH
  rw[zj A]
  exact x
 .by_cases a:i=j
  .subst a
   rw[o4 P]at z
   cases z
   refine⟨_,l,?_⟩
   unfold At
   exact⟨p,xs,rfl,⟨u,S,by rw[t5 rfl];exact⟨B,zn⟩⟩,al.mono n⟩
  .rw[u9 a]at z
   obtain⟨v,c,C⟩:=r.vals j d z
   exact⟨v,c,C.mono n⟩
 .have a:=m z f
  rw[u9 a]at z
  obtain⟨q,y,c,C,E,M,L⟩:=r.ows j s z f
  have T:q≠p:=λw=>a (r.dis i j p _ s h z rfl f l (by rw[<-w];exact c))
  exact⟨q,y,c,C,by rw[zj T];exact E,by rw[zj T];exact M,L.mono n⟩
 .have a1:=m g U
  have Y:=m G Q
  rw[u9 a1]at g
  rw[u9 Y]at G
  exact r.dis j k q s s' g G U Q h3 W
 .have a:=m J rfl
  rw[u9 a]at J
  exact⟨J,rfl⟩
 .have n1:p'≠p:=λw=>by
   have a:=r.dis i j p _ _ h c rfl rfl l (by rw[<-w];exact C)
   subst a
   rw[h]at c
   cases c
  have O:q≠p:=λw=>R i _ h rfl (by rw[w];exact l)
  refine⟨by rw[zj n1];exact E,M,by rw[zj O];exact L,by rw[zj O];exact Z,λk s g f=>?_⟩
  have a:=m g f
  rw[u9 a]at g
  exact R k s g f
def Gh {g:zM}(i:Nat)(h:bK X sts g):bK X sts (oN i g):=by
 obtain⟨t,p,r⟩:=h
 refine⟨_,znT i p,λFb Hb F H ρ σ E a k=>?_⟩
 unfold oN at k
 split at k
 .rename_i m n l f
  obtain⟨q,u,j,b,e,d⟩:=a.fzM f
  exact⟨q,u,j,b,e,λc=>r Fb Hb _ _ _ σ E (d c) k⟩
 .exact k.elim
def Ag (a b:zW):zW:=fun ρ=>(a ρ).bind λc=>(b ρ).bind λd=>(eG c).map λk=>.dct true true [k] [d]
def QT {r k:zW}{H:Hp}{g:D}{Q:VK}(B:RE j r)(G:RE m k)(s:zZ F H)(l:cI F ρ σ)(J:r ρ≈g)(u:k ρ≈d)(I:eG g≈c)(q:∀ F2 H2 p y,Gr F H F2 H2->H p=none->F2 p=none->H2 p≈(.dT [])->At F2 d y->if z then ∀ E,Q (.ref p) (aA H2 p (.frz E (.dT [(c,y)])))else Q (.ref p) (aA H2 p (.dT [(c,y)]))):Mw z j m σ H Q:=by
 intro p h
 have t:=Gr.hide s h (.dT [])
 refine B σ ρ F _ g _ t.fh l J λF1 H1 x i C=>?_
 refine G σ ρ F1 H1 d _ i.fh (l.mono i.ff) u λF2 H2 y f v=>?_
 have a:=i.trans f
 obtain⟨A,n⟩:=a.kl (o:=.dT []) (λ_ e=>by cases e) (s.free h) zn
 obtain⟨b,rfl,w⟩:=GP I C
 exact⟨n,b,c,rfl,f.fh _ _ (f.ff _ _ w),q F2 H2 p y (t.trans a) h A n v⟩
def zlc (J:xH n X.A)(r:ED X k l)(L:ED X v i):ED X (.Dict [some k] [v] pos) (Ag l i):=by
 obtain⟨M,A,E⟩:=r
 obtain⟨O,pv,G⟩:=L
 refine⟨_,PN (z:=true) (pH J) A pv,fun σ ρ F H z Q s t e q=>?_⟩
 obtain⟨N,K,e⟩:=u4.mp e
 obtain⟨d,m,e⟩:=u4.mp e
 obtain⟨c,I,rfl⟩:=u8.mp e
 refine QT E G s t K m I λF2 H2 p y g B C P u=>?_
 rw[t5 rfl]
 intro f
 have j:zZ F2 (aA F2 p (.frz f (.dT [(c,y)]))):=λb o e=>by rw[zj (zf e C)];exact e
 refine q (aA F2 p (.frz f (.dT [(c,y)]))) _ _ ⟨g.ff.trans j,λb o z=>?_,λb o w h=>?_⟩ ?_
 .by_cases a:b=p
  .subst a;rw[zn]at z ⊢;exact z
  .rw[zj a]at z ⊢;exact g.fh b o z
 .have a:b≠p:=zf h B
  obtain⟨x,y⟩:=g.kp b o w h
  refine⟨?_,by rw[zj a];exact y⟩
  unfold tH
  rw[zj a]
  exact x
 .unfold At
  refine⟨p,[y],rfl,⟨.dT [(c,y)],?_,by rw[t5 rfl];exact⟨f,zn⟩⟩,.cons (u.mono j) .nil⟩
  unfold cF
  rw[t5 rfl]
  exact⟨_,rfl,rfl,rfl⟩
def uF (i:Nat)(a b:zW):zM:=fun ρ=>match (a (visF ρ)).bind λc=>(b (visF ρ)).bind λd=>(eG c).map λk=>Sl.m true [k] [d] with
 |some s=>.nx (ρ.set i s)
 |none=>.no
def zns {i:Nat}{f:zW}(Q:xH n X.A)(R:X.N.Nodup)(K:X.N[i]?≈x)(P:eF X.env.scope x)(A:ED X k l)(T:ED X v f)(N:Q0q (.Dict [some k] [v] m) (some (.Name x pos')) pos.line X.env=pure false:=by rfl)(O:X.fn x=true\/X.env.scope.names.lookup x≈.local:=by first|exact .inl rfl|exact .inr rfl|assumption):SD X (.Assign [.Name x pos'] (.Dict [some k] [v] m) pos) (uF i l f):=by
 obtain⟨U,G,I⟩:=A
 obtain⟨V,pv,L⟩:=T
 refine⟨_,YE R K P (PN (z:=false) (pH Q) G pv) N O,λFb Hb F H ρ σ E a c=>?_⟩
 unfold uF at c
 cases h:(l (visF ρ)).bind λt=>(f (visF ρ)).bind λd=>(eG t).map λk=>Sl.m true [k] [d] with
 |none=>rw[h]at c;exact c.elim
 |some s =>
  rw[h]at c
  obtain⟨t,S,e⟩:=u4.mp h
  obtain⟨d,w,e⟩:=u4.mp e
  obtain⟨J,M,rfl⟩:=u8.mp e
  refine QT (z:=false) I L a.gr.fh a.visF S w M λF2 H2 p y g j u W B=>?_
  rw[j5 u7]
  have r:Gr F H F2 (aA H2 p (.dT [(J,y)])):=by
   refine⟨g.ff,λb o z=>?_,λb o C q=>?_⟩
   .rw[zj (zf z u)];exact g.fh b o z
   .rw[zj (zf q j)];exact g.kp b o C q
  refine c F2 _ _ ((a.grow r).setW (a.notbase j) u zn ⟨[y],?_,.cons B .nil⟩ (a.notown r j))
  unfold cF
  rw[t5 rfl]
  exact⟨_,rfl,rfl,rfl⟩
end
end
end Dl
namespace OwnRep
open PySem Builtin
def En {α:Type}{a b:Sem α}{Q:α->Q0u->Prop}(d:c=false)(h:Q0d M A b Q E s):Q0d M A (if c then a else b) Q E s:=by rw[d,j5 u7];exact h
def noFill_tuple_mul:fillsNumberSlot (.type "tuple") "mul"=pure false :=
 fillsNumberSlot_seq (id:="tuple.__mul__") (r:=some (.builtin "tuple.__rmul__")) qI.lookup (by decide +kernel) F.slot_tuple_rmul.lookup (by decide +kernel)
def repeat_tuple:seqRepeat? (.type "tuple")=pure (some (.builtin "tuple.__mul__")):=by
 unfold seqRepeat?
 rw[seqSlot_of (T:="tuple") (name:="__mul__") (id:="tuple.__mul__") qI.lookup (by decide +kernel),seqSlot_of (T:="tuple") (name:="__rmul__") (id:="tuple.__rmul__") F.slot_tuple_rmul.lookup (by decide +kernel)]
 rfl
def int_rmul_tuple (a:Int)(t:Tok)(l:Addr)(b:wc)(n:Nat)(e:y1)(f:Array (Option Q0e)) :
 Meets (Builtin.«int.__rmul__» ⟨[.int a t,.ref l],[]⟩) (λ_ R s=>s.heap.get? l≈{ cls:=.type "tuple",dict:=e,data:=.seq b n,slots:=f }/\R (.ok (.ret Q17)) s) :=
 .of_wp λc w A R s h=>by obtain⟨k,g,d,i,os⟩:=s;obtain⟨j,h⟩:=h;wp_walk;exact⟨_,rfl,h⟩
def tmul_same (l:Addr)(a:wc)(n:Nat)(e:y1)(i:Array (Option Q0e))(x:Int)(u:Tok)(b:(decide (x < -(2^63))||decide (x >= 2^63))=false)(f:(a.isEmpty||x == 1)=true) :
 Meets (Builtin.«tuple.__mul__» ⟨[.ref l,.int x u],[]⟩) (λ_ R s=>s.heap.get? l≈{ cls:=.type "tuple",dict:=e,data:=.seq a n,slots:=i }/\R (.ok (.ret (Q0f l))) s) :=
 .of_wp λc w A R s h=>by obtain⟨m,g,d,j,os⟩:=s;obtain⟨k,h⟩:=h;wp_walk;refine En b ?_;wp_walk;exact⟨_,rfl,h⟩
def tmul_none (l:Addr)(a:wc)(n:Nat)(f:y1)(j:Array (Option Q0e))(x:Int)(u:Tok)(b:(decide (x < -(2^63))||decide (x >= 2^63))=false)(i:(a.isEmpty||x == 1)=false)(e:(decide (x<=0)||a.isEmpty)=true) :
 Meets (Builtin.«tuple.__mul__» ⟨[.ref l,.int x u],[]⟩) (λ_ R s=>s.heap.get? l≈{ cls:=.type "tuple",dict:=f,data:=.seq a n,slots:=j }/\R (.ok (.ret (Q0f ⇑s))) { s with heap:=s.heap.push { cls:=.type "tuple",data:=.seq #[] },toks:=s.toks }) :=
 .of_wp λc w A R s h=>by obtain⟨o,g,d,k,os⟩:=s;obtain⟨m,h⟩:=h;wp_walk;refine En b ?_;wp_walk;exact⟨_,rfl,h⟩
def tmul_some (l:Addr)(a:wc)(n:Nat)(o:y1)(m:Array (Option Q0e))(x:Int)(u:Tok)(b:(decide (x < -(2^63))||decide (x >= 2^63))=false)(p:(a.isEmpty||x == 1)=false)(j:(decide (x<=0)||a.isEmpty)=false)(c:¬ (a.size:Int)*x>(2^63-1)/8)(k:Q1t ((a.size:Int)*x)=false)(q:(Q1D (λf e=>f++e) #[] (Q0a x.toNat a)).size<=sizeLine) :
 Meets (Builtin.«tuple.__mul__» ⟨[.ref l,.int x u],[]⟩) (λ_ R s=>s.heap.get? l≈{ cls:=.type "tuple",dict:=o,data:=.seq a n,slots:=m }/\R (.ok (.ret (Q0f ⇑s))) { s with heap:=s.heap.push { cls:=.type "tuple",data:=.seq (Q1D (λf e=>f++e) #[] (Q0a x.toNat a)) },toks:=s.toks }) :=
 .of_wp λi w A R s h=>by obtain⟨v,g,d,r,os⟩:=s;obtain⟨t,h⟩:=h;wp_walk;refine En b ?_;wp_walk;refine wpAny_ite_false (r0 c) ?_;wp_walk;exact⟨_,rfl,h⟩
end OwnRep
namespace L2
open PySem
section
variable {X:Cx}
def KQ (K:zA):R2:=λx y H Q=>∃ a k b,x=.ref a/\y=.int k/\aM K H a b/\b≠[]/\-(2^63)<=k/\k<2^63/\↥b*k.toNat<=sizeLine /\
 (k=1->Q (.ref a) H)/\(k≠1->∀ p,H p=none->Q (.ref p) (aA H p (.tup (Q0a k.toNat b).flatten)))
def zoi:aQ X (Q0O .Mult) (KQ X.K):=by
 intro i s σ H x y v u Q I S M h
 obtain⟨a,k,N,rfl,rfl,O,R,h1,h2,C,Z,L⟩:=h
 cases S
 obtain⟨t,rfl⟩:=M
 obtain⟨c,r,⟨⟨cls,A,W,z⟩,e,G,n,D⟩,_⟩:=I.tuple O
 simp only at G D
 subst G D
 have g:c.toArray.isEmpty=false:=by
  cases c with
  |nil=>exact absurd (r.nil_iff.mp rfl) R
  |cons _ _=>rfl
 have f:(decide (k < -(2^63))||decide (k >= 2^63))=false:=by
  rw[r0 ∅,r0 ∅];rfl
 have d:∀ m:Nat,Q1D (λY P=>Y++P) #[] (Q0a m c.toArray)=(Q0a m c).flatten.toArray:=λm=>by
  have:=WX c m []
  rw[HR]at this
  exact this
 have J:((Q0a k.toNat c).flatten).length<=sizeLine:=by rw[Gx,<- ↥r,qz];exact C
 have B:∀ {Q':yM},Q0d (Q0i X.prog X.w) X.A (call (.builtin "tuple.__mul__") [.ref a,.int k t]) Q' X.xe s->Q0d (Q0i X.prog X.w) X.A (Q0O .Mult (.ref a) (.int k t)) Q' X.xe s:=λ{Q'} w =>
  wpAny_binaryOp_repeat_ref (T:="tuple") (U:="int") ⋯ ⟨_,e,rfl⟩ (λs'=>qm s' k t) OwnRep.noFill_tuple_mul F.fills_int_mul BZ OwnRep.repeat_tuple F.slot_int_index.lookup
   (eV BZ (qm s k t) F.entry_int_rmul (F.args_int_rmul_2 _ _) (OwnRep.int_rmul_tuple k t a c.toArray n A z) ⟨e,rfl,⟨_,e,rfl⟩,w⟩)
 by_cases p:k=1
 .exact B (eV qI ⟨_,e,rfl⟩ Jd (IK _ _) (OwnRep.tmul_same a c.toArray n A z k t f (by rw[p];simp)) ⟨e,⟨.ref a,H,I,rfl,Z p⟩⟩)
 have j:(c.toArray.isEmpty||k == 1)=false:=by rw[g,Bool.false_or];exact l8.mpr p
 have fin:∀ (l:zC),l=(Q0a k.toNat c).flatten->EP X i σ Q (.ref ⇑s) { s with heap:=s.heap.push { cls:=.type "tuple",data:=.seq l.toArray },toks:=s.toks }:=λl V=>by
  refine⟨.ref ⇑s,_,I.laid (t':=s.toks) (o:=.tup (Q0a k.toNat N).flatten) (λb ob q=>u6 _ q) (t6 _) ?_,rfl,L p _ (I.hok.fresh (t6 _))⟩
  refine⟨by rw[Gx,qz];exact C,l,?_,PyProof.Rows.IsTup.new _ _⟩
  rw[V]
  exact r.rep k.toNat
 by_cases E:k<=0
 .refine B (eV qI ⟨_,e,rfl⟩ Jd (IK _ _) (OwnRep.tmul_none a c.toArray n A z k t f j (by rw[j3 E];rfl)) ⟨e,fin [] ?_⟩)
  rw[show k.toNat=0 by omega]
  rfl
 .have K:(c.toArray.size:Int)*k<=(sizeLine:Int):=by
   have:((↥c*k.toNat:Nat):Int)<=(sizeLine:Int):=by rw[<-↥r];exact Int.ofNat_le.mpr C
   rw[Int.natCast_mul,rD ∅]at this
   exact this
  refine B (eV qI ⟨_,e,rfl⟩ Jd (IK _ _) (OwnRep.tmul_some a c.toArray n A z k t f j (by rw[g,Q2n];exact r0 E) ?_ ?_ ?_) ⟨e,?_⟩)
  .have:(sizeLine:Int)<=(2^63-1)/8:=by decide
   omega
  .unfold Q1t
   exact r0 ∅
  .rw[d,j0]
   exact J
  .rw[d]
   exact fin _ rfl
end
end L2
namespace Dl
open PySem L2
section
variable [KK]
def uK:xD
 |.tup a,.int k=>if a≠[]/\-(2^63)<=k/\k<2^63/\aU (↥a*k.toNat) then some (.tup (Q0a k.toNat a).flatten)else none
 |_,_=>none
def zjY:bx (KQ K) uK:=by
 intro F H x y d e z Q s m j a q
 cases d <;> try cases a
 cases e <;> try cases a
 rename_i f k
 unfold uK at a
 dsimp only at a
 split at a <;> cases a
 rename_i b
 obtain⟨p,h,rfl,i,c⟩:=m.tup_inv
 refine⟨p,k,h,rfl,j.int_inv,aM.of (s _ _ i),λe=>b.1 ?_,b.2.1,b.2.2.1,by rw[↥c];exact j8 b.2.2.2,λe=>?_,λ_ r l=>?_⟩
 .subst e
  exact nq.mp c.length.symm
 .subst e
  refine q F H _ (.refl s) ?_
  show At F (.tup (Q0a 1 f).flatten) _
  rw[show(Q0a 1 f).flatten=f by simp]
  exact .tup i c
 .have g:=Gr.alloc s l (.tup (Q0a k.toNat h).flatten)
  exact q _ _ _ g (.tup zn ((c.rep _).mono g.ff))
section
variable {X:Cx}{a b:Expr}{pos:Pos}
def zm9 {f:zW}(c:ED X a f)(d:ED X b h):ED X (.BinOp a .Mult b pos) (zg uK f h):=VT zoi zjY c d
end
end
end Dl
namespace L2
open PySem PySem.Spec PyProof.Rows
def fD (X:Cx)(b:Str)(M:zF)(a:Scope)(c:Zg)(s₀:zm)(H₀:Hp)(ex:xt)(pn:xz):Cx :=
 { X with N:=[b]++M,s₀:=s₀,H₀:=H₀,env:=compEnvC a ((b,⇑s₀+1)::c) ⇑s₀ X.env,outer:=X.stack,stack:=X.stack,ex:=ex,fn:=λy=>y == b,pn:=pn,xe:=λ_ _=>False }
structure Y9 (X:Cx) (x0:Str) (M:zF) (scope:Scope) (cl:Zg):Prop where
 clos:Q1F scope X.env=pure cl
 laid:∀ n,Q0P n scope.names cl=(x0,n)::cl
 push:∀ h,pushCells h scope.names=h.push { cls:=.type "cell",data:=.cell none }
 kind:scope.kind=.function
 names:∀ y∈scope.names,y.2=.local->scope.names.lookup y.1≈.local
 sub:∀ y c,cl.lookup y≈c->X.env.cells.lookup y≈c
 has:∀ y,((Q0S scope X.env).names.lookup y≈.cell\/(Q0S scope X.env).names.lookup y≈.free)->y=x0\/∃ c,cl.lookup y≈c
 mlen:↥M=X.N.length
 ne:∀ (i:Nat) y,M[i]?≈y->bR (Q0S scope X.env) y->y≠x0
 msk:∀ (i:Nat) y,M[i]?≈y->bR (Q0S scope X.env) y->X.N[i]?≈y
 vis:∀ (i:Nat) y,M[i]?≈y->bR (Q0S scope X.env) y->((Q0S scope X.env).names.lookup y≈.cell\/(Q0S scope X.env).names.lookup y≈.free)
 out:∀ (i:Nat) y,M[i]?≈y->bR (Q0S scope X.env) y->bR X.env.scope y/\X.env.kindOf y≠some .local
def ZA (b:Str)(a:Addr)(c:Zg)(y:Str):((b,a)::c).lookup y=if y=b then some a else c.lookup y:=by
 rw[List.lookup_cons]
 by_cases h:y=b
 .rw[t5 h,show(y == b)=true from fJ.mpr h]
 .rw[j5 h,show(y == b)=false from l8.mpr h]
def zaO {s:zm} {a:Scope} {f:Zg} {Q:Env->Q0u->Prop} (d:∀ n,Q0P n a.names f=(j,n)::f) (e:∀ h,pushCells h a.names=h.push { cls:=.type "cell",data:=.cell none }) (l:Q (newEnv a ⇑s b ((j,⇑s+1)::f) c none .none (some env) builtinsNs) { s with heap:=(s.heap.push { cls:=.type "dict",data:=.dict #[] }).push { cls:=.type "cell",data:=.cell none } }) :
 Q0d M A (Q1A a b f [] c none .none (some env)) Q E s:=by
 simp only[Q1A,Option.isSome_some,dD]
 refine u3 (wpAny_alloc ?_)
 refine u3 (wpAny_layCells _ (λk kind g=>by cases i:kind == NameKind.cell <;> simp[i]) _ _ _ _ ?_)
 rw[d,e,show({ s with heap:=s.heap.push { cls:=.type "dict",data:=.dict #[] } }:zm).heap.objs.size=⇑s+1 from s0 ..]
 simp only[mU]
 exact u3 (t4 (t4 l))
def zlg {X:Cx}{w:Str}{g:TG}{tt:TT}(hc:X.calm=true)(S:Y9 X w M a B)(hi:PI X tg A wi)(d8:∀ (σ:St) (v:V) (H:Hp) (Q:wS),g v (Q0a 1 none++σ) H Q->g v (Q0a 1 none++σ) H (fun σ2 H2=>ZI (Q0a 1 none++σ) σ2/\Q σ2 H2))(hg:∀ s₀ H₀ ex pn,PG (fD X w M a B s₀ H₀ ex pn) tg g)(ht:∀ s₀ H₀ ex pn,lz (fD X w M a B s₀ H₀ ex pn) b7 tt)(he:∀ s₀ H₀ ex pn,PE (fD X w M a B s₀ H₀ ex pn) b0 te)(hs:∀ x,Q0m A X.env x=pure x:=by intro _;rfl) :
 ∀ (a7:Pos) (f:xz) (s:zm) (σ:St) (H:Hp) (Q:VK),aj X f σ H s->nJ wi 1 g tt te σ H Q ->
  (∀ (D C:Addr) (H':Hp) (O:zm),aj X f σ H' O->(∃ m,O.heap.Ns C m)->cZ X f H' C->Q (.ref D) H'->Q2w (Q0i X.prog X.w) X.A X.xe use Qf (.ref D) C (.ok .next) O) ->
  Q0d (Q0i X.prog X.w) X.A (comprehension (.ListComp b0 [⟨tg,A,b7,0⟩] a c1) a X.env a7 (newList []) false (eval A X.env) use) Qf X.xe s:=by
 intro a7 f s σ H Q I h fin
 refine wpAny_comprehension_free (use:=use) rfl hs S.clos S.kind S.names (aG (hi f s σ H _ I h) λv s1 l=>aG l λf4 t E=>?_)
 obtain⟨it,N,tn,J,H2,e,I2,T,d2,f2,q⟩:=E
 subst e
 have hD:H2 ⇑t=none:=I2.hok.fresh (t6 _)
 obtain⟨W,⟨m0,w0⟩,turn⟩:=q _ hD
 refine l9 (zaO S.laid S.push ?_)
 have I3:aj X f σ (aA H2 ⇑t (.lst [])) { t with heap:=t.heap.push { cls:=.type "list",data:=.seq ([]:zC).toArray } }:=by
  refine I2.laid (t':=t.toks) (λb u e=>u6 _ e) (t6 _) ?_
  exact⟨cO _,[],0,.nil,j6 _ rfl⟩
 generalize c8:({ t with heap:=t.heap.push { cls:=.type "list",data:=.seq ([]:zC).toArray } }:zm)=s3 at I3 ⊢
 generalize a9:(s3.heap.push { cls:=.type "dict",data:=.dict #[] }).push { cls:=.type "cell",data:=.cell none }=h₁
 have b8:h₁.Ns ⇑s3 λ_=>none:=by
  rw[<-a9]
  exact(Heap.Ns.new s3.heap (.type "dict")).keeps λb o e=>u6 _ e
 have Z:h₁.IsCell (⇑s3+1) none:=by
  rw[<-a9]
  refine⟨{ cls:=.type "cell",data:=.cell none },?_,rfl⟩
  rw[<-show(s3.heap.push { cls:=.type "dict",data:=.dict #[] }).objs.size=⇑s3+1 from s0 ..]
  exact j6 _ rfl
 have K:∀ b∈N,b<⇑t:=λb j=>by
  obtain⟨o,ho,_⟩:=T.obj _ _ d2 b j
  exact j4 ho
 have d6:⇑s3=⇑t+1:=by rw[<-c8];exact s0 ..
 have d9:∀ b o,t.heap.get? b≈o->s3.heap.get? b≈o:=λb o e=>by rw[<-c8];exact u6 _ e
 have F:∀ b o,s3.heap.get? b≈o->h₁.get? b≈o:=λb o e=>by rw[<-a9];exact u6 _ (u6 _ e)
 generalize e8:aA H2 ⇑t (.lst [])=H3 at I3 w0
 have d0:∀ b∈N,H3 b=none:=λb j=>by
  rw[<-e8,zj (r4 (K b j))]
  exact(f2 b j).1
 have d4:∀ b∈N,b∉bM X.stack:=λb j z=>by
  obtain⟨_,n1,n2,_⟩:=f2 b j
  rcases t9.mp (I3.stkSub b z)with e|e
  .exact n1 e
  .exact n2 e
 let Y:Cx:=fD X w M a B s3 H3 N (X.pn++f)
 have c7:∀ y c,B.lookup y≈c->c≠⇑s3+1:=λy c e z=>by
  obtain⟨v,o,ho,_⟩:=I3.cell y c (S.sub y c e)
  have:=j4 ho
  rw[z]at this
  exact absurd this (Nat.not_lt.mpr (eX _))
 have OkY:Y.Ok:=by
  refine⟨I.ok.mod,S.kind,I.ok.glob,I.ok.blt,t6 _,?inj,?has,?cab,I.ok.hd,I.ok.frames,.inl rfl,?exf,
   λb o e=>I3.bs b o e,k8 I.ok.bsz I3.sz,?noex,d4,I3.stack,I3.stkFree⟩
  case inj =>
   intro x y c l E
   have l:((w,⇑s3+1)::B).lookup x≈c:=l
   have E:((w,⇑s3+1)::B).lookup y≈c:=E
   rw[ZA]at l E
   by_cases ex:x=w
   .by_cases ey:y=w
    .rw[ex,ey]
    .rw[t5 ex]at l
     rw[j5 ey]at E
     exact absurd (g0 l) (c7 y c E).symm
   .rw[j5 ex]at l
    by_cases ey:y=w
    .rw[t5 ey]at E
     exact absurd (g0 E) (c7 x c l).symm
    .rw[j5 ey]at E
     exact I.ok.inj x y c (S.sub x c l) (S.sub y c E)
  case has =>
   intro x hx
   show ∃ c,((w,⇑s3+1)::B).lookup x≈c
   rw[ZA]
   rcases S.has x hx with e|⟨c,e⟩
   .rw[t5 e];exact⟨_,rfl⟩
   .split
    .exact⟨_,rfl⟩
    .exact⟨c,e⟩
  case cab =>
   intro x c hf l
   have l:((w,⇑s3+1)::B).lookup x≈c:=l
   rw[ZA,t5 (fJ.mp hf)]at l
   cases l
   exact eX _
  case exf =>
   refine λb j=>⟨?_,λx c e z=>?_⟩
   .show b≠⇑s3
    exact r4 (q5 (K b j) (by rw[d6];exact eX _))
   .have e:((w,⇑s3+1)::B).lookup x≈c:=e
    rw[ZA]at e
    split at e
    .cases e
     have l:=K b j
     rw[d6]at z
     rw[<-z]at l
     exact absurd l (Nat.not_lt.mpr (k8 (eX _) (eX _)))
    .exact(f2 b j).2.2.2.2.1 x c (S.sub x c e) z
  case noex =>
   intro b o e j
   rcases(f2 b j).2.2.2.1 with z|z
   .exact I.ok.noex b o e z
   .have l:=j4 e
    have E:=I.ok.bsz
    exact absurd (q5 l (k8 E z)) (dW _)
 have I4:aj Y [] (Q0a 1 none++σ) H3 { s3 with heap:=h₁ }:=by
  refine⟨OkY,rfl,I3.bare,Un.kept F,⟨_,b8,λi y v e1 e2 e3=>?_⟩,λx c e=>?_,I3.hok.fresh (t6 _),λx c e=>?freeC,λp hp=>?_,I3.hok.kept F,?_⟩
  .have hi:¬ i<1:=λe5=>by
    rw[l0 (by simpa using e5),p8]at e2
    split at e2 <;> cases e2
   have P:M[i-1]?≈y:=by
    have e1:([w]++M)[i]?≈y:=e1
    rw[p6 (show 1<=i by omega)]at e1
    exact e1
   have e6:σ[i-1]?≈(some v):=by rw[p6 (by simpa using jx hi)]at e2;simpa using e2
   have e7:=S.msk _ y P e3
   obtain⟨ov,ok⟩:=S.out _ y P e3
   obtain⟨m,hn,hl⟩:=I3.loc
   obtain⟨u,ru,lk⟩:=hl _ y v e7 e6 ov
   refine⟨u,ru,?_⟩
   rcases lk with ⟨hk,_⟩|⟨_,c,e0,b6⟩
   .exact absurd hk ok
   .have kn:=S.vis _ y P e3
    obtain⟨c',c4⟩:=(S.has y kn).resolve_left (S.ne _ y P e3)
    have:=S.sub y c' c4
    rw[e0]at this
    cases this
    refine .inr ⟨kn,c,(show((w,⇑s3+1)::B).lookup y≈c by rw[ZA,j5 (S.ne _ y P e3)];exact c4),?_⟩
    obtain⟨o,ho,hd⟩:=b6
    exact⟨o,F _ _ ho,hd⟩
  .have e:((w,⇑s3+1)::B).lookup x≈c:=e
   rw[ZA]at e
   split at e
   .cases e
    exact⟨_,Z⟩
   .obtain⟨v,o,ho,hd⟩:=I3.cell x c (S.sub x c e)
    exact⟨v,o,F _ _ ho,hd⟩
  .have e:((w,⇑s3+1)::B).lookup x≈c:=e
   rw[ZA]at e
   split at e
   .cases e
    exact I3.hok.fresh (eX _)
   .exact I3.freeC x c (S.sub x c e)
  .have b4:p∈X.pn++f:=by simpa [Y,fD]using hp
   obtain⟨a1,a2,a3,a4,a5⟩:=I3.pin p b4
   refine⟨F _ _ a1,a2,r4 (j4 a1),λz=>?_,a5⟩
   rcases t9.mp (I3.stkSub p.1 z)with e|e
   .exact a3 e
   .exact a4 e
  .show(Q0a 1 none++σ).length=([w]++M).length
   rw[j9,j9,jt,I.len,S.mlen]
   rfl
 have b5:∀ {H':Hp},(∀ b∈N,H' b=none)->∀ b∈N,cZ Y [] H' b:=λ{H'} hn b j=>by
  refine⟨hn b j,(OkY.exf b j).1,d4 b j,.inl j,(OkY.exf b j).2,λp hp=>?_⟩
  have b4:p∈X.pn++f:=by simpa [Y,fD]using hp
  exact(f2 b j).2.2.2.2.2 p b4
 have b9:tn 0 h₁:=T.keep _ _ _ d2 λb j o e=>F b o (d9 b o e)
 -- behind the L
 have d3:∀ (H':Hp) (O:zm),aj Y [] (Q0a 1 none++σ) H' O->Q (.ref ⇑t) H'->Q2w (Q0i X.prog X.w) X.A X.xe use Qf (.ref ⇑t) ⇑s3 (.ok .next) O:=λH' O J' q'=>by
  obtain⟨m,hn,_⟩:=J'.loc
  refine fin _ _ H' O (I3.call' (ch:=N) J'.os J'.base J'.hok J'.bare λb j=>?_) ⟨m,hn⟩ (I3.fpOk (t6 _) J'.free) q'
  obtain⟨_,n1,_,n3,n4,n5⟩:=f2 b j
  exact⟨n3,n1,n4,n5⟩
 have L:Q05 (Q0i X.prog X.w) X.A (.compLoop (.ListComp b0 [⟨tg,A,b7,0⟩] a c1) 0 (.ref it) (.ref ⇑t) (compEnvC a ((w,⇑s3+1)::B) ⇑s3 X.env))
  (Q2w (Q0i X.prog X.w) X.A X.xe use Qf (.ref ⇑t) ⇑s3) { s3 with heap:=h₁ }:=by
  refine wP (λn O=>∃ i U H',aj Y [] (Q0a 1 none++σ) H' O/\tn i O.heap/\(∀ b∈N,H' b=none)/\W i n U H') ?_ m0 ⟨0,[],H3,I4,b9,d0,w0⟩
  rintro n s5 ⟨i,U,H5,I5,d1,c9,w5⟩
  rcases turn i n U H5 w5 with ⟨c3,qn⟩|⟨go,c2,step⟩
  .refine aG (T.done Y rfl rfl rfl hc i [] s5 _ H5 _ I5 (b5 c9) d1 c3) λr s6 hh9=>?_
   obtain⟨hr,I6⟩:=hh9
   subst hr
   exact d3 H5 s6 I6 qn
  .refine aG (T.item Y rfl rfl rfl hc i [] s5 _ H5 _ I5 (b5 c9) d1 go) λr s6 hh9=>?_
   obtain⟨u,hr,h6⟩:=hh9
   subst hr
   refine aG h6 λ_ s7 hh9=>?_
   obtain⟨x,H7,I7,r7,y7,a8,d7⟩:=hh9
   have I7':=I7.pinned (b5 d7) (T.obj _ _ a8)
   have g7:=d8 σ x H7 _ (step x H7 y7)
   refine aG (hg _ _ _ _ _ s7 _ H7 x u _ I7' r7 g7) λ_ s8 hh9=>?_
   obtain⟨σ8,H8,I8,a0,q8⟩:=hh9
   have again:∀ {σ9:St} {H9:Hp} {s9:zm} {zs:zD},aj Y ([]++X0 N s7.heap) σ9 H9 s9->ZI (Q0a 1 none++σ) σ9->(∃ m',m'<n/\W (i+1) m' zs H9) ->
    ∃ m,m<n/\∃ i U H',aj Y [] (Q0a 1 none++σ) H' s9/\tn i s9.heap/\(∀ b∈N,H' b=none)/\W i m U H':=λ{σ9 H9 s9 zs} I9 sub9 w9=>by
    obtain⟨m',hm,w9⟩:=w9
    refine⟨m',hm,i+1,zs,H9,(I9.sub sub9).unpinned,T.keep _ _ _ a8 λb j o e=>(I9.pin (b,o) (r9 _ (r9 _ (wb j e)))).1,λb j=>?_,w9⟩
    obtain⟨o,e,d⟩:=T.obj _ _ a8 b j
    exact(I9.pin (b,o) (r9 _ (r9 _ (wb j e)))).2.1
   refine aG (ht _ _ _ _ _ s8 σ8 H8 _ I8 q8) λb s9 hh9=>?_
   obtain⟨H9,I9,q9⟩:=hh9
   cases b with
   |false =>
    rw[j5 u7]at q9
    rw[j5 u7]
    exact again I9 a0 q9
   |true =>
    rw[t5 rfl]at q9
    rw[t5 rfl]
    refine aG (he _ _ _ _ _ s9 σ8 H9 _ I9 q9) λy R hh9=>?_
    obtain⟨yv,H10,I10,e4,a6,f0⟩:=hh9
    obtain⟨f1,G,k,rv,e9⟩:↥U<=sizeLine/\∃ (G:zC) (n:Nat),yy U G/\R.heap.get? ⇑t≈{ cls:=.type "list",data:=.seq G.toArray n }:=I10.hok _ _ a6
    have c5:R.heap.PlainList ⇑t G.toArray:=⟨k,e9⟩
    refine wpAny_list_append_plain (hsz:=by rw[j0,<- ↥rv];exact f1) c5 λf3 d5 c6=>?_
    obtain⟨k',c0⟩:=d5
    have I11:aj Y ([]++X0 N s7.heap) σ8 (aA H10 ⇑t (.lst (U++[yv]))) { R with heap:=f3 }:=by
     refine I10.write (x:=⇑t) (e:=⇑t) (t':=R.toks) (by rw[a6];exact Q0D) (.inl rfl) (λb u j e=>(c6.2 b j).trans e) ⟨_,c0⟩ ?_
     refine⟨by rw[j9];show ↥U+1<=sizeLine;exact c2,G++[y],k',rv.append (.cons e4 .nil),?_⟩
     rw[c0]
     simp
    exact again I11 a0 f0
 exact codeAny_compStart_list L (T.self _ 0 _ _ _ b9 L)
def zpN {X:Cx}{g:TG}{t:TE}(z:X.calm=true)(S:Y9 X j M a i)(u:PI X n b p)(k:∀ (σ:St) (v:V) (H:Hp) (Q:wS),g v (Q0a 1 none++σ) H Q->g v (Q0a 1 none++σ) H (λr H2=>ZI (Q0a 1 none++σ) r/\Q r H2))(A:∀ s₀ H₀ ex pn,PG (fD X j M a i s₀ H₀ ex pn) n g)(B:∀ s₀ H₀ ex pn,lz (fD X j M a i s₀ H₀ ex pn) e o)(w:∀ s₀ H₀ ex pn,PE (fD X j M a i s₀ H₀ ex pn) c t)(E:∀ x,Q0m b X.env x=pure x:=by intro _;rfl) :
 PE X (.ListComp c [⟨n,b,e,0⟩] a l) (nJ p 1 g o t):=by
 intro d s σ H Q I h
 rw[eval_ListComp]
 refine zlg z S u k A B w E _ d s σ H Q I h λD C H' J I' ⟨m,y⟩ f q=>⟨m,y,λG F=>⟨.ref D,_,I'.letGo f F,rfl,q⟩⟩
def R3 (names a b:List (Str × NameKind))(c:Str)(N M d:zF):Bool :=
 names.all (λy=>decide (y.2=.local->names.lookup y.1≈.local)) &&
 a.all (λy=>decide ((y.2=.cell\/y.2=.free)->y.1=c\/y.1∈d)) &&
 (↥M == ↥N)&&(M.zip N).all (λp=>decide ((a.lookup p.1≈.local\/a.lookup p.1≈.cell\/a.lookup p.1≈.free)->p.1=p.2)) &&
 M.all (λy=>decide ((a.lookup y≈.local\/a.lookup y≈.cell\/a.lookup y≈.free) ->
  y≠c/\(a.lookup y≈.cell\/a.lookup y≈.free)/\(b.lookup y≈.local\/b.lookup y≈.cell\/b.lookup y≈.free)/\b.lookup y≠some .local))
def zpg {X:Cx} {N:zF} {a:Scope} {d:Zg} (g:(Q0S a X.env).names=x) (w:X.env.scope.names=u) (z:X.N=N) (k:Q1F a X.env=pure d) (f:∀ n,Q0P n a.names d=(x0,n)::d) (j:∀ h,pushCells h a.names=h.push { cls:=.type "cell",data:=.cell none }) (kind:a.kind=.function) (E:d.map Q2O=q) (b:R3 a.names x u x0 N M q=true) (o:∀ p∈d,X.env.cells.lookup p.1≈p.2):Y9 X x0 M a d:=by
 unfold R3 at b
 simp only[k9,l5,k7]at b
 obtain⟨⟨⟨⟨B,t⟩,l⟩,C⟩,r⟩:=b
 have l:↥M=↥N:=by simpa using l
 refine⟨k,f,j,kind,B,λy c h=>o (y,c) (i0 h),λy h=>?_,by rw[z];exact l,λi y e v=>?_,λi y e v=>?_,λi y e v=>?_,λi y e v=>?_⟩
 .rw[g]at h
  have m:y=x0\/y∈q:=by
   rcases h with h|h
   .exact t _ (i0 h) (.inl rfl)
   .exact t _ (i0 h) (.inr rfl)
  exact m.imp id λm=>vI (by rw[E];exact m)
 .unfold bR at v
  rw[g]at v
  exact(r y (k6 e) v).1
 .unfold bR at v
  rw[g]at v
  have D:=(t8.mp e).1
  have s:i<↥N:=by rw[<-l];exact D
  have G:(M.zip N)[i]?≈(y,N[i]):=by
   rw[Sg]
   exact⟨e,j7 s⟩
  have:=C _ (k6 G) v
  rw[z,j7 s]
  exact bJ some this.symm
 .unfold bR at v
  rw[g]at v ⊢
  exact(r y (k6 e) v).2.1
 .unfold bR at v
  rw[g]at v
  obtain⟨_,_,A,F⟩:=r y (k6 e) v
  refine⟨?_,?_⟩
  .unfold bR;rw[w];exact A
  .show X.env.scope.names.lookup y≠_;rw[w];exact F
end L2
namespace Dl
open PySem L2
variable [KK]
def zoW {X:Cx}{f:Zg}{g:TG}(w:X.calm=true)(S:Y9 X x0 M a f)(s:ID X j d m)(h:∀ (σ:St) (v:V) (H:Hp) (Q:wS),g v (Q0a 1 none++σ) H Q->g v (Q0a 1 none++σ) H (λo H2=>ZI (Q0a 1 none++σ) o/\Q o H2))(k:RB 1 g b)(y:∀ s₀ H₀ ex pn,PG (fD X x0 M a f s₀ H₀ ex pn) j g)(q:∀ s₀ H₀ ex pn,TD (fD X x0 M a f s₀ H₀ ex pn) c l)(t:∀ s₀ H₀ ex pn,ED (fD X x0 M a f s₀ H₀ ex pn) e n)(u:∀ x,Q0m d X.env x=pure x:=by intro _;rfl):FL X (.ListComp e [⟨j,d,[c],0⟩] a i) (aL m b l n):=by
 obtain⟨z,p,r⟩:=s
 exact⟨_,zpN w S p h y (λ_ _ _ _=>Ou (q _ _ _ _).can) (λ_ _ _ _=>(t _ _ _ _).can) u,uT r k M6 Ab⟩
end Dl
namespace L2
open PySem PySem.Spec PyProof.Rows
section
variable {X:Cx}{a:Addr}{D:List (Str × Q2Q)}{nm:Str}{b:Expr}{p pos:Pos}{tb:TE}
def Uv (a:Addr)(D:List (Str × Q2Q)):R2:=λx y H Q=>∃ s,x=.str s/\y=.ref a/\Q (.bl (KTD.inKeys s D)) H
def zkh (T:∀ h:Heap,X.K.In h->Q2d h a D):aQ X (Q0l .In) (Uv a D):=by
 intro b s σ H x y v u Q I c d h
 obtain⟨z,rfl,rfl,q⟩:=h
 obtain⟨t,rfl⟩:=c
 cases d
 exact KTD.in_text ⟨T _ I.kIn,λ_ _ e=>e⟩ ⟨.bl _,H,I.tok _,rfl,q⟩
end
def KD {α:Type}:Sem α->Prop
 |.pure _=>True
 |.raise _=>True
 |.unsupported _=>True
 |.finish _=>True
 |.rule _ k=>KD (k ())
 |.at _ k=>KD (k ())
 |.load _ _ k=>∀ o,KD (k o)
 |.update _ _ f k=>(∀ o,(f o).dict=o.dict)/\KD (k ())
 |.loadIfAlive _ k=>∀ o,KD (k o)
 |.point _ k=>KD (k ())
 |.register _ _=>True
 |.alloc _ k=>∀ a,KD (k a)
 |.fresh k=>∀ t,KD (k t)
 |.ask k=>∀ x,KD (k x)
 |.handled _ k=>∀ x,KD (k x)
 |.stack k=>∀ x,KD (k x)
 |.thread k=>∀ n,KD (k n)
 |.choose _ _ _=>False
 |.os _ _ _=>False
 |.call _ _ _ _ _=>False
 |.newGen _ _=>False
 |.genState _ _=>False
 |.resume _ _ _ _=>False
 |.yield _ _ _ _=>False
 |.fork _ _=>False
 |.await _ _ _ _ _=>False
def znV {α β:Type}(f:α->Sem β)(i:∀ a,KD (f a)):∀ (m:Sem α),KD m->KD (m.bind f):=by
 intro m
 induction m with
 |pure a=>intro _;exact i a
 |raise e=>intro _;trivial
 |unsupported w=>intro _;trivial
 |finish e=>intro _;trivial
 |rule t k b=>intro h;exact b () h
 | «at» p k b=>intro h;exact b () h
 |load a p k b=>intro h o;exact b o (h o)
 |update a p g k b=>intro h;exact⟨h.1,b () h.2⟩
 |loadIfAlive a k b=>intro h o;exact b o (h o)
 |point l k b=>intro h;exact b () h
 |register a k b=>intro h;trivial
 |alloc o k b=>intro h a;exact b a (h a)
 |fresh k b=>intro h a;exact b a (h a)
 |ask k b=>intro h a;exact b a (h a)
 |handled o k b=>intro h a;exact b a (h a)
 |stack k b=>intro h a;exact b a (h a)
 |thread k b=>intro h a;exact b a (h a)
 |choose s n k b=>intro h;exact h.elim
 |os q l k b=>intro h;exact h.elim
 |call c h g l k b=>intro h;exact h.elim
 |newGen c k b=>intro h;exact h.elim
 |genState g k b=>intro h;exact h.elim
 |resume g r l k b=>intro h;exact h.elim
 |yield v g l k b=>intro h;exact h.elim
 |fork c k b=>intro h;exact h.elim
 |await a f d l k b=>intro h;exact h.elim
def yk {α β:Type}{m:Sem α}{f:α->Sem β}(b:KD m)(c:∀ a,KD (f a)):KD (m>>=f):=znV f c m b
def DK (h c:Heap):Prop:=∀ (b:Nat) (o:Obj),h.objs[b]?≈o->∃ a:Obj,c.objs[b]?≈a/\a.dict=o.dict
def DK.refl (h:Heap):DK h h:=λ_ o e=>⟨o,e,rfl⟩
def DK.trans {f:Heap}(a:DK d c)(b:DK c f):DK d f:=λp o e=>by
 obtain⟨j,k,h⟩:=a p o e
 obtain⟨l,i,g⟩:=b p j k
 exact⟨l,i,g.trans h⟩
def DK.push (h:Heap)(o:Obj):DK h (h.push o):=λb u e=>by
 refine⟨u,?_,rfl⟩
 obtain⟨a,l⟩:=h
 show(a.push o)[b]?≈u
 have c:b<a.size:=(CV.mp e).1
 rw[Array.getElem?_push_lt c]
 exact(CV.mp e).2 ▸ rfl
def DK.update (h:Heap)(a:Addr){f:Obj->Obj}(g:∀ o,(f o).dict=o.dict):DK h (h.update a f):=λb u e=>by
 obtain⟨c,l⟩:=h
 show ∃ d,(c.modify a f)[b]?≈d/\_
 rw[Array.getElem?_modify]
 have e:c[b]?≈u:=e
 split
 .rw[e];exact⟨f u,rfl,g u⟩
 .rw[e];exact⟨u,rfl,rfl⟩
def Oj {h:Heap}(e:h.get? b≈o):h.objs[b]?≈o:=by
 unfold Heap.get? at e
 split at e
 .cases e
 .exact e
def DK.of {h c:Heap}{o a:Obj}(k:DK h c)(e:h.get? b≈o)(g:c.get? b≈a):a.dict=o.dict:=by
 obtain⟨i,f,d⟩:=k b o (Oj e)
 rw[Oj g]at f
 cases f
 exact d
def T3 {α:Type}(M:Model)(Γ:PySem.Ctx):∀ (m:Sem α) (Q:α->Pos->Q0u->Prop) (E:Q0e->Pos->Q0u->Prop) (p:Pos) (s b:zm),KD m->DK b.heap s.heap->Sem.wp M Γ m Q E p s ->
 Sem.wp M Γ m (λa p j=>Q a p j/\DK b.heap j.heap) (λe p j=>E e p j/\DK b.heap j.heap) p s:=by
 intro m
 induction m with
 |pure a=>intro Q E p s b _ k h;exact⟨h,k⟩
 |raise e=>intro Q E p s b _ k h;exact⟨h,k⟩
 |unsupported w=>intro Q E p s b _ k h;exact h
 |finish e=>intro Q E p s b _ k h;exact h
 |rule t k i=>intro Q E p s b c d h;exact i () Q E p s b c d h
 | «at» p k i=>intro Q E p s b c d h;exact i () Q E _ s b c d h
 |load a p k i =>
  intro Q E p s b c d h
  obtain⟨o,e,h⟩:=h
  exact⟨o,e,i o Q E p s b (c o) d h⟩
 |update a p g k i =>
  intro Q E p s b c d h
  obtain⟨e,h⟩:=h
  exact⟨e,i () Q E p _ b c.2 (d.trans (.update s.heap a c.1)) h⟩
 |loadIfAlive a k i=>intro Q E p s b c d h;exact i _ Q E p s b (c _) d h
 |point l k i=>intro Q E p s b c d h;exact i () Q E p s b c d h
 |register a k i=>intro Q E p s b c d h;exact h
 |alloc o k i=>intro Q E p s b c d h;exact i _ Q E p _ b (c _) (d.trans (.push s.heap o)) h
 |fresh k i=>intro Q E p s b c d h;exact i _ Q E p _ b (c _) d h
 |ask k i=>intro Q E p s b c d h;exact i _ Q E p s b (c _) d h
 |handled o k i=>intro Q E p s b c d h;exact i _ Q E p s b (c _) d h
 |stack k i=>intro Q E p s b c d h;exact i _ Q E p s b (c _) d h
 |thread k i=>intro Q E p s b c d h;exact i _ Q E p s b (c _) d h
 |choose s n k i=>intro Q E p s b c;exact c.elim
 |os q l k i=>intro Q E p s b c;exact c.elim
 |call c h g l k i=>intro Q E p s b c;exact c.elim
 |newGen c k i=>intro Q E p s b c;exact c.elim
 |genState g k i=>intro Q E p s b c;exact c.elim
 |resume g r l k i=>intro Q E p s b c;exact c.elim
 |yield v g l k i=>intro Q E p s b c;exact c.elim
 |fork c k i=>intro Q E p s b c;exact c.elim
 |await a f d l k i=>intro Q E p s b c;exact c.elim
def zp6 {α:Type}{t:Sem α}{Q:α->Q0u->Prop}{E:yM}{s:zm}(c:KD t)(h:Q0d M A t Q E s) :
 Q0d M A t (λa b=>Q a b/\DK s.heap b.heap) (λe b=>E e b/\DK s.heap b.heap) s:=fun Γ p d=>T3 M Γ t _ _ p s s c (.refl _) (h Γ p d)
def Vy {α:Type}{t:Sem α}{Q Q':α->Q0u->Prop}{s:zm}(c:KD t)(h:Q0d M A t Q E s)(k:∀ a b,Q a b->DK s.heap b.heap->Q' a b):Q0d M A t Q' E s :=
 cG (zp6 c h) (λa b x=>k a b x.1 x.2) λ_ _ x=>x.1
def zdJ (v:Q0e):KD (fieldsOf v):=by
 unfold fieldsOf
 split
 .refine yk (λ_=>trivial) λo=>?_
  split <;> trivial
 .trivial
def WH (v:Q0e)(i:Nat):KD (field v i):=by
 unfold field
 refine yk (zdJ v) λa=>?_
 split <;> trivial
def V6 (f:wc->wc)(o:Obj):(Q2q f o).dict=o.dict:=by
 obtain⟨c,d,x,s⟩:=o
 cases x <;> rfl
def Zy (v:Q0e)(i:Nat)(x:Q0e):KD (setField v i x):=by
 unfold setField
 split
 .unfold updateField
  refine yk (λ_=>trivial) λo=>?_
  split
  .split
   .exact⟨V6 _,trivial⟩
   .trivial
  .trivial
 .trivial
def YA (e:Q0e)(f:y1):KD (setFlight e f):=by
 unfold setFlight
 refine yk (WH e 1) λa=>?_
 split
 .exact Zy _ _ _
 .trivial
def zdn (ty:String)(b:zC):KD (newFields ty b):=by
 have a:KD (newObjAsIs (Q0A ty) (Data.fields b.toArray)):=yk (λ_=>trivial) λ_=>trivial
 unfold newFields newObj
 show KD (if b.toArray.size>sizeLine+2 then _ else _)
 by_cases h:b.toArray.size>sizeLine+2
 .rw[t5 h]
  exact yk (show KD (unsupported (α:=Unit) _)from trivial) λ_=>a
 .rw[j5 h]
  exact a
def zd6 (a b c d e:Q0e)(pl:zC):KD (Q2c a b c d e pl):=zdn _ _
def zla (f:Addr)(b:Bool):KD (entryPlaceOf f b):=by
 unfold entryPlaceOf
 refine yk (λ_=>trivial) λa=>?_
 split <;> trivial
def zb1:KD frameEnvs:=by
 unfold frameEnvs
 exact yk (λ_=>trivial) λ_=>trivial
def zke:∀ l:List Env,KD (readyFrames l):=by
 intro l
 induction l with
 |nil=>trivial
 |cons env outer a =>
  unfold readyFrames
  split
  .refine yk (λ_=>trivial) λo=>?_
   split
   .trivial
   .refine yk ?_ λb=>yk ?_ λbk=>yk ⟨λo=>rfl,trivial⟩ λ_=>a
    .unfold behindIsImport
     split
     .trivial
     .split
      .trivial
      .exact yk (WH _ _) λ_=>trivial
    .unfold keptBack
     split
     .split
      .trivial
      .unfold underTheClaimsCaller
       exact yk (λ_=>trivial) λ_=>trivial
     .trivial
  .trivial
def zfK (env:Env):KD (Q2r env):=by
 unfold Q2r
 refine yk zb1 λl=>yk ?_ λo=>?_
 .unfold frameObject
  split
  .trivial
  .exact yk (zke _) λ_=>trivial
 .split <;> trivial
def Wj (e:Q0e)(env:Env):KD (noteFrame e env):=by
 unfold noteFrame
 split
 .rename_i f c
  refine yk (WH e 1) λa=>?_
  have b:KD (do setField e 1 (<- Q2c a (<- Q2r env) .none (Q1H f) .none (<- entryPlaceOf f (a != .none)))):=yk (zfK env) λ_=>yk (zla _ _) λ_=>yk (zd6 _ _ _ _ _ _) λ_=>Zy _ _ _
  by_cases h:(a != Q0z)=true
  .dsimp only
   rw[t5 h]
   refine yk (WH a 3) λx=>?_
   split
   .trivial
   .exact yk (Zy _ _ _) λ_=>b
  .dsimp only
   rw[j5 h]
   exact b
 .trivial
def RZ (env:Env)(e:Q0e):KD (leaving env e):=yk (Wj e env) λ_=>YA e none
end L2
namespace L2
open PySem PySem.Spec PyProof.Rows
open Sem (wp)
section
variable {prog:zO}{w:Q0k}{A:zP}{E:yM}{h:Heap}{g:Array GenState}{d:Drawn}{t:Nat}{os:OsState}
 {nm q:Str} {C N fI:Addr} {bs bm:zC} {hdct:Bool} {sn:zF} {sub:zC} {ab:Bool} {col:Option Bool} {dd:y1} {k0 k1 k2 k3 k5:Option Q0e} {mN:wA} {us:zC} {oI:Obj}
end
end L2
namespace L2
open PySem PySem.Spec PyProof.Rows
section
variable {prog:zO}{w:Q0k}{A:zP}{E:yM}{s:zm}{env:Env}
 {nm q:Str} {C N fI:Addr} {bs bm:zC} {hdct:Bool} {sn:zF} {sub:zC} {ab:Bool} {col:Option Bool} {dd:y1} {k0 k1 k2 k3 k5:Option Q0e} {mN:wA} {oI:Obj}
end
end L2
namespace L2
open PySem PySem.Spec PyProof.Rows PySem.Builtin PySem.Builtin.ObjectAttr
abbrev veV:zC:=[.type "ValueError",.type "Exception",.type "BaseException",.type "object"]
def KN:zC->Bool
 |.ref _::r=>KN r
 |l=>l == veV
structure U0 (K:zA) (C:Addr):Prop where
 cls:∃ cd,W.clsIn K C≈cd/\KN cd.mro=true/\cd.hasDict=true
 sa:Q0E K (.ref C) "__setattr__"≈(some (.builtin "object.__setattr__"))
 ga:Q0E K (.ref C) "__getattribute__"≈(some (.builtin "BaseException.__getattribute__"))
 gt:Q0E K (.ref C) "__getattr__"≈none
 sb:W.subIn K (.ref C) (.type "BaseException")≈true
end L2
namespace L2
open PySem PySem.Spec PyProof.Rows
section
variable {P:zO}{w:Q0k}{H H':Hp}{h h':Heap}{a:Addr}{o:HO}
def yU.ex (x:yU P w H h a o):∃ u,h.get? a≈u:=by
 cases o with
 |lst g=>obtain⟨_,_,_,_,e⟩:=x;exact⟨_,e⟩
 |tup g=>obtain⟨_,_,_,c,e,_⟩:=x;exact⟨_,e⟩
 |dK b=>obtain⟨_,_,_,_,o,_,_,e,_⟩:=x;exact⟨_,e⟩
 |dT b=>obtain⟨_,_,_,_,o,_,_,e,_⟩:=x;exact⟨_,e⟩
 |set S n=>obtain⟨o,_,_,_,e,_⟩:=x;exact⟨_,e⟩
 |ins C l d=>obtain⟨_,_,_,e,_⟩:=x;exact⟨_,e⟩
 |own y=>exact x
 |xd d=>obtain⟨_,⟨_,_,_,e,_⟩,_⟩:=x;exact⟨_,e⟩
 |rng k i=>obtain⟨_,_,_,e⟩:=x;exact⟨_,e⟩
 |frz c u=>obtain⟨e,_⟩:=x;exact⟨_,e⟩
 |tbl j=>exact⟨_,(show h.get? a≈_ from x)⟩
 |met f y=>exact⟨_,(show h.get? a≈_ from x)⟩
 |ext φ=>obtain⟨_,⟨_,e⟩,_⟩:=x;exact⟨_,e⟩
theorem aW.stays (x:aW P w H h)(k:∀ b u,H b≠none->h.get? b≈u->h'.get? b≈u):aW P w H h':=λa o e =>
 (x a o e).stay (λb u c q=>k b u (by
  rcases c with rfl|c
  .rw[e];intro z;cases z
  .rw[c];intro z;cases z) q) (λ_ q=>q) λ_ _ q=>q
end
structure nY (outer:List Env) (H:Hp) (h:Heap) (H':Hp) (h' B:Heap):Prop where
 old:∀ b o,h.get? b≈o->H b=none->b∉bM outer->B.get? b≈o
 there:∀ b o,h.get? b≈o->b∉bM outer->∃ o',B.get? b≈o'
 new:∀ b o,H' b≠none->h'.get? b≈o->B.get? b≈o
def Wp (h:Heap)(a:Addr)(c:y1):Prop:=∃ b,h.get? a≈b/\b.dict=c
def Wp.stay {b:Heap}{f:y1}(d:Wp h a f)(k:DK h b)(e:∃ i,b.get? a≈i):Wp b a f:=by
 obtain⟨i,l,j⟩:=d
 obtain⟨c,g⟩:=e
 exact⟨c,g,(k.of l g).trans j⟩
def bD (P:zO)(w:Q0k):dq:=λouter H s E e a =>
 ∃ (b C t:Addr) (c:y1) (H':Hp) (B:Heap),e=.ref b/\a.os=s.os/\Q1y a.gens/\Un (bM outer) [] H H' s.heap a.heap/\aW P w H' a.heap /\
  Q1x B outer b (.ref C) (.ref t) a.heap/\nY outer H s.heap H' a.heap B/\Wp a.heap b c/\E (.ref C) c H'
section
variable {X:Cx}{pins:xz}{σ:St}{H H':Hp}{s s':zm}{E:XK}{e:Q0e}{M:Model}{E2:yM}
def aj.airUn (m:X.ex=[])(I:aj X pins σ H s){g B:Heap}(J:aj X pins σ H' s')(f:nY X.stack H s.heap H' s'.heap B)(j:B.StaysIn g)(r:g.FunFrames B X.outer)(y:s'.heap.UpToSlots g) :
 Un X.fs [] X.H₀ H' X.s₀.heap g/\aW X.prog X.w H' g/\nY X.outer X.H₀ X.s₀.heap H' g B:=by
 have p:∀ b o,X.s₀.heap.get? b≈o->b≠X.env.locals:=λb o e=>r4 (q5 (j4 e) I.ok.above)
 have h:∀ b o,X.s₀.heap.get? b≈o->b∉X.fs->b∉bM X.stack:=λb o e n z=>(t9.mp (I.stkSub b z)).elim (p b o e) n
 have nx:∀ b:Addr,b∉X.ex:=by rw[m];simp
 have c:nY X.outer X.H₀ X.s₀.heap H' g B:=by
  refine⟨λb o e n a=>f.old b o (I.base.keep b o e n a (nx b)) (I.base.free b o e n (nx b)) (h b o e a),λb o e a=>?_,λb o a e=>?_⟩
  .obtain⟨i,k⟩:=I.base.there b o e (nx b)
   exact f.there b i k (h b o e a)
  .cases q:H' b with
   |none=>exact absurd q a
   |some u =>
    obtain⟨v,D⟩:=(J.hok b u q).ex
    have z:=f.new b v a D
    have t:=j b v z
    rw[e]at t
    cases t
    exact z
 refine⟨⟨λb o e n a _=>j b o (c.old b o e n a),λb o e n a _=>?_,λb o e n _=>J.base.free b o e n (nx b),λb o e _=>?_,J.base.tups,J.base.frzs,J.base.tbls⟩,J.hok.stays λb u a C=>j b u (f.new b u a C),c⟩
 .obtain⟨F,E⟩:=J.base.slot b o e n a (nx b)
  obtain⟨_,w,d,A⟩:=I.ok.funs.mem a
  rw[e]at d
  cases d
  obtain⟨l,x⟩:=y b _ E A
  exact⟨l,x⟩
 .by_cases a:b∈X.fs
  .obtain⟨_,w,d,_⟩:=r.mem a
   exact⟨w,d⟩
  .obtain⟨i,k⟩:=c.there b o e a
   exact⟨i,j b i k⟩
def zpp (h:X.stack=X.env::X.outer)(v:X.env.frame≈X.env.locals)(m:X.ex=[])(I:aj X pins σ H s)(a:bD X.prog X.w X.stack H s E e s') :
 Q0d M X.A (leaving X.env e) (λ_ d=>bD X.prog X.w X.outer X.H₀ X.s₀ E e d) E2 s':=by
 obtain⟨n,C,t,y,H',B,rfl,os,c,p,i,o,j,r,w⟩:=a
 have J:aj X pins σ H' s':=I.call' (ch:=[]) os p i c (λb z=>nomatch z)
 rw[h]at o
 refine Vy (RZ _ _) (wpAny_leaves_onW (Q:=λ_ d=>∃ f,d={ s' with heap:=f }/\Q1x B X.outer n (.ref C) (.ref t) f/\s'.heap.UpToSlots f) (by rw[I.ok.frames,h]) v o λf g k=>⟨f,rfl,g,k⟩) ?_
 rintro _ _ ⟨f,rfl,g,k⟩ A
 obtain⟨D,x,u⟩:=I.airUn m J j g.1 g.2.2.1 k
 obtain⟨q,l,_⟩:=g.there
 exact⟨n,C,t,y,H',B,rfl,os.trans I.os,c,D,x,g,u,r.stay A ⟨q,l⟩,w⟩
end
def Y5 {P:zO}{w:Q0k}{K:zA}{h:wA}{d:Heap}{N:zF}{c:Str}{b:Scope}{f:Addr}{g:Q0e}{A:zP}{outer:List Env}{s:zm}{H:Hp}{E:XK} :
 vr (bD P w) (ZR (bD P w) P w K h d N c b f g A outer s H E) E:=λi σ H1 j e k I a =>
 zpp (X:=ZR (bD P w) P w K h d N c b f g A outer s H E) rfl rfl rfl I a
def zjd {P:zO}{w:Q0k}{K:zA}{B:wA}{g:Heap}{N:zF}{j:Str}{d:Scope}{f:Addr}{F:Q0e}{A:zP}{outer:List Env}{s:zm}{H:Hp}{E:XK}
 {k:xz} {σ:St} {H1:Hp} {i:zm} {l:Heap} {n C:Addr} {args:zC}
 (I:aj (ZR (bD P w) P w K B g N j d f F A outer s H E) k σ H1 i) (D:Heap.MadeExcOf i.heap l n (.ref C) args) (hE:E (.ref C) none H1) :
 (ZR (bD P w) P w K B g N j d f F A outer s H E).xe (.ref n) { i with heap:=l }:=by
 let X:=ZR (bD P w) P w K B g N j d f F A outer s H E
 have I:aj X k σ H1 i:=I
 have c:∀ b o,i.heap.get? b≈o->l.get? b≈o:=D.keeps
 have M:∀ env∈X.stack,∀ a,env.frame≈a->a∈bM X.stack:=λenv V a ha=>Iz.mpr ⟨env,V,ha⟩
 have J:aj X k σ H1 { i with heap:=l }:=by
  have:=I.un (t':=i.toks) (H':=H1) (h':=l) (Un.kept c) (I.hok.kept c)
  exact this
 show Q0d (Q0i P w) X.A (leaving X.env (.ref n)) (λ_ p=>bD P w outer H s E (.ref n) p) _ { i with heap:=l }
 refine Vy (RZ _ _) (wpAny_leaves_madeW (Q:=λ_ p=>∃ m t,p={ i with heap:=m }/\Q1x (Q10 i.heap (bM X.stack)) outer n (.ref C) (.ref t) m/\l.UpToSlots m) (base:=Q10 i.heap (bM X.stack)) (h:=i.heap) (L:=X.env.locals) (outer:=outer) (I.ok.frames) rfl (λb o q=>PySem.W.of_hideAll _ q) (PySem.W.funFrames_hide I.stack M) D λm t r x2 x3 G=>⟨m,t,rfl,r,G⟩) ?_
 rintro _ _ ⟨m,t,rfl,r,G⟩ T
 obtain⟨O,x,_⟩:=r.there
 have W:Wp m n none:=by
  obtain⟨U,y,_⟩:=D.there
  exact Wp.stay (h:=l) ⟨_,y,rfl⟩ T ⟨O,x⟩
 have R:nY X.stack H1 i.heap H1 l (Q10 i.heap (bM X.stack)):=by
  refine⟨λb o e _ v=>Cp _ e v,λb o e v=>⟨o,Cp _ e v⟩,λb o v e=>?_⟩
  cases q:H1 b with
  |none=>exact absurd q v
  |some u =>
   obtain⟨O,S⟩:=(I.hok b u q).ex
   have z:=c b O S
   rw[e]at z
   cases z
   exact Cp _ S λz=>v (I.stkFree b z)
 obtain⟨u1,Y,Z⟩:=I.airUn (X:=X) rfl J R r.1 r.2.2.1 G
 exact⟨n,C,t,none,H1,_,rfl,I.os,I.bare,u1,Y,r,Z,W,hE⟩
abbrev JV:zC:=[.type "ValueError",.type "Exception",.type "BaseException",.type "object"]
structure sY (K:zA) (mg:wA) (C:Addr) (x:Str):Prop where
 bound:mg x≈(.ref C)
 exc:W.excIn K C JV "ValueError.__new__"=true
def zoY {K:zA}{r:Heap}(X:K.In r)(q:W.excIn K C h a=true) :
 ∃ o N x q u f s d w c v k i p m j y,r.get? C≈(excClassObj x q C N u o f s d w c v k i p m j a)/\r.Ns N y/\y "__init__"=none/\OwnTail r h o:=by
 unfold W.excIn at q
 split at q
 .rename_i v D z H
  split at q
  .rename_i C' o k i p m n j B A
   simp only[k9,fJ,Jf]at q
   obtain⟨⟨⟨⟨⟨rfl,rfl⟩,b⟩,E⟩,e⟩,g⟩:=q
   obtain⟨x,u,G,ns,F,I,s,d,w,c,J⟩:=D
   dsimp only at B b e g
   subst B b
   have t:z=#[k,i,p,m,some (.builtin n),j]:=by
    obtain⟨l⟩:=z
    simp only at A
    rw[A]
   subst t
   exact⟨o,ns,x,F,u,I,s,d,w,c,v,k,i,p,m,j,_,X _ _ H,.of_isNs (W.isNs_of_in X e),W.nsMap_none_of_in X e g,W.tail_of_in X E⟩
  .cases q
 .cases q
def zlB {P:zO}{w:Q0k}{K:zA}{m:wA}{d:Heap}{N:zF}{b:Str}{a:Scope}{f:Addr}{o:Q0e}{A:zP}{outer:List Env}{s:zm}{H:Hp}{E:XK}{C:Addr}{x:Str}{O j l:Pos}
 (B:sY K m C x) (V:Gl (ZR (bD P w) P w K m d N b a f o A outer s H E) x) (Q:(x == ("__debug__":Str))=false:=by decide) :
 PS (ZR (bD P w) P w K m d N b a f o A outer s H E) (.Raise (some (.Call (.Name x O) [] [] j)) none l) (λ_ _ H1=>E (.ref C) none H1):=by
 intro J W σ H1 D I h
 obtain⟨R,N',t,q,y,c,r,i,F,g,z,v,p,L,G,u,n,M,U,k,T⟩:=zoY I.ok.mod.kin B.exc
 refine wpAny_Raise_call_subU (C:=C) (nm:=t) (q:=q) (N:=N') (bs:=y) (bm:=R) (hdct:=c) (sn:=r) (sub:=i) (ab:=F) (col:=g) (dd:=z) (k0:=v) (k1:=p) (k2:=L) (k3:=G) (k5:=u)
  Jh ⋯ Jh (mN:=n) (T.hasType Jh.hasBase) (I.ok.hd rfl) rfl k (YH I V B.bound ⟨rfl,?_⟩ Q)
 exact evalArgs_empty ⟨rfl,cO _,I.bk _ _ M,U.keeps I.bk,T.keeps I.bk,λX e S=>zjd I S h⟩
def zk2:PA X a (λ_ _ _=>False):=λ_ _ _ _ _ _ _ h=>h.elim
end L2
namespace Dl
open PySem L2
def rZ (j:Nat):Option (List (Str × V)):=match j/16%4 with
 |0=>none
 | 1=>some [("at",.int ((j/64:Nat)-1))]
 | 2=>some [("row",.int ((j/64:Nat)-1))]
 | _=>some [("many",.int ((j/64/1024:Nat):Int)),("most",.int ((j/64%1024:Nat):Int))]
variable [KK]
section
variable (E:XK)(cl:Nat->Addr)
def EJ (j:Nat)(H:Hp):Prop:=match rZ j with
 |none=>E (.ref (cl j)) none H
 |some b=>∀ a,H a=none->E (.ref (cl j)) (some a) (aA H a (.xd b))
def Wi (F H:Hp)(j:Nat):Prop:=∀ F' H',Gr F H F' H'->EJ E cl j H'
def RXE (t:TE)(a:eN):Prop:=∀ (σ:St) (ρ:Ev) (F H:Hp) (j:Nat) (Q:VK),zZ F H->cI F ρ σ->a ρ≈j->Wi E cl F H j->t σ H Q
def RXA (t:TA)(a:eN):Prop:=∀ (σ:St) (ρ:Ev) (F H:Hp) (j:Nat) (Q:zD->Hp->Prop),zZ F H->cI F ρ σ->a ρ≈j->Wi E cl F H j->t σ H Q
def S5 (t:TS)(a:wV):Prop:=∀ (Fb Hb F H:Hp) (ρ:SE) (σ:St) (D':cj) (j:Nat),Rl Fb Hb F H ρ σ->a ρ≈j->Wi E cl Fb Hb j->t D' σ H
def XE (X:Cx)(e:Expr)(a:eN):Prop:=∃ t,PE X e t/\RXE E cl t a
def XA (X:Cx)(a:y0)(b:eN):Prop:=∃ t,PA X a t/\RXA E cl t b
def XS (X:Cx)(a:Stmt)(b:wV):Prop:=∃ t,PS X a t/\S5 E cl t b
def eZ (X:Cx)(a:vu)(b:wV):Prop:=∃ t,bH X a t/\S5 E cl t b
end
section
variable {E:XK}{cl:Nat->Addr}{X:Cx}{a b c e:Expr}{es:y0}{st:Stmt}{sts:vu}{pos pos':Pos}
def Wi.grow (w:Wi E cl F H j)(g:Gr F H F1 H1):Wi E cl F1 H1 j:=λF' H' a=>w F' H' (g.trans a)
def Wi.out (w:Wi E cl Fb Hb j)(a:Rl Fb Hb F H ρ σ):Wi E cl (cW ρ σ F H) H j:=λF' H' g=>w F' H' (a.out g)
def nM (cl:Nat->Addr)(m:Nat)(r:jJ):Sp:=λb H _ E=>∃ a j F,↥a=m/\zZ F H/\ao F a b/\r a≈j/\Wi E cl F H j
def jn (m:Nat)(r:jJ)(f:yL):eN:=fun ρ=>(f ρ).bind λa=>if ↥a=m then r a else none
def Vo {k:Nat} {f:Addr} {g:vv} (F:wt X.prog X.w X.K X.mg X.base (bD X.prog X.w) k f g h (nM cl m r)) (C:vr (bD X.prog X.w) X E) (G:xH k X.A) (K:Gl X x) (I:X.mg x≈(.ref f)) (n:Q0H X.K (.ref f)=true) (u:vf X.K g h []) (z:AD X (e::es) i) (c:(x == ("__debug__":Str))=false:=by decide) (B:Q0c (e::es) X.env=(false,eval e X.env)::Q0c es X.env:=by rfl) (b:(Q0v pos (Q0c es X.env)).any (·.1)=false:=by rfl) :
 XE E cl X (.Call (.Name x v) (e::es) [] pos) (jn m r i):=by
 obtain⟨t,A,o⟩:=z
 refine⟨_,Ny F G K I n u .nil C A c B b,fun σ ρ F0 H j Q s p e w=>?_⟩
 obtain⟨d,J,a⟩:=u4.mp e
 split at a <;> try cases a
 rename_i q
 refine o σ ρ F0 H d _ s p J λF1 H1 L l y=>?_
 exact⟨d,j,F1,q,l.fh,by rw[p7];exact y,a,w.grow l⟩
def Gv {b:eN}(h:XE E cl X a b)(d:Q0c (a::es) X.env=(false,eval a X.env)::Q0c es X.env:=by rfl):XA E cl X (a::es) b:=by
 obtain⟨t,p,r⟩:=h
 exact⟨_,zw p zk2 d,fun σ ρ F H j Q s c e w=>r σ ρ F H j _ s c e w⟩
def znv {b:eN}(h:XE E cl X e b)(c:Q0q e none pos.line X.env=pure false:=by rfl):XS E cl X (.Expr e pos) (fun ρ=>b (visG ρ)):=by
 obtain⟨t,p,r⟩:=h
 exact⟨_,XH p c,λFb Hb F H ρ σ D' j a e w=>r σ _ _ H j _ a.gh a.visG e (w.out a)⟩
def FT {b:eN}(h:XE E cl X e b):XS E cl X (.Return (some e) pos) (fun ρ=>b (visG ρ)):=by
 obtain⟨t,p,r⟩:=h
 exact⟨_,XY p,λFb Hb F H ρ σ D' j a e w=>r σ _ _ H j _ a.gh a.visG e (w.out a)⟩
def Lf {i:Nat}{b:eN}(k:X.N.Nodup)(c:X.N[i]?≈x)(f:eF X.env.scope x)(h:XE E cl X e b)(d:Q0q e (some (.Name x pos')) pos.line X.env=pure false:=by rfl)(g:X.fn x=true\/X.env.scope.names.lookup x≈.local:=by first|exact .inl rfl|exact .inr rfl|assumption):XS E cl X (.Assign [.Name x pos'] e pos) (fun ρ=>b (visG ρ)):=by
 obtain⟨t,p,r⟩:=h
 exact⟨_,YE k c f p d g,λFb Hb F H ρ σ D' j a e w=>r σ _ _ H j _ a.gh a.visG e (w.out a)⟩
noncomputable def jW (t:vL)(g h:wV):wV:=fun ρ=>match t (visG ρ) with
 |some true=>g ρ
 |some false=>h ρ
 |none=>none
def Ez {e f:vu}{t:vL}{g:wV}(q:TD X c t)(o:eZ E cl X e g)(n:eZ E cl X f h):XS E cl X (.If c e f pos) (jW t g h):=by
 obtain⟨v,s,i⟩:=q
 obtain⟨u,p,l⟩:=o
 obtain⟨x,m,r⟩:=n
 refine⟨_,Ep s p m,λFb Hb F H ρ σ D' j b k w=>?_⟩
 unfold jW at k
 cases h:t (visG ρ) with
 |none=>rw[h]at k;cases k
 |some d =>
  rw[h]at k
  refine i σ _ _ H d _ b.gh b.visG h λF' H' g=>?_
  have a:=b.grow (b.back g).1
  cases d with
  |true=>rw[t5 rfl];exact l Fb Hb _ H' ρ σ D' j a k w
  |false=>rw[j5 u7];exact r Fb Hb _ H' ρ σ D' j a k w
def di:wV:=λ_=>none
def wT:XS E cl X st di:=⟨_,QM,λ_ _ _ _ _ _ _ _ _ h _=>by cases h⟩
def Zx {g:wV}(h:XS E cl X st g):eZ E cl X [st] g:=let ⟨_,p,r⟩:=h;⟨_,Yf p,r⟩
noncomputable def dO (c:wV)(g:zM)(b:wV):wV:=fun ρ=>match c ρ with
 |some j=>some j
 |none=>match g ρ with
  |.nx a=>b a
  |_=>none
def wX {c:wV}{g:zM}(t:XS E cl X st c)(r:SD X st g)(q:eZ E cl X sts l):eZ E cl X (st::sts) (dO c g l):=by
 obtain⟨o,A,y⟩:=t
 obtain⟨v,n,p⟩:=r
 obtain⟨u,x,m⟩:=q
 have d:PS X st (λD σ H=>o D σ H\/v D σ H):=λa s σ H D I h=>h.elim (A a s σ H D I) (n a s σ H D I)
 refine⟨_,xy d x,λFb Hb F H ρ σ D' j i k w=>?_⟩
 unfold dO at k
 cases f:c ρ with
 |some C =>
  rw[f]at k
  cases k
  exact .inl (y Fb Hb F H ρ σ _ j i f w)
 |none =>
  rw[f]at k
  dsimp only at k
  cases b:g ρ with
  |nx B =>
   rw[b]at k
   refine .inr (p Fb Hb F H ρ σ _ i ?_)
   rw[b]
   exact λF' H' z e=>m Fb Hb F' H' B z D' j e k w
  |rt _=>rw[b]at k;cases k
  |bk _=>rw[b]at k;cases k
  |ct _=>rw[b]at k;cases k
  |no=>rw[b]at k;cases k
def YG {g:wV}(h:XS E cl X st g):eZ E cl X (st::sts) g:=by
 obtain⟨t,p,r⟩:=h
 exact⟨_,xy p (λ_ _ _ _ _ _ h=>(h:False).elim),λFb Hb F H ρ σ D' j a k w=>r Fb Hb F H ρ σ _ j a k w⟩
end
def Ly (j:Nat):wV:=λ_=>some j
def zkM {w:Q0k} {N:zF} {f:Addr} {cl:Nat->Addr} {g:Pos} (m:sY K h (cl j) x) (o:Gl (ZR (bD P w) P w K h c N b a f i A outer s H E) x) (l:(x == ("__debug__":Str))=false:=by decide) (n:rZ j=none:=by rfl) :
 XS E cl (ZR (bD P w) P w K h c N b a f i A outer s H E) (.Raise (some (.Call (.Name x p) [] [] d)) none g) (Ly j) :=
 ⟨_,zlB m o l,λFb Hb F H ρ σ D' q k e w=>by
  cases e
  have z:=w F H k.gr
  unfold EJ at z
  rw[n]at z
  exact z⟩
noncomputable def lq (n:Nat)(b:wV)(a:zl):Option Nat:=b (a.map .v++Q0a (n-↥a) .no)
def qd {w:Q0k}{g:Heap}{f:Addr}{N ps:zF}{k:Nat}{gx:wV}(Fu:cg K x b i f o)(S:yZ N ps (zo i))(B:∀ (c:Q0e) (A:zP) (outer:List Env) (s:zm) (H:Hp) (E:XK),xH k (A.deeper (Q0p b (zo i) ⇑s f c))->eZ E cl (ZR (bD P w) P w K u g N b (zo i) f c A outer s H E) (ym i) gx) :
 wt P w K u g (bD P w) (k+1) f o ps (nM cl ↥ps (lq ↥N gx)):=by
 obtain⟨J,M,kV,z,L,O,c,ct,D,rfl,C,m⟩:=Fu.ex
 refine K4 C m S (λv H Q E h=>?_) λA outer s H v Q E I l=>?_
 .obtain⟨y,d,F,n,_,a,_⟩:=h
  rw[↥a];exact n
 .obtain⟨y,j,F,n,G,a,e,q⟩:=l
  obtain⟨t,p,r⟩:=B c A outer s H E I
  exact⟨t,p,r F H F H _ _ _ j (WQ G a) e q⟩
end Dl
namespace L2
open PySem PySem.Spec PyProof.Rows
section
variable {X:Cx}{pins:xz}{σ:St}{H H':Hp}{s s':zm}{E:XK}{e:Q0e}{E2:yM}{B h3:Heap}
def aj.caught (I:aj X pins σ H s)(os:s'.os=s.os)(g:Q1y s'.gens)(f:Un (bM X.stack) [] H H' s.heap s'.heap)(w:aW X.prog X.w H' s'.heap)(d:nY X.stack H s.heap H' s'.heap B)
 (t:B.StaysIn h3) (v:h3.FunFrames B X.stack) (x:s'.heap.UpToSlots h3):aj X pins σ H' { s' with heap:=h3 }:=by
 obtain⟨N,p,i,j,h⟩:=s'
 have J:h=s.os:=os
 subst J
 have nil:∀ b:Addr,b∉([]:xt):=λb z=>nomatch z
 show aj X pins σ H' { s with heap:=h3,gens:=p,drawn:=i,toks:=j }
 refine I.step (s:=s) (g':=p) (d':=i) (t':=j) (ch:=[]) (λb z=>nomatch z) (λb o y c _ e n=>t b o (d.old b o e n λz=>(t9.mp (I.stkSub b z)).elim y c)) (λb o y c _ e n=>?_) (λb o _ e n=>f.free b o e n (nil b)) (λb o _ e=>?_) f.tups f.frzs f.tbls (λm L=>?_) (w.stays λb u c K=>t b u (d.new b u c K)) g
 .obtain⟨G,q⟩:=f.any e n (nil b)
  obtain⟨_,A,a,l⟩:=I.funs.mem c
  rw[e]at a
  cases a
  obtain⟨k,D⟩:=x b _ q l
  exact⟨k,D⟩
 .by_cases c:b∈bM X.stack
  .obtain⟨_,A,a,_⟩:=v.mem c
   exact⟨A,a⟩
  .obtain⟨h,C⟩:=d.there b o e c
   exact⟨h,t b h C⟩
 .obtain⟨o,M,F,E,l,r⟩:=L
  obtain⟨G,q⟩:=f.any E I.free (nil _)
  exact x.ns ⟨_,M,F,q,l,r⟩
def zgv (n:X.stack=X.env::X.outer)(hf:X.env.frame≈X.env.locals)(J:X.ex=[])(I:aj X pins σ H s)(a:bD X.prog X.w X.stack H s E e s') (k:∀ (b C t:Addr) (y:y1) (H':Hp) (B h3:Heap),E (.ref C) y H'->Wp h3 b y->H' b=none->(∀ j,X.s₀.heap.get? b≈j->False)->(∀ p∈X.pn++pins,p.1≠b)->Q1x B X.stack b (.ref C) (.ref t) h3->(∀ r:Heap,B.StaysIn r->r.FunFrames B X.stack->h3.UpToSlots r->aj X pins σ H' { s' with heap:=r }) ->
 e=.ref b->Q0d M X.A (handleBy (.ref b) X.env U) Q E2 { s' with heap:=h3 }) :
 Q0d M X.A (noteFrame e X.env) (λ_ s₂=>Q0d M X.A (setFlight e none) (λ_ Z=>Q0d M X.A (handleBy e X.env U) Q E2 Z) E2 s₂) E2 s':=by
 obtain⟨b,C,t,y,H',B,rfl,os,x,V,A,F,l,W,hE⟩:=a
 have S:X.A.frames≈(X.env::X.outer):=by rw[I.ok.frames,n]
 have o:=F
 rw[n]at o
 refine Vy (Wj _ _) (wpAny_looks_onW (Q:=λ_ i=>∃ f,i={ s' with heap:=f }/\Heap.HeldW B (X.env::X.outer) b (.ref C) (.ref t) X.env.locals f/\s'.heap.UpToSlots f) S hf o λf c h=>⟨f,rfl,c,h⟩) ?_
 rintro _ _ ⟨f,rfl,c,h⟩ P
 refine Vy (YA _ _) (wpAny_landsW (Q:=λ_ i=>∃ h3,i={ s' with heap:=h3 }/\Q1x B (X.env::X.outer) b (.ref C) (.ref t) h3/\f.UpToSlots h3) (s:={ s' with heap:=f }) c λh3 d m=>⟨h3,rfl,d,m⟩) ?_
 rintro _ _ ⟨h3,rfl,d,m⟩ T
 have L:Wp h3 b y:=by
  obtain⟨N,G,_⟩:=d.there
  exact W.stay (DK.trans P T) ⟨N,G⟩
 rw[<-n]at d
 have w:B.get? b=none:=F.2.1
 have R:b∉bM X.stack:=λz=>by
  obtain⟨_,O,v,K⟩:=F.2.2.1.mem z
  obtain⟨oe,Y,_,_,_,he,_,hd,_⟩:=F.2.2.2
  rw[he]at v
  cases v
  exact K Y hd
 have g:∀ j,s.heap.get? b≈j->False:=λj z=>by
  obtain⟨O,D⟩:=l.there b j z R
  rw[w]at D
  cases D
 refine k b C t y H' B h3 hE L ?_ (λj z=>?_) (λp hp z=>?_) d (λr b1 b2 b3=>I.caught os x V A l b1 b2 ((h.trans m).trans b3)) rfl
 .cases q:H' b with
  |none=>rfl
  |some u =>
   obtain⟨N,ho⟩:=(A b u q).ex
   have z:=l.new b N (by rw[q];intro z;cases z) ho
   rw[w]at z
   cases z
 .obtain⟨O,D⟩:=I.base.there b j z (by rw[J];intro z;cases z)
  exact g O D
 .exact g p.2 (z ▸ (I.pin p hp).1)
end
abbrev Cx.held (X:Cx)(e:Q0e):Cx:={ X with A:=X.A.mark (some e),calm:=false }
section
variable {X:Cx}{pins:xz}{σ:St}{H H':Hp}{s s':zm}{E:yM}{e:Q0e}{M:Model}{A:zP}
def Cx.Ok.held (ok:X.Ok)(e:Q0e):(X.held e).Ok :=
 ⟨ok.mod,ok.kind,ok.glob,ok.blt,ok.above,ok.inj,ok.has,ok.cab,(λz=>by cases z),ok.frames,ok.stk,ok.exf,ok.bs,ok.bsz,ok.noex,ok.exfs,ok.funs,ok.frf⟩
def aj.held (I:aj X pins σ H s)(e:Q0e):aj (X.held e) pins σ H s:=⟨I.ok.held e,I.os,I.bare,I.base,I.loc,I.cell,I.free,I.freeC,I.pin,I.hok,I.len⟩
def aj.unheld (ok:X.Ok)(I:aj (X.held e) pins σ H s):aj X pins σ H s:=⟨ok,I.os,I.bare,I.base,I.loc,I.cell,I.free,I.freeC,I.pin,I.hok,I.len⟩
def Xg {i:Nat}{Q:Unit->Q0u->Prop}(I:aj X pins σ H s)(hN:X.N.Nodup)(N:X.N[i]?≈x)(R:X.env.scope.names.lookup x≈.local)(h:∀ s',aj X pins (σ.set i none) H s'->Q () s'):Q0d M A (do bindName X.env x .none;unbindBehindTheSuite X.env x J) Q E s:=by
 obtain⟨m,O,S⟩:=id I.loc
 have t:(X.env.scope.kind == .class||(X.env.scope.kind == .module&&X.env.locals != X.env.globals))=false:=by rw[I.ok.kind];rfl
 have F:i<σ.length:=by rw[I.len];exact(t8.mp N).1
 have r:=I.cne
 refine wpAny_nameGoes_keeps R O t λh' v D f=>?_
 obtain⟨oL,_,_,P,_⟩:=id O
 have a:aW X.prog X.w H h':=λb Z e=>by
  refine(I.hok b Z e).stay (λc L B q=>(f.2 c ?_).trans q) (λ_ q=>q) λ_ _ q=>q
  rintro rfl
  rcases B with rfl|B
  .rw[I.free]at e;cases e
  .rw[I.free]at B;cases B
 have g:∀ b o,X.s₀.heap.get? b≈o->b≠X.env.locals:=λb o e=>r4 (q5 (j4 e) I.ok.above)
 refine h _ ⟨I.ok,I.os,I.bare,⟨λb o e n G u=>?_,λb o e n G u=>?_,I.base.free,λb o e u=>?_,I.base.tups,I.base.frzs,I.base.tbls⟩,⟨_,D,λj y v' l w e3=>?_⟩,λy c e=>?_,I.free,I.freeC,λp U=>?_,a,by simpa using I.len⟩
 .exact(f.2 b (g b o e)).trans (I.base.keep b o e n G u)
 .obtain⟨W,l⟩:=I.base.slot b o e n G u
  exact⟨W,(f.2 b (g b o e)).trans l⟩
 .obtain⟨Y,l⟩:=I.base.there b o e u
  exact⟨Y,(f.2 b (g b o e)).trans l⟩
 .by_cases C:j=i
  .subst C
   rw[o4 F]at w
   cases w
  .rw[u9 (bh C)]at w
   obtain⟨T,V,q⟩:=S j y v' l w e3
   refine⟨T,V,?_⟩
   rcases q with ⟨k,e⟩|⟨k,c,e,z⟩
   .refine .inl ⟨k,?_⟩
    have:y≠x:=λe=>C (Hw hN l (e ▸ N))
    simp[this,e]
   .exact .inr ⟨k,c,e,z.sameBut f (r y c e)⟩
 .obtain⟨L,z⟩:=I.cell y c e
  exact⟨L,z.sameBut f (r y c e)⟩
 .obtain⟨e,n,K,nf,d⟩:=I.pin p U
  exact⟨(f.2 p.1 K).trans e,n,K,nf,d⟩
def fO (a C:Addr)(c:y1):HO:=.ext λh=>∃ b,h.get? a≈b/\b.cls=.ref C/\b.dict=c/\W.notCls b=true
def aj.track {B:Obj}(I:aj X pins σ H s)(i:H a=none)(C:s.heap.get? a≈B)(D:B.data=.fields G)(h0:∀ K,X.s₀.heap.get? a≈K->False)(J:∀ p∈X.pn++pins,p.1≠a)(y:yU X.prog X.w (aA H a o) s.heap a o):aj X pins σ (aA H a o) s:=by
 have w:X.env.locals≠a:=by
  rintro rfl
  obtain⟨m,⟨R,Q,O,g,k,_⟩,_⟩:=I.loc
  rw[C]at g
  cases g
  rw[D]at k
  cases k
 have t:∀ x c,X.env.cells.lookup x≈c->c≠a:=λx c e=>by
  rintro rfl
  obtain⟨v,P,h,r⟩:=I.cell x c e
  rw[C]at h
  cases h
  rw[D]at r
  cases r
 refine⟨I.ok,I.os,I.bare,⟨I.base.keep,I.base.slot,λb u e n M=>?_,I.base.there,λb A e=>?_,λb u v e=>?_,λb L e=>?_⟩,I.loc,I.cell,?_,λx c e=>?_,λp E=>?_,λb u e=>?_,I.len⟩
 .rw[zj (λz:b=a=>h0 u (z ▸ e))]
  exact I.base.free b u e n M
 .have f:=I.base.tups b A e
  rw[zj (zf f i)]
  exact f
 .have f:=I.base.frzs b u v e
  rw[zj (zf f i)]
  exact f
 .obtain⟨j,f⟩:=I.base.tbls b L e
  exact⟨j,by rw[zj (zf f i)];exact f⟩
 .rw[zj w]
  exact I.free
 .rw[zj (t x c e)]
  exact I.freeC x c e
 .obtain⟨e,n,F,N,d⟩:=I.pin p E
  exact⟨e,by rw[zj (J p E)];exact n,F,N,d⟩
 .by_cases c:b=a
  .subst c
   rw[zn]at e
   cases e
   exact y
  .rw[zj c]at e
   refine(I.hok b u e).stay (λ_ _ _ q=>q) (λc l=>?_) λc A l=>?_
   .rw[zj (zf l i)];exact l
   .rw[zj (zf l i)];exact l
end
abbrev Cx.pinned (X:Cx)(a:xz):Cx:={ X with pn:=X.pn++a }
section
variable {X:Cx}{pins ps:xz}{σ:St}{H H':Hp}{s s':zm}
def Cx.Ok.pinned (ok:X.Ok)(ps:xz):(X.pinned ps).Ok :=
 ⟨ok.mod,ok.kind,ok.glob,ok.blt,ok.above,ok.inj,ok.has,ok.cab,ok.hd,ok.frames,ok.stk,ok.exf,ok.bs,ok.bsz,ok.noex,ok.exfs,ok.funs,ok.frf⟩
def aj.pinAll (I:aj X pins σ H s):aj (X.pinned pins) [] σ H s:=⟨I.ok.pinned pins,I.os,I.bare,I.base,I.loc,I.cell,I.free,I.freeC,λp a=>I.pin p (by rw[p7]at a;exact a),I.hok,I.len⟩
def aj.unpin (ok:X.Ok)(I:aj (X.pinned pins) ps σ H s):aj X pins σ H s:=⟨ok,I.os,I.bare,I.base,I.loc,I.cell,I.free,I.freeC,λp a=>I.pin p (rC _ a),I.hok,I.len⟩
end
abbrev sJ (i:Nat)(D:cj):cj:={ nx:=fun σ H=>D.nx (σ.set i none) H,rt:=D.rt,bk:=fun σ H=>D.bk (σ.set i none) H,ct:=fun σ H=>D.ct (σ.set i none) H }
def Dk (K:zA)(CS:Addr)(i n:Nat)(u:TS)(D:cj):XK:=λcls b H'=>∃ C,cls=.ref C/\W.exmOne K (.ref C) (.ref CS)≈true/\∀ (a:Addr) (σ:St),σ.length=n->H' a=none->u (sJ i D) (σ.set i (some (.ref a))) (aA H' a (fO a C b))
def Ux {Y:Cx} {i:Nat} {k:vu} {tb:XK->TS} (a7:Y.stack=Y.env::Y.outer) (hf:Y.env.frame≈Y.env.locals) (a4:Y.ex=[]) (K:Y.N.Nodup) (E:Y.N[i]?≈n) (w:Y.env.scope.names.lookup n≈.local) (hg:Gl Y x) (hm:Y.mg x≈(.ref CS)) (r:∀ (ps:xz) (W:yM) (E0:XK),vr (bD Y.prog Y.w) ((Y.pinned ps).wish W) E0->bH ((Y.pinned ps).wish W) m (tb E0)) (l:∀ d,bH (Y.held (.ref d)).nox (b₀::k) u) (hd:(x == ("__debug__":Str))=false:=by decide) :
 PS Y.nox (.Try m [.ExceptHandler (some (.Name x np)) (some n) (b₀::k) A] [] [] a0) (λD σ H=>tb (Dk Y.K CS i Y.N.length u D) D σ H):=by
 intro c s σ H D I h
 have ok:Y.Ok:=I.ok.unwish
 have IY:aj Y c σ H s:=I.unwish
 refine wpAny_Try_except ?_
 refine cG (r c _ (Dk Y.K CS i Y.N.length u D) ?_ [] s σ H D (IY.pinAll.wish _) h) ?_ λe s₁ h=>h
 .intro U F H1 s1 e J I1 a
  have I1':aj Y c F H1 s1:=I1.unwish.unpin ok
  refine zgv (X:=Y) a7 hf a4 I1' a λd C t od H' B O hE Z R h0 V y p ee=>?_
  obtain⟨C',ec,P,hu⟩:=hE
  cases ec
  have I3:aj Y c F H' { J with heap:=O }:=p O y.1 y.2.2.1 (.refl _)
  obtain⟨ob,T,N⟩:=y.there
  have ty:PySem.W.Looks (Q0i Y.prog Y.w) O (typeOf (.ref d)) (.ref C):=N ▸ (PySem.W.Looks.ld T).andThen .now
  refine wpAny_handleBy_cons (codeAny_handlers_test (YH (X:=Y.held (.ref d)) (I3.held (.ref d)) hg hm ?_ hd)) (by intro q;cases q)
  refine(PySem.W.exm_one (M:=Q0i Y.prog Y.w) I3.kIn ty P).here ?_
  refine codeAny_handlers_suite_as ?_
  refine Vy (YA _ _) (wpAny_setFlight_noneW (Q:=λ_ a6=>∃ g,a6={ J with heap:=g }/\B.StaysIn g/\g.FunFrames B Y.stack/\g.TracedW B d (.ref C) (.ref t)/\∀ b o,O.get? b≈o->(∀ vs,o.data≠.fields vs)->g.get? b≈o) (s:={ J with heap:=O }) y.1 y.2.2.1 y.2.2.2.at λg k1 k2 k3 k4=>⟨g,rfl,k1,k2,k3,k4⟩) ?_
  rintro _ _ ⟨g,rfl,k1,k2,k3,k4⟩ a1
  have I4:aj Y c F H' { J with heap:=g }:=p g k1 k2 λb o hb hn=>⟨o.slots,k4 b o hb hn⟩
  obtain⟨S,vs,_,_,_,G,a5,L,_⟩:=k3
  obtain⟨a8,z,a3⟩:=Z.stay a1 ⟨S,G⟩
  rw[G]at z
  cases z
  have a2:PySem.W.notCls S=true:=by unfold PySem.W.notCls;rw[L]
  have I5:aj Y c F (aA H' d (fO d C od)) { J with heap:=g }:=I4.track R G L h0 V ⟨⟨S,G,a5.1,a3,a2⟩,⟨S,G⟩,λh1 h2 ⟨o1,e1,e2⟩ kk=>⟨o1,kk o1 e1,e2⟩⟩
  refine HD (X:=Y.held (.ref d)) (v:=.ref d) (I5.held (.ref d)) K E (.inl w) rfl (λs6 I6=>?_) (.inr w)
  refine cG (l d c s6 _ _ (sJ i D) (I6.wish _) (hu d F I4.len R)) (λf s7 q=>?_) λx s7 q=>q.elim
  cases f with
  |ret uv =>
   obtain⟨v,j,H7,I7,rv,q⟩:=q
   exact Xg ((aj.unheld (X:=Y) ok I7.unwish)) K E w λs8 I8=>⟨v,_,H7,I8.wish _,rv,q⟩
  |next =>
   obtain⟨j,H7,I7,q⟩:=q
   exact Xg ((aj.unheld (X:=Y) ok I7.unwish)) K E w λs8 I8=>⟨_,H7,I8.wish _,q⟩
  |brk =>
   obtain⟨j,H7,I7,q⟩:=q
   exact Xg ((aj.unheld (X:=Y) ok I7.unwish)) K E w λs8 I8=>⟨_,H7,I8.wish _,q⟩
  |cont =>
   obtain⟨j,H7,I7,q⟩:=q
   exact Xg ((aj.unheld (X:=Y) ok I7.unwish)) K E w λs8 I8=>⟨_,H7,I8.wish _,q⟩
 .intro f s₁ q
  cases f with
  |ret uv =>
   obtain⟨v,j,H7,I7,rv,q⟩:=q
   exact⟨v,j,H7,(aj.unpin (X:=Y) ok I7.unwish).wish _,rv,q⟩
  |next =>
   obtain⟨j,H7,I7,q⟩:=q
   exact qT ⟨j,H7,(aj.unpin (X:=Y) ok I7.unwish).wish _,q⟩
  |brk =>
   obtain⟨j,H7,I7,q⟩:=q
   exact⟨j,H7,(aj.unpin (X:=Y) ok I7.unwish).wish _,q⟩
  |cont =>
   obtain⟨j,H7,I7,q⟩:=q
   exact⟨j,H7,(aj.unpin (X:=Y) ok I7.unwish).wish _,q⟩
end L2
namespace L2
open PySem PySem.Spec PyProof.Rows PySem.W PySem.Calls PySem.Builtin PySem.Builtin.Getset_descriptor
section
variable {prog:zO}{w:Q0k}{A:zP}{E:yM}{K:zA}{h:Heap}{g:Array GenState}{d:Drawn}{t:Nat}{os:OsState}{a C:Addr}{o:Obj}
def Of (h:Heap)(a:Addr)(o:Obj)(C:Addr):Prop:=h.get? a≈o/\o.cls=.ref C
def Of.type (I:Of h a o C):Looks M h (typeOf (.ref a)) (.ref C):=I.2 ▸ (Looks.ld I.1).andThen .now
def zi0 (X:K.In h) (d:Q2a K (.ref C) b≈(some x)) (f:Q2z K x "__get__"≈(some c)) (e:takesIn K x≈true):Looks M h (Builtin.ObjectAttr.find (.ref a) (.ref C) b) (.bind c x):=by
 have L1:=looks_findIn (M:=M) X d
 have L2:Looks M h (Builtin.ObjectAttr.getOf (some x)) (some c):=looks_specialIn X f
 have L3:=looks_takesIn (M:=M) X e
 exact L1.andThen (L2.andThen ((show Looks M h (Builtin.ObjectAttr.dataDescriptor? (some x) (some c)) (some (c,x))from L3.andThen .now).andThen (Looks.tag .now)))
def zoH {R:Result->Q0u->Prop} (X:K.In h) (I:Of h a o C) (e:mroIn K C (.type "object")≈true) (b:R (.ok (.ret (.ref C))) ⟨h,g,d,t,os⟩) :
 Q05 (Q0i prog w) A (.call (.builtin "getset_descriptor.__get__") ⟨[.builtin "object.__class__",.ref a,c],[]⟩) R ⟨h,g,d,t,os⟩:=by
 have L0:=I.type (M:=Q0i prog w)
 have L1:=looks_mroIn (M:=Q0i prog w) X e
 refine codeAny_call_builtin KF.slot_gs.plain KF.entry_gs (KF.slot_gs.check _ _ _ _ _ _ _ _ KF.type_class (KF.args_gs _ _ _) ?_)
 unfold Builtin.«getset_descriptor.__get__» descrGet
 rw[dga_obj]
 refine u3 (t4 ?_)
 unfold descrGetter descrCheckInstance descrNameAndClass isInstance
 simp only[KF.owner_class]
 repeat lk
 refine⟨Code.quiet_builtin _ (by decide +kernel),BR KF.entry_class ?_⟩
 unfold Builtin.«object.__class__» shownTypeOf
 repeat lk
 exact b
def zi4 {Q:Fin->Q0u->Prop} (X:K.In h) (I:Of h a o C) (c:Q2a K (.ref C) "__class__"≈(some (.builtin "object.__class__"))) (i:Q2z K (.builtin "object.__class__") "__get__"≈(some (.builtin "getset_descriptor.__get__"))) (f:takesIn K (.builtin "object.__class__")≈true) (e:mroIn K C (.type "object")≈true) (b:Q (.done (.ret (.ref C))) ⟨h,g,d,t,os⟩):Q0d (Q0i prog w) A (Builtin.«object.__getattribute__» ⟨[.ref a,.str "__class__" j],[]⟩) Q E ⟨h,g,d,t,os⟩:=by
 have L0:=I.type (M:=Q0i prog w)
 have L1:=zi0 (M:=Q0i prog w) (a:=a) X c i f
 refine u3 (t4 (u3 ?_))
 refine t4 (u3 (L0.at (u3 (L1.at ?_))))
 show Q0d _ _ (Q1d [.builtin "object.__class__"] (call (.builtin "getset_descriptor.__get__") [.builtin "object.__class__",.ref a,.ref C])>>=ret) _ _ _
 exact u3 (h9 (mK (zoH X I e (t4 b))))
def zjj {Q:Unit->Q0u->Prop} (X:K.In h) (I:Of h a o C) (f:subIn K (.ref C) (.type "BaseException")≈true) (i:Q () ⟨h,g,d,t,os⟩):Q0d M A (checkBuiltinCall "BaseException.__getattribute__" ⟨[.ref a,b],[]⟩) Q E ⟨h,g,d,t,os⟩:=by
 have e:builtinKind "BaseException.__getattribute__"≈.slot:=by decide +kernel
 have c:splitId "BaseException.__getattribute__"≈("BaseException","__getattribute__"):=by decide +kernel
 have j:=F.args_bexc_ga (.ref a) b
 have L0:=I.type (M:=M)
 have L1:Looks M h (isSubtype (.ref C) (.type "BaseException")) true:=looks_subIn X f
 simp only[checkBuiltinCall,e,c]
 refine u3 ?_
 unfold isInstance
 refine u3 (L0.at (L1.at ?_))
 repeat (first|assumption|wp_step)
def UJ {f:Tok} {Q:yM} (X:K.In h) (I:Of h a o C) (b:Q2a K (.ref C) "__getattribute__"≈(some (.builtin "BaseException.__getattribute__"))) (e:Q2a K (.ref C) "__getattr__"≈none)
 (j:Q2a K (.ref C) "__class__"≈(some (.builtin "object.__class__"))) (m:Q2z K (.builtin "object.__class__") "__get__"≈(some (.builtin "getset_descriptor.__get__"))) (l:takesIn K (.builtin "object.__class__")≈true) (n:mroIn K C (.type "object")≈true) (p:subIn K (.ref C) (.type "BaseException")≈true) (i:Q (.ref C) ⟨h,g,d,t,os⟩) :
 Q0d (Q0i prog w) A (getAttrBy (.ref a) (.str "__class__" f) false) Q E ⟨h,g,d,t,os⟩:=by
 have L0:=I.type (M:=Q0i prog w)
 have L1:=looks_findIn (M:=Q0i prog w) X b
 have L2:=looks_findIn (M:=Q0i prog w) X e
 have k:=F.attrBase_ValueError.ga.bind (.ref a)
 have c:(Value.builtin "BaseException.__getattribute__" == Value.builtin "object.__getattribute__")=false:=by decide +kernel
 unfold getAttrBy
 refine h9 (u3 (L0.at (u3 (L1.at ?_))))
 dsimp only
 rw[c,qx,j5 u7]
 unfold getAttrByItsOwn
 refine u3 ?_
 show Q0d _ _ (typeLookup (.ref C) "__getattr__") _ _ _
 refine L2.at (u3 (jr (h9 ?_)))
 show Q0d _ _ (boundAndCalled (.builtin "BaseException.__getattribute__") (.ref a) (.str "__class__" f)) _ _ _
 unfold boundAndCalled
 rw[k]
 refine u3 (t4 ?_)
 refine mK (codeAny_call_builtin F.attrBase_ValueError.ga.plain F.entry_bexc_ga (zjj X I p (zi4 X I j m l n ?_)))
 exact handed_on rfl i
def zi5 {Q:Option Q0e->Q0u->Prop} {s:zm} (X:K.In s.heap) (I:Of s.heap a o C) (b:Q2a K (.ref C) "__getattribute__"≈(some (.builtin "BaseException.__getattribute__"))) (c:Q2a K (.ref C) "__getattr__"≈none)
 (f:Q2a K (.ref C) "__class__"≈(some (.builtin "object.__class__"))) (i:Q2z K (.builtin "object.__class__") "__get__"≈(some (.builtin "getset_descriptor.__get__"))) (h:takesIn K (.builtin "object.__class__")≈true) (j:mroIn K C (.type "object")≈true) (k:subIn K (.ref C) (.type "BaseException")≈true)
 (e:Q (some (.ref C)) { s with toks:=s.toks+1 }):Q0d (Q0i prog w) A (getAttr? (.ref a) "__class__") Q E s:=by
 obtain⟨l,g,d,t,os⟩:=s
 unfold getAttr? getAttrBy?
 exact u3 (wpAny_mkText (u3 (jr (UJ X I b c f i h j k (t4 e)))))
def ve (K:zA) (C:Addr):Bool:=(clsIn K C).isSome&&Q2a K (.ref C) "__getattribute__" == some (some (.builtin "BaseException.__getattribute__"))&&Q2a K (.ref C) "__getattr__" == some none&&Q2a K (.ref C) "__class__" == some (some (.builtin "object.__class__"))
 && Q2z K (.builtin "object.__class__") "__get__" == some (some (.builtin "getset_descriptor.__get__"))&&takesIn K (.builtin "object.__class__") == some true&&mroIn K C (.type "object") == some true&&subIn K (.ref C) (.type "BaseException") == some true
def zln (q:ve K C=true):KitX K (.ref a) (.ref C) (λh=>∃ o,Of h a o C):=by
 unfold ve at q
 simp only[k9,fJ]at q
 obtain⟨⟨⟨⟨⟨⟨⟨c,g⟩,j⟩,r⟩,t⟩,s⟩,v⟩,w⟩:=q
 obtain⟨y,b⟩:=R6.mp c
 unfold clsIn at b
 refine⟨λ_ _ _ ⟨_,I⟩=>I.type,λ_ _ X _=>?_,λh x A m n D X l=>?_,λX ⟨_,I⟩ k=>zi5 X I g j r t s v w k⟩
 .split at b
  .rename_i u p d i f
   intro A' Q' E' B k q
   unfold isType loadHead
   exact u3 (wpAny_loadPart (k _ _ (X _ _ f)) (t4 q))
  .cases b
 .refine Bool.eq_false_iff.mpr λq=>?_
  have e:C=x:=Value.ref.inj (fJ.mp q)
  subst e
  split at b
  .rename_i u p d i f
   have z:=(X _ _ f).symm.trans l
   cases z
  .cases b
def V7 {s:zm}{Q:yM}(q:ve K C=true)(X:K.In s.heap)(I:∃ o,Of s.heap a o C)(e:kitOne K (.ref C) c≈b)(d:∀ f,Q (.bool b) { s with toks:=f }) :
 Q0d (Q0i prog w) A (call (.builtin "isinstance") [.ref a,c]) Q E s:=kia_one (zln q) X I e (by intro z;cases z) d
end
end L2
namespace L2
open PySem PySem.Spec PyProof.Rows
section
variable {P:zO}{w:Q0k}{K:zA}{mg:wA}{base:Heap}
def Fv (P:zO)(w:Q0k)(K:zA)(mg:wA)(base:Heap)(k:Nat)(f:Addr)(e:vv)(b:zF)(d:Sp):Prop :=
 (∀ a H Q E,d a H Q E->↥a=↥b)/\∀ (A:zP) (outer:List Env) (s:zm) (H:Hp) (args:Args) (c:zC) (a:zD) (Q:VK) (E:XK) (g:Q0e),xH k A->ie P w K mg base A outer s H->Q1T s e args (b.zip c)->yy a c->d a H Q E ->
  Q05 (Q0i P w) (A.mark (some g)) (.call (.ref f) args) (CR aV outer P w H s Q E) s
def znn {f:Addr}{D:vv}{N ps:zF}{k:Nat}{C:Sp}(F:cg K x c i f D)(S:yZ N ps (zo i))(l:∀ g H Q E,C g H Q E->↥g=↥ps) (h:∀ (d:Q0e) (A:zP) (outer:List Env) (s:zm) (H:Hp) (g:zD) (Q:VK) (E:XK) (m:Q0e),xH k (A.deeper (Q19 c (zo i) ⇑s f d))->C g H Q E ->
 ∃ t,bH ((ZR aV P w K mg base N c (zo i) f d A outer s H E).held m).nox (ym i) t/\t { nx:=λ_ H'=>Q .non H',rt:=Q } (start N g) H):Fv P w K mg base (k+1) f D ps C:=by
 obtain⟨oc,od,kV,X,pm,an,d,ct,a0,rfl,L,z⟩:=F.ex
 refine⟨l,λA outer s H args us g Q E m B p Y r n=>?_⟩
 have KX:K.In s.heap:=p.mod.kin.keeps λb o e=>(p.bs b o e).1
 have aU:s.heap.NoLimit:=p.mod.nolimit.keeps λb o e=>(p.bs b o e).1
 refine Il (A:=A.mark (some m)) B.depth (KX _ _ L) rfl S.co S.gen rfl (Iv KX z) (Y _ _ _ _ ?_)
 refine Q1w S.kind (λy W=>?_) λenv M G x=>?_
 .rcases S.par y.1 (qW (a:=y.1) (b:=y.2) W).1 with q|q
  .exact .inl q
  .exact .inr ⟨q,Ci _ _ _ (.inl q)⟩
 subst M
 refine⟨aU.keeps x.toInCall.keep,codeAny_func ?_⟩
 obtain⟨t,U,hq⟩:=h d A outer s H g Q E m (B.deeper _) n
 have I:aj (ZR aV P w K mg base N c (zo i) f d A outer s H E) [] (start N g) H G:=Vz S B.hd p (l _ _ _ _ n) r x
 refine cG (U [] G (start N g) H _ ((I.held m).wish _) hq) (λZ T j=>?_) λe T j=>j.elim
 cases Z with
 |ret u =>
  obtain⟨v,O,H',J,R,q⟩:=j
  exact⟨v,H',J.os,J.bare,J.base,J.hok,R,q⟩
 |next =>
  obtain⟨O,H',J,q⟩:=j
  exact⟨V.non,H',J.os,J.bare,J.base,J.hok,rfl,q⟩
 |brk =>
  obtain⟨_,_,_,q⟩:=j
  exact Q0o q
 |cont =>
  obtain⟨_,_,_,q⟩:=j
  exact Q0o q
end
def Qy {Y:Cx} {k:Nat} {f:Addr} {w:vv} {t:TA} (F:Fv Y.prog Y.w Y.K Y.mg Y.base k f w y n) (G:xH k Y.A) (K:Gl Y x) (J:Y.mg x≈(.ref f)) (z:Q0H Y.K (.ref f)=true) (A:vf Y.K w y []) (o:Y.Ok) (C:PA (Y.held j).nox (e::d) t) (m:(x == ("__debug__":Str))=false:=by decide) (D:Q0c (e::d) Y.env=(false,eval e Y.env)::Q0c d Y.env:=by rfl) (g:(Q0v b (Q0c d Y.env)).any (·.1)=false:=by rfl) :
 PE (Y.held j).nox (.Call (.Name x p) (e::d) [] b) (Et n [] E t):=by
 intro a s σ H Q I h
 refine kJ (YH I K J ?_ m)
 refine Cj (h₀:=Y.base) I.ok.mod.kin z (aG (C b a s σ H _ I h) λi l ⟨v,H1,I1,r,q⟩=>⟨I1.kIn,?_⟩) D g
 have q:n (v++[]) H1 Q E:=q
 rw[p7]at q
 have I2:aj Y a σ H1 l:=aj.unheld (X:=Y) o I1.unwish
 refine mK (mQ (F.2 Y.A Y.stack l H1 ⟨i,[]⟩ i v Q E j G I2.env0 ?_ r q) λr L c=>?_)
 .have:=A l i I2.kIn (by rw[p7,<- ↥r];exact F.1 _ _ _ _ q)
  rwa[p7]at this
 .cases r with
  |error e=>exact Q0o c
  |ok B =>
   cases B with
   |ret u=>exact I1.after c
   |next=>exact Q0o c
   |brk=>exact Q0o c
   |cont=>exact Q0o c
end L2
namespace L2
open PySem PySem.Spec PyProof.Rows PySem.SeqAt
def Hv:∀ {c:List Bool} {a:zC},yy (c.map V.bl) a->a=c.map Q0K
 |[],a,r=>by
  have:=↥r
  exact List.eq_nil_of_length_eq_zero (by rw[<-this];rfl)
 |b::c,a,r=>by
  cases r with
  |cons d e =>
   rw[Hv e]
   cases d
   rfl
def Qq {a:List Bool}(h:y∈(a.map Q0K).toArray):EqAt A s y (.bool true) (isBoolOf true y):=by
 obtain⟨b,_,rfl⟩:=g9.mp (List.mem_toArray.mp h)
 exact EqAt.bool_bool b true
def NP:V->zD->Hp->VK->Prop:=λx b H Q=>∃ (l:Addr) (a:List Bool),x=.ref l/\b=[.bl true]/\H l≈(.lst (a.map V.bl))/\Q (.int ((a.countP (· == true):Nat):Int)) H
def zhb:Ds X "list.count" NP:=by
 intro d s σ H x w v z Q I m j h
 obtain⟨l,a,rfl,rfl,p,q⟩:=h
 cases m
 obtain⟨u,rfl,k⟩:=j.one
 cases k
 obtain⟨g,r,pl,A⟩:=I.list (aN.of (K:=X.K) p)
 have e:=Hv r
 subst e
 obtain⟨⟨cls,i,data,t⟩,f,c,n,b⟩:=pl.isList
 simp only at c b
 subst c b
 refine eV Q1K ⟨_,f,rfl⟩ PySem.F.entry_list_count (PySem.F.args_list_count_2 _ _) (list_countAt l (a.map Q0K).toArray n i t (.bool true) (isBoolOf true)) ⟨f,λy o=>Qq o,?_⟩
 refine⟨.int (((a.map Q0K).toArray.toList.countP (isBoolOf true):Nat):Int),H,I.tok _,⟨_,rfl⟩,?_⟩
 rw[show(a.map Q0K).toArray.toList=a.map Q0K from rfl,List.countP_map]
 exact q
def Np:V->zD->Hp->VK->Prop:=λx b H Q=>∃ (l:Addr) (a:List Bool),x=.ref l/\b=[.bl true]/\H l≈(.lst (a.map V.bl))/\true∈a/\Q (.int ((a.idxOf true:Nat):Int)) H
def zjw:Ds X "list.index" Np:=by
 intro j s σ H x G v J Q I D A h
 obtain⟨l,a,rfl,rfl,t,E,q⟩:=h
 cases D
 obtain⟨u,rfl,B⟩:=A.one
 cases B
 obtain⟨k,r,pl,F⟩:=I.list (aN.of (K:=X.K) t)
 have e:=Hv r
 subst e
 obtain⟨⟨cls,z,data,w⟩,d,i,n,g⟩:=pl.isList
 simp only at i g
 subst i g
 have c:a.idxOf true<↥a:=List.idxOf_lt_length_iff.mpr E
 have f:=X4
 have L:↥a<=sizeLine:=by simpa using F
 refine eV Q1L ⟨_,d,rfl⟩ PySem.F.entry_list_index (PySem.F.args_list_index_2 _ _) (list_indexAt l (a.map Q0K).toArray n z w (.bool true) (isBoolOf true) (a.idxOf true) (by simpa using c) ∅ ?_ ?_) ⟨d,λy o=>Qq o,⟨.int ((a.idxOf true:Nat):Int),H,I.tok _,⟨_,rfl⟩,q⟩⟩
 .simp only[List.getElem_toArray,Bv]
  rw[List.getElem_idxOf c]
  rfl
 .intro m C b
  simp only[List.getElem_toArray,Bv]
  exact List.not_of_lt_findIdx (p:=(· == true)) (xs:=a) b
end L2
namespace L2
open PySem PySem.Spec PyProof.Rows
def sX:V->Option Q0e
 |.ref C=>some (.ref C)
 |.ty T=>some (.type T)
 |_=>none
def uf (K:zA):jT:=λe H Q=>∃ (a C:Addr) (d:y1) (v:V) (c:Q0e) (b:Bool),e=[.ref a,v]/\H a≈(fO a C d)/\ve K C=true/\sX v≈c/\Q0Y K (.ref C) c≈b/\Q (.bl b) H
def y9 {X:Cx}:vq X (.builtin "isinstance") (uf X.K):=by
 intro i s σ H y t Q I m h
 obtain⟨a,C,z,v,c,b,rfl,x,n,o,k,q⟩:=h
 obtain⟨g,e,rfl,f,d⟩:∃ g e,t=[g,e]/\y6 (.ref a) g/\y6 v e:=by
  cases m with
  |cons f r=>cases r with
   |cons d r=>cases r;exact⟨_,_,rfl,f,d⟩
 cases f
 have j:e=c:=by
  cases v <;> try cases o
  .cases d;rfl
  .cases d;rfl
 subst j
 obtain⟨⟨p,w,u,_⟩,_⟩:=I.hok a _ x
 exact V7 n I.kIn ⟨p,w,u⟩ k λl=>⟨.bl b,H,I.tok l,rfl,q⟩
def Qt {K:zA}{σ:St}{H:Hp}{a C:Addr}{d:y1}{v:V}{c:Q0e}{b:Bool}{Q:VK}(h0:σ[0]?≈(some (.ref a)))(h:H a≈(fO a C d))(f:ve K C=true)(g:sX v≈c)(e:Q0Y K (.ref C) c≈b)(q:Q (.bl b) H) :
 rJ (uf K) (Wu (Wd 0) (Wu (tC v) gq)) σ H Q:=⟨.ref a,h0,⟨a,C,d,v,c,b,rfl,h,f,g,e,q⟩⟩
def lV (n j:Nat):List Bool:=(Q0g n).map λi=>i == j
def Al (K:zA) (a:xt) (CS C:Addr) (j:Nat):Bool:=ve K C&&(Q0Y K (.ref C) (.type "ValueError") == some true)&&(W.exmOne K (.ref C) (.ref CS) == some true)&&(a.map (λc=>Q0Y K (.ref C) (.ref c)) == (lV ↥a j).map some)
structure pQ (K:zA) (cs:xt) (CS C:Addr) (j:Nat):Prop where
 look:ve K C=true
 val:Q0Y K (.ref C) (.type "ValueError")≈true
 exm:W.exmOne K (.ref C) (.ref CS)≈true
 hot:cs.map (λc=>Q0Y K (.ref C) (.ref c))=(lV ↥cs j).map some
def pQ.of {K:zA}{a:xt}{CS C:Addr}{j:Nat}(h:Al K a CS C j=true):pQ K a CS C j:=by
 unfold Al at h
 simp only[k9,fJ]at h
 exact⟨h.1.1.1,h.1.1.2,h.1.2,h.2⟩
section
variable {K:zA}{σ:St}{H H0:Hp}{a C:Addr}{od:y1}
def Df (K:zA):xt->TA
 |[]=>gq
 |c::r=>Wu (rJ (uf K) (Wu (Wd 0) (Wu (tC (.ref c)) gq))) (Df K r)
def M5 (h0:σ[0]?≈(some (.ref a)))(h:H a≈(fO a C od))(k:ve K C=true):∀ (f:xt) (d:List Bool) (Q:zD->Hp->Prop),f.map (λc=>Q0Y K (.ref C) (.ref c))=d.map some->Q (d.map V.bl) H->Df K f σ H Q:=by
 intro f
 induction f with
 |nil =>
  intro d Q e q
  cases d with
  |nil=>exact q
  |cons b r=>cases e
 |cons c r j =>
  intro d Q e q
  cases d with
  |nil=>cases e
  |cons b d =>
   obtain⟨i,g⟩:=jz e
   exact Qt h0 h k rfl i (j d _ g q)
structure tE (H0:Hp) (a C:Addr) (od:y1) (bs:List Bool) (σ:St) (H:Hp):Prop where
 same:zZ H0 H
 len:σ.length=2
 e0:σ[0]?≈(some (.ref a))
 he:H a≈(fO a C od)
 lst:∃ p,σ[1]?≈(some (.ref p))/\H p≈(.lst (bs.map V.bl))
def Ob {c:List Bool}(s:zZ H0 H)(g:σ.length=2)(h:σ[0]?≈(some (.ref a)))(d:H a≈(fO a C od))(f:H p=none):tE H0 a C od c (σ.set 1 (some (.ref p))) (aA H p (.lst (c.map V.bl))):=by
 refine⟨λb o e=>?_,by rw[qX];exact g,?_,?_,p,?_,zn⟩
 .have:=s b o e
  rw[zj (zf this f)];exact this
 .rw[u9 ⋯];exact h
 .rw[zj (zf d f)];exact d
 .rw[o4 ∅]
def zg8 {cs:xt}{bs:List Bool}{D:cj}(h:ve K C=true)(e:cs.map (λc=>Q0Y K (.ref C) (.ref c))=bs.map some)(i:↥bs<=sizeLine)(j:σ.length=2)(f:σ[0]?≈(some (.ref a)))(b:H a≈(fO a C od))(k:∀ d H',tE H a C od bs d H'->D.nx d H') :
 lF (tV (Df K cs)) (Zi 1) D σ H :=
 M5 f b h cs bs _ e ⟨by rw[u5];exact i,λp g=>k _ _ (Ob (.refl _) j f b g)⟩
def Hn {cs:xt}{d bs:List Bool}{D:cj}(i:ve K C=true)(e:cs.map (λc=>Q0Y K (.ref C) (.ref c))=bs.map some)(m:↥d+↥bs<=sizeLine)(S:tE H0 a C od d σ H)(k:∀ g H',tE H0 a C od (d++bs) g H'->D.nx g H') :
 lF (kZ Eh (Wd 1) (tV (Df K cs))) (Zi 1) D σ H:=by
 obtain⟨p,l,h⟩:=S.lst
 refine⟨.ref p,l,M5 S.e0 S.he i cs bs _ e ⟨by rw[u5];omega,λq f=>?_⟩⟩
 refine⟨p,q,d.map V.bl,bs.map V.bl,rfl,rfl,by rw[zj (zf h f)];exact h,zn,by rw[u5,u5];exact m,λr j=>?_⟩
 rw[<-r8]
 refine k _ _ (Ob (λb o e=>?_) S.len S.e0 ?_ j)
 .have:=S.same b o e
  rw[zj (zf this f)];exact this
 .rw[zj (zf S.he f)];exact S.he
def zh1:∀ j:Nat,j<13->(lV 13 j).countP (· == true)=1/\(lV 13 j).idxOf true=j/\true∈lV 13 j:=by decide +kernel
def zoc {j:Nat} {D:cj} (i:Q0Y K (.ref C) (.type "ValueError")≈true) (g:ve K C=true) (e:j<13) (S:tE H0 a C od (lV 13 j) σ H) (k:D.rt (.int j) H) :
 ul (rG (Sw (rF (tB (rJ (uf K) (Wu (Wd 0) (Wu (tC (.ty "ValueError")) gq))))) (lR (kZ JC (jA K "list" NP (Wd 1) (Wu (tC (.bl true)) gq)) (tC (.int 1))))) l Kq) (Eb (jA K "list" Np (Wd 1) (Wu (tC (.bl true)) gq))) D σ H:=by
 obtain⟨f,d,h⟩:=zh1 j e
 obtain⟨p,c,b⟩:=S.lst
 refine Qt S.e0 S.he g rfl i ⟨true,rfl,?_⟩
 show(if (!true) then _ else _)
 rw[j5 ⋯]
 refine⟨.ref p,c,.inl ⟨rfl,_,aN.of b⟩,p,_,rfl,rfl,b,?_⟩
 rw[f]
 refine⟨rfl,false,by rw[Gm];rfl,?_⟩
 show(if false then _ else _)
 rw[j5 ⋯]
 refine⟨.ref p,c,.inl ⟨rfl,_,aN.of b⟩,p,_,rfl,rfl,b,h,?_⟩
 rw[d]
 exact k
end
def Pk (b:Nat->Addr)(ok:Nat->Prop):Sp:=λd H Q _=>∃ a j c,d=[.ref a]/\H a≈(fO a (b j) c)/\ok j/\∀ H',zZ H H'->Q (.int (j:Nat)) H'
def PS.nox {X:Cx}{t:TS}(h:PS X.nox b t):PS X b t:=λa s σ H D I hw =>
 cG (h a s σ H D (I.wish _) hw) (λ_ _ q=>q.unwish) λ_ _ z=>Q0o z
end L2
namespace Dl
open PySem L2
variable [KK]
def SD.nox {X:Cx}{g:zM}(h:SD X.nox a g):SD X a g:=let ⟨t,p,r⟩:=h;⟨t,p.nox,r⟩
def bK.nox {X:Cx}{g:zM}(h:bK X.nox a g):bK X a g:=let ⟨t,p,r⟩:=h;⟨t,p.nox,r⟩
noncomputable def iG (a:eN):wV:=fun ρ=>a (visG ρ)
def VD:eZ E cl X a di:=⟨λ_ _ _=>False,λ_ _ _ _ _ _ h=>h.elim,λ_ _ _ _ _ _ _ _ _ h _=>by cases h⟩
def Gr.more (s:zZ F H)(k:zZ H H'):Gr F H F H':=⟨zZ.refl _,s.trans k,λp o b a=>⟨.inl b,k p o a⟩⟩
def jh (a:wV)(g:zM)(h:Nat->Option D):zM:=fun ρ=>match a ρ with
 |some j=>match h j with
  |some d=>.rt d
  |none=>.no
 |none=>g ρ
def jm (H:Hp)(j:Nat)(a:y1):Prop:=match rZ j with
 |none=>a=none
 |some c=>∃ b,a≈b/\H b≈(.xd c)
def jm.mono (h:jm H j a)(s:zZ H H'):jm H' j a:=by
 unfold jm at h ⊢
 cases e:rZ j with
 |none=>rw[e]at h;exact h
 |some f=>rw[e]at h;obtain⟨d,c,b⟩:=h;exact⟨d,c,s _ _ b⟩
structure nU (cl:Nat->Addr) (i j:Nat) (σ:St) (H:Hp) (a:Addr) (od:y1):Prop where
 sl:σ[i]?≈(some (.ref a))
 he:H a≈(fO a (cl j) od)
 pa:jm H j od
def nU.mono (h:nU b i j σ H a c)(s:zZ H H'):nU b i j σ H' a c:=⟨h.sl,s _ _ h.he,h.pa.mono s⟩
def RU (b:Nat->Addr)(i:Nat)(u:TS)(h:Nat->Option D):Prop:=∀ (j:Nat) (d:D) (σ:St) (H:Hp) (a:Addr) (c:y1) (D':cj),h j≈d->nU b i j σ H a c->(∀ H' v,(∀ F,zZ F H->∃ F',Gr F H F' H'/\At F' d v)->D'.rt v H')->u D' σ H
def Lb {Y:Cx} {i:Nat} {A:Nat->Addr} {g:zM} {h:Nat->Option D} (R:Y.stack=Y.env::Y.outer) (hf:Y.env.frame≈Y.env.locals) (N:Y.ex=[]) (hN:Y.N.Nodup) (Z:Y.N[i]?≈n) (hk:Y.env.scope.names.lookup n≈.local) (hg:Gl Y x) (hm:Y.mg x≈(.ref CS)) (O:∀ (c:xz) (W:yM) (E0:XK),vr (bD Y.prog Y.w) ((Y.pinned c).wish W) E0->eZ E0 A ((Y.pinned c).wish W) a M) (hb:∀ (c:xz) (W:yM),bK ((Y.pinned c).wish W) a g) (y:∀ j d,h j≈d->Q18 Y.K (.ref (A j)) (.ref CS)≈true) (m:Y.Ok->∀ B,bH (Y.held (.ref B)).nox (b₀::l) u) (hu:RU A i u h) (hd:(x == ("__debug__":Str))=false:=by decide) :
 SD Y.nox (.Try a [.ExceptHandler (some (.Name x np)) (some n) (b₀::l) z] [] [] K) (jh M g h):=by
 let L:XK->TS:=λE0 D σ H=>∀ (c:xz) (W:yM),vr (bD Y.prog Y.w) ((Y.pinned c).wish W) E0->∃ t,bH ((Y.pinned c).wish W) a t/\t D σ H
 refine⟨λD σ H=>L (Dk Y.K CS i Y.N.length u D) D σ H,λf s σ H D I Q=>?_,λFb Hb F H ρ σ D T k=>?_⟩
 .refine Ux (tb:=L) R hf N hN Z hk hg hm (λc W E0 J f s σ H D I Q=>?_) (m I.ok.unwish) hd f s σ H D I Q
  obtain⟨t,p,ht⟩:=Q c W J
  exact p f s σ H D I ht
 .intro c W J
  unfold jh at k
  cases e:M ρ with
  |none =>
   rw[e]at k
   obtain⟨t,p,r⟩:=hb c W
   exact⟨t,p,r Fb Hb F H ρ σ D T k⟩
  |some j =>
   rw[e]at k
   dsimp only at k
   cases E:h j with
   |none=>rw[E]at k;exact k.elim
   |some d =>
    rw[E]at k
    obtain⟨t,p,r⟩:=O c W _ J
    refine⟨t,p,r Fb Hb F H ρ σ D j T e λF' H' G=>?_⟩
    have U:∀ (C:y1) (H0:Hp),zZ H' H0->jm H0 j C->Dk Y.K CS i Y.N.length u D (.ref (A j)) C H0:=λC H0 sm pa=>⟨_,rfl,y j d E,λB σ' hl hn=>by
     have S:i<σ'.length:=by
      rw[hl]
      exact(t8.mp Z).1
     have w:zZ H0 (aA H0 B (fO B (A j) C)):=λb o q=>by rw[zj (zf q hn)];exact q
     refine hu j d _ _ B C _ E ⟨by rw[o4 S],zn,pa.mono w⟩ λH'' v av=>?_
     obtain⟨F2,g2,a2⟩:=av F' (G.fh.trans (sm.trans w))
     exact k F2 H'' v ((G.trans (Gr.more G.fh (sm.trans w))).trans g2) a2⟩
    unfold EJ
    cases V:rZ j with
    |none=>exact U none H' (zZ.refl _) (by unfold jm;rw[V])
    |some fs=>exact λX P=>U (some X) _ (λb o q=>by rw[zj (zf q P)];exact q) (by unfold jm;rw[V];exact⟨X,rfl,zn⟩)
def SX (b:Nat->Addr)(i:Nat)(t:TE)(f:Nat->Option D):Prop:=∀ (j:Nat) (d:D) (σ:St) (H:Hp) (a:Addr) (c:y1) (Q:VK),f j≈d->nU b i j σ H a c->(∀ H' v,zZ H H'->(∀ F,At F d v)->Q v H')->t σ H Q
def Dp (d:Nat->Addr)(i:Nat)(t:TA)(f:Nat->Option zl):Prop:=∀ (j:Nat) (b:zl) (σ:St) (H:Hp) (a:Addr) (e:y1) (Q:zD->Hp->Prop),f j≈b->nU d i j σ H a e->(∀ H' c,zZ H H'->(∀ F,ao F b c)->Q c H')->t σ H Q
section
variable {cl:Nat->Addr}{i:Nat}
def fK (a:Yy):Nat->Option D:=λj=>if j%16∈a then some (.int (j%16:Nat))else none
def Qg {f:Yy}{ok:Nat->Prop}(b:∀ j,cl j=cl (j%16))(c:∀ j,j∈f->ok j):SX cl i (Et (Pk cl ok) [] E (Wu (Wd i) gq)) (fK f):=by
 intro j d σ H a m Q e g k
 unfold fK at e
 split at e <;> try cases e
 rename_i h
 refine⟨.ref a,g.sl,a,j%16,m,rfl,?_,c _ h,λH' l=>k H' _ l λF=>.int⟩
 rw[<-b j]
 exact g.he
def Nx:Dp cl i gq (λ_=>some []):=λj d σ H a b Q e c k=>by
 cases e
 exact k H _ (zZ.refl _) λF=>.nil
def my (f:Nat->Option D)(g:Nat->Option zl):Nat->Option zl:=λj=>(f j).bind λd=>(g j).bind λa=>some (d::a)
def Qn {t:TE}{f:Nat->Option D}{g:Nat->Option zl}(h:SX cl i t f)(r:Dp cl i u g):Dp cl i (Wu t u) (my f g):=λj d σ H a c Q e l k=>by
 obtain⟨x,w,n⟩:=u4.mp e
 obtain⟨y,p,o⟩:=u4.mp n
 cases o
 exact h j x σ H a c _ w l λH1 v b m=>r j y σ H1 a c _ p (l.mono b) λH2 z q s=>k H2 _ (b.trans q) λF=>.cons (m F) (s F)
def lK (f:Nat->Option zl):Nat->Option D:=λj=>(f j).bind λa=>if ↥a<=1000 then some (.lst a)else none
def Ld {t:TA}{f:Nat->Option zl}(h:Dp cl i t f):RU cl i (Eb (tV t)) (lK f):=λj d σ H a o D' e r k=>by
 obtain⟨l,q,b⟩:=u4.mp e
 split at b <;> cases b
 rename_i u
 refine h j l σ H a o _ q r λH' v c g=>⟨?_,λp m=>k _ _ λF s=>?_⟩
 .rw[(g H).length]
  exact i7 (vm u)
 .have n:=s.trans c
  exact⟨_,(Gr.more s c).trans (Gr.alloc n m _),At.lst zn (g _)⟩
end
end Dl
namespace L2
open PySem PySem.Spec PyProof.Rows
def sV (a C t:Addr)(b:y1):HO:=.ext λh=>∃ c,h.get? a≈{ cls:=.ref C,dict:=b,data:=.fields #[.ref t,.none,.none,.none,.bool false,.none],slots:=c }
def Dg (K:zA)(m:Nat)(ns:zF)(g:zD->List (Str × V)):Sp:=λd H Q _=>∃ a C t b,d=.ref a::b/\↥b=m/\H a≈(sV a C t none)/\U0 K C/\(∀ f,f∈ns->Zn K C f)/\∀ c,H c=none->Q .non (aA (aA H c (.xd (g b))) a (sV a C t (some c)))
def Aa (s:Stmt)(k:Nat):Stmt:=match s with
 |.ClassDef _ _ _ a _ _ _ _ _ _ _=>a.getD k s
 |_=>s
def su (K:zA)(C:Addr)(ns:zF):Bool:=ns.all λn=>Q0E K (.ref C) n == some none
def G4 {K:zA}{C:Addr}{ns:zF}(h:su K C ns=true):∀ n,n∈ns->Q0E K (.ref C) n≈none:=λn a=>fJ.mp (l5.mp h n a)
end L2
namespace Dl
open PySem L2
def fQ (a:Yy)(h:Nat->Option D):Nat->Option D:=λj=>if j%16∈a then h j else none
def O6 (e:fQ a h j≈d):j%16∈a:=by
 unfold fQ at e
 split at e
 .assumption
 .cases e
def Lh [KK](r:RU b i u h):RU b i u (fQ c h):=λj d σ H a f D' e g k=>by
 unfold fQ at e
 split at e
 .exact r j d σ H a f D' e g k
 .cases e
end Dl
namespace PySem
section
variable {prog:zO}{w:Q0k}{A:zP}{R:Result->Q0u->Prop}{it S:Addr}{fp wr:xt}{n:Nat}{P:Nat->Q0e->Prop}{St:Nat->Heap->Prop}{kw:List (Str × Q0e)}
def v5:(toString "max"++toString ".loop":String)="max.loop":=by decide
def Vq (k:Q0d (Q0i prog w) A.in1 (Builtin.«max.loop» ⟨[.ref it,.none,.ref S],kw⟩) (λfin a=>match fin with|.done f=>R (.ok f) a|.again b=>b.quiet=true/\Q05 (Q0i prog w) A b R a) (λe a=>R (.error e) a) s) :
 Q05 (Q0i prog w) A (.builtin "max.loop" ⟨[.ref it,.none,.ref S],kw⟩) R s:=BR F.entry_max_loop (by rw[Ik qJ _];exact k)
def ziV (W:Walks prog w A.in1 it fp wr n P St)(i:Nat->Nat->Bool)(J:CmpOf prog w A.in1 .Gt P i)(G:S∉fp):∀ (left j:Nat) (s:zm) (a:Q0e) (c:Nat),j+1+left=n->St (j+1) s.heap->P (Q00 i j) a ->
 s.heap.get? S≈{ cls:=.type "list",dict:=none,data:=.seq #[a,a] c,slots:=#[] } ->
 (∀ v g t,P (Q00 i (n-1)) v->(∀ b o,b∉wr->b≠S->s.heap.get? b≈o->g.get? b≈o)->R (.ok (.ret v)) { s with heap:=g,toks:=t }) ->
 Q05 (Q0i prog w) A (.builtin "max.loop" ⟨[.ref it,.none,.ref S],kw⟩) R s:=by
 have E:S∉wr:=λz=>G (W.sub _ z)
 intro left
 induction left with
 |zero =>
  intro j s a c e u r p k
  have D:j+1=n:=e
  refine Vq ?_
  show Q0d _ A.in1 (Q2y (.ref S)>>=_) _ _ s;refine u3 (gG p rfl ?_)
  show Q0d _ A.in1 (tryCatch (Q1o (.ref it)) _>>=_) _ _ s;refine u3 (qw (W.done s _ _ (D ▸ u) λg t l=>?_))
  show Q0d _ A.in1 (updateSeq S (λ_=>#[])>>=_) _ _ _;refine u3 (qR (l S _ E p) rfl (u3 (jX (t4 (k a _ t (D ▸ r) λb o b1 b2 q=>?_)))))
  exact(g6 _ _ (bh b2)).trans (l b o b1 q)
 |succ left H =>
  intro j s a c e u r p k
  refine Vq ?_
  show Q0d _ A.in1 (Q2y (.ref S)>>=_) _ _ s;refine u3 (gG p rfl ?_)
  show Q0d _ A.in1 (tryCatch (Q1o (.ref it)) _>>=_) _ _ s;refine u3 (qw (W.item (j+1) s _ _ ∅ u λv g t pv m l=>?_))
  have h:=l S _ E p
  show Q0d _ A.in1 (tryCatch (Q1d [v,v] (richCompare .Gt v a>>=_)) _>>=_) _ _ _;refine u3 (qw (h9 (u3 (J (j+1) (Q00 i j) v a _ _ _ pv r (u3 (h9 (fX (u3 (jX (t4 ?_))))))))))
  cases C:i (j+1) (Q00 i j) with
  |true =>
   simp only[dD];refine u3 (qR h rfl (u3 (jX ?_)))
   rw[v5];refine t4 ⟨ni qJ _,H (j+1) _ v _ ∅ (W.frame _ _ _ m λb I o q=>?_) (by rw[Q00,t5 C];exact pv) (i6 _ h rfl) λy B d x f=>?_⟩
   .exact(g6 _ _ (λz:S=b=>G (z ▸ I))).trans q
   .exact k y B d x λb o b1 b2 q=>f b o b1 b2 ((g6 _ _ (bh b2)).trans (l b o b1 q))
  |false =>
   simp only[qP,gC];refine u3 (jX ?_)
   rw[v5];exact t4 ⟨ni qJ _,H (j+1) _ a c ∅ m (by rw[Q00,j5 (by rw[C];exact u7)];exact r) h λy B d x f=>k y B d x λb o b1 b2 q=>f b o b1 b2 (l b o b1 q)⟩
def zkn {s:zm} (W:Walks prog w A.in1 it fp wr n P St) (l:Nat->Nat->Bool) (x:CmpOf prog w A.in1 .Gt P l) (m:S∉fp) (r:St 0 s.heap) (t:s.heap.get? S≈{ cls:=.type "list",dict:=none,data:=.seq #[] c,slots:=#[] }) (k:∀ v g e,(if n=0 then v=d else P (Q00 l (n-1)) v)->(∀ b o,b∉wr->b≠S->s.heap.get? b≈o->g.get? b≈o)->R (.ok (.ret v)) { s with heap:=g,toks:=e }) :
 Q05 (Q0i prog w) A (.builtin "max.loop" ⟨[.ref it,.none,.ref S],[("default",d)]⟩) R s:=by
 have B:S∉wr:=λz=>m (W.sub _ z)
 refine Vq ?_
 show Q0d _ A.in1 (Q2y (.ref S)>>=_) _ _ s;refine u3 (gG t rfl ?_)
 show Q0d _ A.in1 (tryCatch (Q1o (.ref it)) _>>=_) _ _ s
 by_cases h:n=0
 .refine u3 (qw (W.done s _ _ (h ▸ r) λg e f=>?_))
  show Q0d _ A.in1 (rule _>>=_) _ _ _;exact u3 (iI (t4 (k d g e (by rw[t5 h]) λb o b1 _ q=>f b o b1 q)))
 .refine u3 (qw (W.item 0 s _ _ (Nat.pos_of_ne_zero h) r λv g e pv j f=>?_))
  have a:=f S _ B t
  show Q0d _ A.in1 (updateSeq S (λ_=>#[v,v])>>=_) _ _ _;refine u3 (qR a rfl ?_)
  rw[v5];refine t4 ⟨ni qJ _,ziV W l x m (n-1) 0 _ v _ ∅ (W.frame _ _ _ j λb u o q=>?_) pv (i6 _ a rfl) λC D i y p=>?_⟩
  .exact(g6 _ _ (λz:S=b=>m (z ▸ u))).trans q
  .exact k C D i (by rw[j5 h];exact y) λb o b1 b2 q=>p b o b1 b2 ((g6 _ _ (bh b2)).trans (f b o b1 q))
end
def zdX (x d:Q0e):argsOk "max" ⟨[x],[(Q0b "default",d)]⟩:=by unfold argsOk;kernel_rfl
def zbc {w:Q0k}{A:zP}{Q:yM} (h:Q0d (Q0i a w) A.in1 (pyIter x) (λi c=>∃ r f m n P St j,i=.ref r/\Walks a w A.in1 r f m n P St/\St 0 c.heap/\(∀ b∈f,b<⇑c)/\CmpOf a w A.in1 .Gt P j /\
 ∀ v g l,(if n=0 then v=d else P (Q00 j (n-1)) v)->(∀ b o,b∉m->c.heap.get? b≈o->g.get? b≈o)->Q v { c with heap:=g,toks:=l }) E s) :
 Q0d (Q0i a w) A (call (.builtin "max") [x] [(Q0b "default",d)]) Q E s:=by
 refine PyProof.Rows.kmk_tree F.kind_max F.plain_max F.entry_max (zdX x d) ?_
 show Q0d _ A.in1 (Q1h "max" ["key","default"] 0 ⟨[],[(Q0b "default",d)]⟩>>=_) _ _ s
 refine u3 (wpAny_of_eq (show Q1h "max" ["key","default"] 0 ⟨[],[(Q0b "default",d)]⟩=pure [none,some d]from rfl) (u3 (t4 ?_)))
 refine u3 (cG h (λi c B=>?_) λ_ _ e=>e)
 obtain⟨r,f,m,n,P,St,j,rfl,W,t,q,u,k⟩:=B
 refine u3 (l9 ?_)
 have C:⇑c∉f:=λz=>dW _ (q _ z)
 rw[v5]
 refine t4 ⟨ni qJ _,zkn W j u C (W.frame _ _ _ t λb _ o e=>u6 _ e) (j6 _ rfl) λv g l p y=>?_⟩
 exact k v g l p λb o b1 e=>y b o b1 (r4 (j4 e)) (u6 _ e)
end PySem
namespace PySem
open Sem (wp)
def zcj {w:Q0k}(g:(d == Q0B)=false) :
 MeetsIn a w (Builtin.«dict.__len__» ⟨[.ref d],[]⟩) (λ_ R s=>∃ o c e,s.heap.get? d≈o/\o.data=.dict c e/\R (.ok (.ret (.int c.size s.toks))) { s with toks:=s.toks+1 }) :=
 .of_wp λA R s ⟨o,c,e,f,b,h⟩=>by
  show Q0d _ _ (dictSize d>>=_) _ _ s;unfold dictSize;refine u3 (u3 (BP f b (t4 ?_)))
  show Q0d _ _ (Builtin.Dict.pendingCount d>>=_) _ _ s;refine u3 (wpAny_pendingCount_other g (wpAny_ret_mkInt ?_))
  simpa using h
def zbR {w:Q0k} {s:zm} {o:Obj} {a:Array Q07} {f:Nat} {Q:yM} (g:(d == Q0B)=false) (e:s.heap.get? d≈o) (i:o.cls=.type "dict") (c:o.data=.dict a f) (j:(a.size:Int)<2^63) (h:Q (.int a.size (s.toks+1)) { s with toks:=s.toks+1+1 }):Q0d (Q0i b w) A (call (.builtin "len") [.ref d]) Q E s:=by
 have ty:s.TypeIs (.ref d) "dict":=⟨o,e,i⟩
 refine Jg kind_len plain_len entry_len (args_len1 _) ?_
 unfold Builtin.«len»
 refine u3 (m:=oneArg "len" _) (t4 (u3 (m:=callSpecial? (.ref d) (Q0b "__len__")) (p9 (name:=Q0b "__len__") ty F.slot_dict_len (call_meetsIn F.slot_dict_len ty F.entry_dict_len (F.args_dict_len_1 _) (zcj g) ⟨o,a,f,e,c,?_⟩))))
 show Q0d _ _ _ _ _ { s with toks:=s.toks+1 };refine u3 (h9 (t4 (u3 (jX ?_))))
 show Q0d _ _ (if ((a.size:Nat):Int)<0 then _ else _) _ _ _;rw[j5 ∅]
 show Q0d _ _ (if ((a.size:Nat):Int) >= 2^63 then _ else _) _ _ _;rw[j5 ∅]
 exact u3 (wpAny_mkInt (t4 ⟨_,rfl,h⟩))
end PySem
namespace L2
open PySem PySem.Spec PyProof.Rows
section
variable {X:Cx}{e de:Expr}{p pos kp:Pos}{t:TA}{td:TE}
def Uh (K:zA)(t:TA)(td:TE):TE:=fun σ H Q=>t σ H λb H1=>td σ H1 λy H2=>∃ (a:Addr) (ns:zr) (k:Int),b=[.ref a]/\y=.int k/\aN K H2 a (ns.map V.int)/\Q (.int (if ns=[]then k else Dl.maxL ns)) H2
def znq (N:X.calm=true) (R:Gl X "max") (P:X.mg "max"=none) (f:Q0j "max"≈(.builtin "max")) (V:PA X [e] t) (Z:PE X de td) (M:Q0v pos (Q0c [e] X.env)=(false,eval e X.env)::Q0v pos (Q0c [] X.env):=by rfl) (r:(Q0v pos (Q0c [e] X.env)).any (·.1)=false:=by rfl) :
 PE X (.Call (.Name "max" p) [e] [⟨some "default",de,kp⟩] pos) (Uh X.K t td):=by
 intro c s σ H Q I h
 refine kJ (Wn I R P f ?_ ⋯ ⋯)
 refine PyProof.Rows.callWith_kw (aG (V pos c s σ H _ I h) λus Y ⟨vs,H1,I1,L,q1⟩=>PyProof.Rows.kws_cons (aG (Z c Y σ H1 _ I1 q1) λud s2 ⟨y,H2,I2,F,J⟩=>PyProof.Rows.kws_nil ?_)) M r
 obtain⟨a,ns,k,rfl,rfl,hq,q⟩:=J
 obtain⟨u,rfl,ru⟩:=Zj L
 cases ru
 obtain⟨w,rfl⟩:=F
 letI:Dl.KK:=⟨X.K,0⟩
 refine zbc (Dl.seq_walk I2 (I2.ok.hd N) (.inl hq) λit b U G St s₂ g W S n d=>?_)
 have A:=↥g
 rw[u5]at A
 refine⟨it,U,G,_,_,St,λi j=>decide (ns.getD j 0<ns.getD i 0),rfl,W,S,n,λi j vi vj s Q E K l hQ=>?_,λv C z f D=>?_⟩
 .obtain⟨t1,rfl⟩:=Dl.vals_int g K
  obtain⟨t2,rfl⟩:=Dl.vals_int g l
  exact Q2g hQ
 .by_cases o:ns=[]
  .subst o
   have h0:↥b=0:=A.symm
   rw[t5 h0]at f
   subst f
   exact⟨.int k,H2,d C z D,⟨w,rfl⟩,by rw[t5 rfl]at q;exact q⟩
  .have B:0<↥ns:=List.length_pos_iff.mpr o
   rw[j5 ∅]at f
   obtain⟨t,rfl⟩:=Dl.vals_int g f
   rw[j5 o]at q
   refine⟨.int (Dl.maxL ns),H2,d C z D,⟨t,?_⟩,q⟩
   have key:=Dl.best_ge (λi=>ns.getD i 0) (↥b-1)
   have T:Q00 (λi j=>decide (ns.getD j 0<ns.getD i 0)) (↥b-1)<↥ns:=by
    have:=(key 0 (cO _)).2
    omega
   rw[Dl.max_is (m:=ns.getD (Q00 (λi j=>decide (ns.getD j 0<ns.getD i 0)) (↥b-1)) 0) (Dl.getD_mem T)]
   intro x O
   obtain⟨j,l,rfl⟩:=kW O
   have:=(key j ∅).1
   rw[<-Dl.getD_at l]
   exact this
end
def Kg:jT:=λc H Q=>∃ (a:Addr) (b:VV),c=[.ref a]/\Rd H a (.dT b)/\Q (.int ↥b) H
def zhY:vq X (.builtin "len") Kg:=by
 intro d s σ H t v Q I r h
 obtain⟨a,b,rfl,l,q⟩:=h
 obtain⟨u,rfl,f⟩:=Zj r
 cases f
 obtain⟨y,i,x,k,o,p,w,m,j,c,e,_⟩:=uC I.hok l
 have g:p.size=↥b:=(size_of_entries e).trans k.length.symm
 have n:=X4
 refine zbR i m j.1 c ∅ ⟨.int ↥b,H,I.tok _,⟨_,by rw[g]⟩,q⟩
end L2
namespace Dl
open PySem L2
variable [KK]
section
variable {X:Cx}{e de:Expr}{p pos kp:Pos}
def Fi:xD
 |.lst ds,.int k=>(dR ds).map λns=>.int (if ns=[]then k else maxL ns)
 |_,_=>none
def zoe {f:zW} (B:X.calm=true) (K:Gl X "max") (I:X.mg "max"=none) (r:ED X e f) (x:ED X de h) (A:Q0c [e] X.env=(false,eval e X.env)::Q0c [] X.env:=by rfl) (u:Q0v pos (Q0c [e] X.env)=(false,eval e X.env)::Q0v pos (Q0c [] X.env):=by rfl) (g:(Q0v pos (Q0c [e] X.env)).any (·.1)=false:=by rfl) :
 ED X (.Call (.Name "max" p) [e] [⟨some "default",de,kp⟩] pos) (zg Fi f h):=by
 obtain⟨M,t,m⟩:=r
 obtain⟨N,G,E⟩:=x
 refine⟨_,znq B K I MN (zw t yt A) G u g,fun σ ρ F H z Q s j e q=>?_⟩
 obtain⟨d,J,e⟩:=u4.mp e
 obtain⟨k,l,b⟩:=u4.mp e
 refine m σ ρ F H d _ s j J λF1 H1 v i o=>?_
 refine E σ ρ F1 H1 k _ i.fh (j.mono i.ff) l λF2 H2 y c n=>?_
 unfold Fi at b
 split at b <;> try cases b
 obtain⟨ns,w,rfl⟩:=u8.mp b
 cases W9 w
 obtain⟨a,O,rfl,C,L⟩:=(o.mono c.ff).lst_inv
 cases L.of_ints
 exact⟨a,ns,_,rfl,n.int_inv,aN.of (c.fh _ _ C),q F2 H2 _ (i.trans c) .int⟩
def Em:x9
 |[.dct _ true ks _]=>some (.int ↥ks)
 |_=>none
def zk4:dm Kg Em:=by
 intro F H m l z Q s k e q
 unfold Em at e
 split at e <;> cases e
 obtain⟨x,r,rfl,d,h⟩:=k.cons_inv
 cases h.nil_inv
 unfold At at d
 obtain⟨a,n,rfl,⟨u,i,c⟩,_⟩:=d
 obtain⟨b,rfl,g,_⟩:=i
 have j:Rd H a (.dT b):=by
  split at c
  .obtain⟨f,c⟩:=c
   exact .inr ⟨f,s _ _ c⟩
  .exact .inl (s _ _ c)
 exact⟨a,b,rfl,j,by rw[show(↥b:Int)=((b.map (·.1)).length:Nat) by rw[u5],g];exact q F H _ (.refl s) .int⟩
end
end Dl
namespace OwnDk
open PySem
section
variable {prog:zO}{w:Q0k}{A:zP}{E:yM}{s:zm}
def zbY (hh:A.handled=none)(I a:Addr)(hne:a≠I){ob:Obj}{es:Array Q07}{ep:Nat}(hd:ob.data=.dict es ep) :
 Walks prog w A I [I,a] [I] es.size (λi v=>∃ e,es[i]?≈e/\v=e.key) (λi h=>h.IsKeyIter I a i es.size ep/\h.get? a≈ob) where
 sub:=λb hb=>by simp at hb;simp[hb]
 frame:=λ_ _ _ x hk=>⟨x.1.at λo e=>hk I (by simp) o e,hk a (by simp) _ x.2⟩
 item:=λi s Q E hi x hQ=>by
  have hx:es[i]?≈(es[i]'hi):=nu _
  refine L2.raw_next x.1 x.2 hd hx λh' he' hs'=>?_
  exact hQ _ h' s.toks ⟨_,hx,rfl⟩ ⟨he',(hs'.2 a hne).trans x.2⟩ λb o hb eo=>hs'.extBut b o (λh=>hb (by simp[h])) eo
 done:=λs Q E x hQ=>L2.raw_end hh x.1 x.2 hd (t6 _) λh' he'=>hQ h' s.toks λb o hb eo=>he' b o (λh=>hb (by simp[h])) eo
 self:=λ_ _ _ _ x hQ=>wpAny_pyIter_keyiter x.1 hQ
def Wx {x:Obj}{g:Array Q07}{Q:zC->Q0u->Prop}(hh:A.handled=none)(Y:(a == Q0B)=false)(N:s.heap.get? a≈x)(J:x.ExactDict)(O:x.data=.dict g u)(V:g.size<=sizeLine)(Z:∀ k,(∀ b o,s.heap.get? b≈o->k.heap.get? b≈o)->k.gens=s.gens->k.drawn=s.drawn->k.os=s.os->Q (g.toList.map (·.key)) k):Q0d (Q0i prog w) A (collect (.ref a)) Q E s:=by
 have D:a<⇑s:=j4 N
 have n:⇑s≠a:=iR D
 unfold collect
 refine u3 (wpAny_runValue (BR F.entry_proto_collect ?_))
 rw[Ik F.plain_proto_collect _]
 show Q0d _ A.in1 (newList []>>=λl=>again (.builtin "list.__iadd__" ⟨[l,.ref a],[]⟩)) _ _ s
 refine u3 (l9 ?_)
 refine t4 ⟨ni F.plain_list_iadd _,BR F.entry_list_iadd ?_⟩
 rw[Ik F.plain_list_iadd _]
 have h:(s.heap.push { cls:=.type "list",data:=.seq ([]:zC).toArray }).get? a≈x:=u6 _ N
 have C:(s.heap.push { cls:=.type "list",data:=.seq ([]:zC).toArray }).get? ⇑s≈{ cls:=.type "list",data:=.seq ([]:zC).toArray }:=j6 _ rfl
 generalize B:s.heap.push { cls:=.type "list",data:=.seq ([]:zC).toArray }=h1 at h C ⊢
 have R:∀ b o,s.heap.get? b≈o->h1.get? b≈o:=λb o e=>by rw[<-B];exact u6 _ e
 have t:h1.objs.size=⇑s+1:=by rw[<-B];exact s0 ..
 show Q0d _ A.in1 (Q1i (.ref ⇑s) (.ref a) (.ref ⇑s)) _ _ _
 unfold Q1i
 refine u3 (qD (T:="dict") ⟨_,h,J.1⟩ ?_)
 have g1:Q1B (.ref ⇑s) (.ref a)=false:=by simp[Q1B,n]
 have S:(Q0A "dict" == Q0A "list")=false:=by decide
 have U:(Q0A "dict" == Q0A "tuple")=false:=by decide
 simp only[g1,S,U,Q2n,qP,gC]
 refine u3 (L2.raw_iter Y h J O ?_)
 have v:(h1.push { cls:=.type "dict_keyiterator",data:=.fields #[.ref a,.int 0 0,.int g.size 0,.int u 0] }).IsKeyIter h1.objs.size a 0 g.size u:=⟨_,j6 _ rfl,rfl,rfl⟩
 have r:(h1.push { cls:=.type "dict_keyiterator",data:=.fields #[.ref a,.int 0 0,.int g.size 0,.int u 0] }).get? a≈x:=u6 _ h
 have q:=u6 { cls:=.type "dict_keyiterator",data:=.fields #[.ref a,.int 0 0,.int g.size 0,.int u 0] } C
 generalize K:h1.push { cls:=.type "dict_keyiterator",data:=.fields #[.ref a,.int 0 0,.int g.size 0,.int u 0] }=h2 at v r q ⊢
 have k2:∀ b o,h1.get? b≈o->h2.get? b≈o:=λb o e=>by rw[<-K];exact u6 _ e
 refine u3 (h9 (PySem.W.kdl_hint_dict ⟨_,r,J.1⟩ ?_))
 show Q0d _ A.in1 (if true then _ else _) _ _ _
 rw[t5 rfl]
 refine u3 (iI (u3 ?_))
 show Q0d _ A.in1 (updateSeq ⇑s (·.push .none)>>=λ_=>updateSeq ⇑s (·.pop)) _ _ _
 refine u3 (qR q rfl ?_)
 have y:=i6 (Q0t (·.push Q0z)) q rfl
 refine qR (hz:=by seq_fits) y rfl ?_
 have G:=i6 (Q0t (·.pop)) y rfl
 have p:∀ b o,b≠⇑s->h2.get? b≈o->((h2.update ⇑s (Q0t (·.push Q0z))).update ⇑s (Q0t (·.pop))).get? b≈o :=
  λb o M e=>(g6 _ _ (bh M)).trans ((g6 _ _ (bh M)).trans e)
 have m:h1.objs.size≠⇑s:=by rw[t];exact Nat.succ_ne_self _
 have I:a≠h1.objs.size:=by rw[t];exact r4 (qK D)
 have W:=zbY (prog:=prog) (w:=w) (A:=A.in1) hh h1.objs.size a I O
 refine t4 ⟨ni F.plain_extend_loop _,codeAny_extend_loopS W.toS V _ (λd=>?_) _ g.size 0 _ #[] _ rfl (cO _) ⟨v.at λo e=>p _ _ m e,p _ _ (bh n) r⟩ G (ItemsOf.nil _) λk c c' j L f=>?_⟩
 .rcases t9.mp d with e|e
  .exact m e.symm
  .exact n (t7.mp e)
 .show Q0d _ A (load ⇑s>>=_) _ _ k
  refine u3 (wpAny_load L ?_)
  refine t4 ?_
  have e1:c.toList=g.toList.map (·.key):=by
   apply CN
   intro i
   by_cases H:i<g.size
   .have P:c[i]?≈(c[i]'(by rw[f.1];exact H)):=nu _
    obtain⟨e,X,q3⟩:=f.2 i _ P
    rw[q4,Io,Io,P,X,q3]
    rfl
   .rw[kh (by rw[i8,f.1];exact jx H),kh (by rw[u5,i8];exact jx H)]
  rw[e1]
  refine Z k (λb o e=>j.heap b o (λd=>?_) (p b o (r4 (j4 e)) (k2 b o (R b o e)))) j.gens j.drawn j.os
  rcases t9.mp d with z|z
  .exact r4 (j4 e) z
  .have:=j4 e
   rw[t7.mp z,t]at this
   exact absurd (Nat.lt_of_succ_lt this) (dW _)
def own_sorted_dict {y:Obj}{l:Array Q07}{Q:yM}(hh:A.handled=none)(X:(a == Q0B)=false)(U:s.heap.get? a≈y)(Y:y.ExactDict)(V:y.data=.dict l P)(g:l.size<64)(D:∀ v∈l.toList.map (·.key),∃ t,OwnSortT.TT s.heap v t) (h:∀ (f B:Heap) (x:Nat) (d:wc) (c:Nat),d.toList.Perm (l.toList.map (·.key))->OwnSortT.Rise s.heap d.toList->(∀ b o,s.heap.get? b≈o->f.get? b≈o)->(∀ b o,f.get? b≈o->B.get? b≈o) ->
 B.get? f.objs.size≈{ cls:=.type "list",dict:=none,data:=.seq d c,slots:=#[] }->Q (.ref f.objs.size) { s with heap:=B,toks:=x }) :
 Q0d (Q0i prog w) A (call (.builtin "sorted") [.ref a]) Q E s:=by
 refine Jg PyProof.Rows.kind_sorted PyProof.Rows.plain_sorted PyProof.Rows.entry_sorted (PyProof.Rows.args_sorted1 _) ?_
 unfold Builtin.«sorted»
 refine u3 (m:=checkCount "sorted" 1 1 _) (t4 (u3 (Wx hh X U Y V (k8 (i7 g) (by rw[fZ];decide)) λs' k g1 K L=>?_)))
 obtain⟨f,g',I,M,u⟩:=s'
 have e1:g'=s.gens:=g1
 have J:I=s.drawn:=K
 have W:u=s.os:=L
 subst e1 J W
 have g:(l.toList.map (·.key)).length<64:=by rw[u5,i8];exact g
 generalize l.toList.map (·.key)=vs at *
 refine u3 (wpAny_newList ?_)
 have j:(f.push (Q0x "list" vs.toArray 0)).get? f.objs.size≈(Q0x "list" vs.toArray 0):=j6 _ rfl
 have C:∀ b o,s.heap.get? b≈o->(f.push (Q0x "list" vs.toArray 0)).get? b≈o:=λb o e=>u6 _ (k b o e)
 refine u3 (h9 (fG PyProof.Rows.slot_list_sort ⟨_,j,rfl⟩ PyProof.Rows.entry_list_sort (OwnSortT.ownT_list_sort j (λv q=>let ⟨t,r⟩:=D v q;⟨t,r.keep C⟩) g λd G H=>⟨_,rfl,?_⟩) (PyProof.Rows.args_list_sort _)))
 have n:OwnSortT.Rise s.heap d.toList:=by
  obtain⟨R,q1,N,Z⟩:=H
  refine⟨R,q1,λi v t q r=>?_,Z⟩
  obtain⟨t0,p⟩:=D v (G.mem_iff.mp (k6 q))
  rw[(N i v t q r).uniq (p.keep C)]
  exact p
 have T:∀ b o,b≠f.objs.size->(f.push (Q0x "list" vs.toArray 0)).get? b≈o->(Q0N (f.push (Q0x "list" vs.toArray 0)) f.objs.size vs d).get? b≈o:=λb o F e=>by
  unfold Q0N
  exact(g6 _ _ (bh F)).trans (u6 _ (u6 _ ((g6 _ _ (bh F)).trans e)))
 have z:∃ c,(Q0N (f.push (Q0x "list" vs.toArray 0)) f.objs.size vs d).get? f.objs.size≈{ cls:=.type "list",dict:=none,data:=.seq d c,slots:=#[] }:=by
  unfold Q0N
  have S:=i6 (Q0t λ_=>(#[]:wc)) j rfl
  have O:=u6 (Q0x "list" #[] 0) (u6 (Q0x "tuple" vs.toArray 0) S)
  exact⟨_,i6 (Q0t λ_=>d) O rfl⟩
 obtain⟨c,z⟩:=z
 exact t4 ⟨_,rfl,h f _ _ d c G n k (λb o e=>T b o (r4 (j4 e)) (u6 _ e)) z⟩
end
end OwnDk
namespace Dl
open PySem L2
def EY:List aJ->Option zr
 |[]=>some []
 |.inl i::r=>(EY r).map (i::·)
 |_=>none
def jP:List (List aJ)->Option ZG
 |[]=>some []
 |k::ks=>match EY k with
  |some (i::t)=>(jP ks).map ((i::t)::·)
  |_=>none
def zlq:∀ {k:List aJ} {t:zr},EY k≈t->k=t.map Sum.inl:=by
 intro k
 induction k with
 |nil=>intro t h;cases h;rfl
 |cons a k b =>
  intro t h
  cases a with
  |inl i =>
   obtain⟨r,e,rfl⟩:=u8.mp h
   rw[b e]
   rfl
  |inr x=>cases h
def zlw:∀ {a:List (List aJ)} {b:ZG},jP a≈b->a=b.map (λt=>t.map Q04)/\∀ t∈b,t≠[]:=by
 intro a
 induction a with
 |nil=>intro b h;cases h;exact⟨rfl,λt h=>by cases h⟩
 |cons k a j =>
  intro b h
  unfold jP at h
  split at h
  .rename_i i t e
   obtain⟨r,g,rfl⟩:=u8.mp h
   obtain⟨f,d⟩:=j g
   refine⟨by rw[f,zlq e];rfl,λu c=>?_⟩
   rcases t9.mp c with rfl|c
   .exact BJ _ _
   .exact d u c
  .cases h
def lE (t:zr):ZG->ZG
 |[]=>[t]
 |u::us=>if HT.lexLt u t then u::lE t us else t::u::us
def XX:ZG->ZG
 |[]=>[]
 |t::ts=>lE t (XX ts)
def Rx (t:zr):∀ a:ZG,(lE t a).Perm (t::a):=by
 intro a
 induction a with
 |nil=>exact Ig _
 |cons u a b =>
  unfold lE
  split
  .exact(b.cons u).trans (List.Perm.swap _ _ _)
  .exact Ig _
def VS:∀ a:ZG,(XX a).Perm a:=by
 intro a
 induction a with
 |nil=>exact Ig _
 |cons t a b=>exact(Rx t _).trans (b.cons t)
def ziM (t:zr):∀ f:ZG,f.Pairwise (λa b=>HT.lexLt b a=false)->(lE t f).Pairwise λa b=>HT.lexLt b a=false:=by
 intro f
 induction f with
 |nil=>intro _;exact List.pairwise_singleton _ _
 |cons u f g =>
  intro h
  rw[kO]at h
  unfold lE
  by_cases c:HT.lexLt u t=true
  .rw[t5 c]
   refine kO.mpr ⟨λv d=>?_,g h.2⟩
   rcases t9.mp ((Rx t f).mem_iff.mp d)with rfl|d
   .cases e:HT.lexLt v u with
    |false=>rfl
    |true =>
     have:=OwnSortT.lex_trans _ _ _ c e
     rw[OwnSortT.lex_irr]at this
     cases this
   .exact h.1 v d
  .rw[j5 c]
   have c:HT.lexLt u t=false:=by cases e:HT.lexLt u t with
    |false=>rfl
    |true=>exact absurd e c
   refine kO.mpr ⟨λv d=>?_,kO.mpr h⟩
   rcases t9.mp d with rfl|d
   .exact c
   .cases e:HT.lexLt v t with
    |false=>rfl
    |true =>
     rcases OwnSortT.lex_neg v u t e with z|z
     .rw[h.1 v d]at z;cases z
     .rw[c]at z;cases z
def zdy:∀ c:ZG,(XX c).Pairwise λa b=>HT.lexLt b a=false:=by
 intro c
 induction c with
 |nil=>exact Q2B
 |cons t c d=>exact ziM t _ d
def VN {d:ZG}(p:d.Perm c)(h:d.Pairwise λa b=>HT.lexLt b a=false):d=XX c :=
 Jm (le:=λa b=>HT.lexLt b a=false) (λa b _ _ f e=>OwnSortT.lex_total _ _ e f) h (zdy c) (p.trans (VS c).symm)
def DR (t:zr):D:=.tup (t.map .int)
def Ao:fj
 |[.dct _ true ks _]=>if ↥ks<64 then (jP ks).map λa=>(XX a).map DR else none
 |_=>none
variable [KK]
section
variable {X:Cx}{e:Expr}{pos:Pos}
def Gr.seeL {H:Hp}:∀ {F:Hp} (a:List (Addr × zD)),zZ F H->(∀ b∈a,H b.1≈(.tup b.2))->∃ F',Gr F H F' H/\∀ b∈a,F' b.1≈(.tup b.2):=by
 intro F a
 induction a generalizing F with
 |nil=>intro s _;exact⟨F,.refl s,λb h=>by cases h⟩
 |cons b a j =>
  intro s h
  obtain⟨F1,f,i⟩:=Gr.see s (h b o5)
  obtain⟨F2,e,g⟩:=j f.fh λc d=>h c (r6 _ d)
  refine⟨F2,f.trans e,λc d=>?_⟩
  rcases t9.mp d with rfl|d
  .exact e.ff _ _ i
  .exact g c d
def zc6 (M:X.calm=true):vq X (.builtin "sorted") (λC H Q=>∃ F a z ks ys x,C=[.ref a]/\zZ F H/\iD F a z true ks ys/\↥ks<64/\jP ks≈x/\∀ l zs F',H l=none->Gr F H F' H->ao F' ((XX x).map DR) zs->Q (.ref l) (aA H l (.lst zs))):=by
 intro U s σ H C Y Q I r h
 obtain⟨F,a,z,ks,ys,x,rfl,sm,P,b5,hk,q⟩:=h
 obtain⟨u,rfl,ru⟩:=Zj r
 cases ru
 obtain⟨rfl,a0⟩:=zlw hk
 rw[u5]at b5
 obtain⟨u,hu,hz⟩:=P.mono sm
 unfold cF at hu
 rw[t5 rfl]at hu
 obtain⟨E,rfl,Z,-⟩:=hu
 have ok:yU X.prog X.w H s.heap a (.dT E):=by
  cases z with
  |true=>rw[t5 rfl]at hz;obtain⟨ob,e⟩:=hz;exact(show yU X.prog X.w H s.heap a (.frz ob (.dT E))from I.hok a _ e).2
  |false=>rw[j5 u7]at hz;exact I.hok a _ hz
 obtain⟨_,b4,C,pr,o,es,ep,e1,ex,dt,he,nd⟩:=ok
 have hp:=qp pr
 have b6:↥E=↥x:=by have:=bJ List.length Z;rw[u5,u5]at this;exact this
 have J:es.toList.map (·.key)=C.map λq=>Q0f q.2.1:=by rw[he,l4];rfl
 have a6:es.size<64:=by rw[<-i8,he,u5];omega
 have a9:∀ {l:VV} {m:List (List aJ × Addr × Q0e)},Paired (λp q=>p.1=q.1/\H q.2.1≈(.tup (p.1.map kV))/\y6 p.2 q.2.2) l m->∀ (j:Nat) (k:j<↥l) (D:j<↥m),l[j].1=m[j].1/\H m[j].2.1≈(.tup (l[j].1.map kV)):=λ{l m} r=>by
  induction r with
  |nil=>intro j k;simp at k
  |cons h t S =>
   intro j k D
   cases j with
   |zero=>exact⟨h.1,h.2.1⟩
   |succ j=>exact S j (by simpa using k) (by simpa using D)
 have a3:∀ (j:Nat) (k:j<↥x) (D:j<↥C),H C[j].2.1≈(.tup (x[j].map V.int)):=λj k D=>by
  have h3:j<↥E:=by omega
  obtain⟨-,r2⟩:=a9 pr j h3 D
  have T:E[j].1=x[j].map Sum.inl:=by
   have:=bJ (λl=>l[j]?) Z
   simp only[q4]at this
   rw[j7 h3,j7 k]at this
   exact g0 this
  rw[r2,T,l4]
  rfl
 have L:∀ {v:Q0e},v∈(C.map λq=>Q0f q.2.1)->∃ b t,v=.ref b/\t∈x/\H b≈(.tup (t.map V.int))/\OwnSortT.TT s.heap v t:=λ{v} hv=>by
  obtain⟨j,hj,rfl⟩:=kW hv
  rw[u5]at hj
  have R:j<↥x:=by omega
  have G:=a3 j R hj
  rw[Bv]
  obtain⟨Y,ru,⟨o,ho,O,n,P⟩,_⟩:=I.tuple (aM.of G)
  exact⟨C[j].2.1,x[j],rfl,mZ R,G,C[j].2.1,o,n,Y,rfl,ho,O,P,vY ru,a0 _ (mZ R)⟩
 refine OwnDk.own_sorted_dict (I.ok.hd M) b4 e1 ex dt a6 (λv hv=>by rw[J]at hv;obtain⟨b,t,-,-,-,N⟩:=L hv;exact⟨t,N⟩) λk h' tk a2 c pm ri k1 k2 hL=>?_
 rw[J]at pm
 obtain⟨Y,l1,l2,l3⟩:=ri
 have W:∀ (y:zC) (f:ZG),↥y=↥f->(∀ w∈y,w∈C.map λq=>Q0f q.2.1)->(∀ (i:Nat) v t,y[i]?≈v->f[i]?≈t->OwnSortT.TT s.heap v t)->∃ B:List (Addr × zr),B.map (·.2)=f/\yy (B.map λb=>V.ref b.1) y/\∀ b∈B,H b.1≈(.tup (b.2.map V.int)):=by
  intro y
  induction y with
  |nil =>
   intro f K _ _
   cases f with
   |nil=>exact⟨[],rfl,.nil,λb h=>by cases h⟩
   |cons _ _=>simp at K
  |cons w y S =>
   intro f K hm N
   cases f with
   |nil=>simp at K
   |cons t f =>
    obtain⟨B,z0,z1,z2⟩:=S f (by simpa using K) (λw' a4=>hm w' (r6 _ a4)) (λi v t k D=>N (i+1) v t (by simpa using k) (by simpa using D))
    obtain⟨a,t',rfl,_,ha,b0⟩:=L (hm w o5)
    have et:t'=t:=b0.uniq (N 0 _ t rfl rfl)
    subst et
    exact⟨(a,t')::B,by rw[n0,z0],.cons rfl z1,λb G=>by
     rcases t9.mp G with rfl|G
     .exact ha
     .exact z2 b G⟩
 obtain⟨B,z0,z1,z2⟩:=W a2.toList Y l1 (λw hw=>pm.mem_iff.mp hw) l2
 have A:Y.Perm x:=by
  have kv:∀ (y:zC) (f:ZG),↥y=↥f->(∀ (i:Nat) v t,y[i]?≈v->f[i]?≈t->OwnSortT.TT s.heap v t)->f=y.map λv=>(OwnSortT.keyTT s.heap v).getD []:=by
   intro y
   induction y with
   |nil=>intro f K _;cases f with
    |nil=>rfl
    |cons _ _=>simp at K
   |cons w y S =>
    intro f K N
    cases f with
    |nil=>simp at K
    |cons t f =>
     rw[n0,OwnSortT.keyTT_of (N 0 w t rfl rfl),<- S f (by simpa using K) λi v t k D=>N (i+1) v t (by simpa using k) (by simpa using D)]
     rfl
  rw[kv _ _ l1 l2,kv (C.map λq=>Q0f q.2.1) x (by rw[u5];omega) λi v t k D=>?_]
  .exact pm.map _
  .obtain⟨hi,e2⟩:=t8.mp k
   obtain⟨a1,T⟩:=t8.mp D
   rw[u5]at hi
   have G:=a3 i a1 hi
   rw[T]at G
   obtain⟨a7,a8,⟨o,ho,O,n,P⟩,_⟩:=I.tuple (aM.of G)
   exact⟨C[i].2.1,o,n,a7,by rw[<-e2,Bv],ho,O,P,vY a8,a0 t (by rw[<-T];exact mZ a1)⟩
 have T:=VN A l3
 subst T
 obtain⟨F',g,hF⟩:=Gr.seeL (B.map λb=>(b.1,b.2.map V.int)) sm λb G=>by
  obtain⟨c,M,rfl⟩:=g9.mp G
  exact z2 c M
 have az:ao F' ((XX x).map DR) (B.map λb=>V.ref b.1):=by
  rw[<-z0]
  clear z0 z1 pm l1 l2
  induction B with
  |nil=>exact .nil
  |cons b B S=>exact .cons (.tup (hF (b.1,b.2.map V.int) (g9.mpr ⟨b,o5,rfl⟩)) (.ints _)) (S (λc M=>z2 c (r6 _ M)) (λc M=>by
   obtain⟨d,P,rfl⟩:=g9.mp M
   exact hF _ (g9.mpr ⟨d,r6 _ P,rfl⟩)))
 have I2:aj X U σ H { s with heap:=k,toks:=tk }:=I.kept λb u e=>k1 b u e
 have a5:(B.map λb=>V.ref b.1).length<=sizeLine:=by
  have hh:↥B=(XX x).length:=by rw[<-z0,u5]
  rw[u5,hh,(VS x).length_eq,fZ]
  omega
 exact⟨.ref k.objs.size,_,I2.laid (t':=tk) (λb o e=>k2 b o e) (t6 _) (show yU X.prog X.w _ h' _ (.lst (B.map λb=>V.ref b.1)) from⟨a5,a2.toList,c,z1,by simpa using hL⟩),rfl,q _ _ F' (I2.hok.fresh (t6 _)) g az⟩
def zgf {f:yL} (I:X.calm=true) (h:Gl X "sorted") (L:X.mg "sorted"=none) (y:AD X [e] f) (B:Q0c [e] X.env=(false,eval e X.env)::Q0c [] X.env:=by rfl) (d:(Q0v pos (Q0c [] X.env)).any (·.1)=false:=by rfl):FL X (.Call (.Name "sorted" p) [e] [] pos) (gK Ao f):=by
 obtain⟨t,A,k⟩:=y
 refine⟨_,yn (zc6 I) h L QX A ⋯ ⋯ B d,fun σ ρ F H z Q s m e q=>?_⟩
 obtain⟨n,N,j⟩:=u4.mp e
 refine k σ ρ F H n _ s m N λF1 H1 P i w=>?_
 have a:=j
 unfold Ao at a
 split at a
 .rename_i G u R
  split at a <;> try cases a
  rename_i O
  obtain⟨v,E,rfl⟩:=u8.mp a
  obtain⟨x,r,rfl,M,o⟩:=w.cons_inv
  cases o.nil_inv
  obtain⟨p,C,rfl,J,bl⟩:=M.dct_inv
  refine⟨F1,p,G,u,C,v,rfl,i.fh,J,∅,E,λl zs F' c g K=>?_⟩
  have b:=i.trans g
  exact q _ _ _ _ (b.trans (Gr.hide b.fh c _)) (iz b c) (b.fh.free c) zn K
 .cases a
end
end Dl
namespace Dl
open PySem L2
def b3:jl
 |.tup [x,y,z]=>some [some x,some y,some z]
 |_=>none
end Dl
namespace Dl
open PySem L2
variable [KK]
section
variable {E:XK}{cl:Nat->Addr}{X:Cx}{a b e:Expr}{es:y0}{pos:Pos}
def TF {x:Str} {id:String} {p:Pos} {c:eN} (n:Gl X x) (m:X.mg x=none) (o:Q0j x≈(.builtin id)) (g:XA E cl X (e::es) c) (k:x≠"__name__":=by decide) (b:(x == ("__debug__":Str))=false:=by decide)
 (l:Q0c (e::es) X.env=(false,eval e X.env)::Q0c es X.env:=by rfl) (a:(Q0v pos (Q0c es X.env)).any (·.1)=false:=by rfl):XE E cl X (.Call (.Name x p) (e::es) [] pos) c:=by
 obtain⟨t,i,d⟩:=g
 exact⟨_,yn (r:=λ_ _ _=>False) (λ_ _ _ _ _ _ _ _ _ h=>h.elim) n m o i k b l a,fun σ ρ F0 H j Q s f e w=>d σ ρ F0 H j _ s f e w⟩
end
end Dl
namespace Dl
open PySem L2
variable [KK]
def ak {X:Cx} (i:Nat) (c:X.N[i]?≈x:=by rfl) (e:bR X.env.scope x:=by first | exact Q0n rfl | exact Q2L (Q0n rfl) | exact Q2L (Q2L rfl)) (d:(x == ("__debug__":Str))=false:=by decide) (a:(x == ("__classdict__":Str))=false:=by decide):ED X (.Name x b) (zc i):=zqX i (pv i c e d a)
def zq {X:Cx} {k:Nat} {f:Addr} (F:wt X.prog X.w X.K X.mg X.base aV j f i h (cH m p)) (t:xH k X.A) (u:Gl X x) (d:jG X.K X.mg x q h f i) (r:AD X (e::b) l) (o:j<=k:=by decide) (g:(x == ("__debug__":Str))=false:=by decide) (s:Q0c (e::b) X.env=(false,eval e X.env)::Q0c b X.env:=by rfl) (c:(Q0v a (Q0c b X.env)).any (·.1)=false:=by rfl) :
 ED X (.Call (.Name x n) (e::b) [] a) (zi m p l):=znz (F.mono o) t u d.at_ d.kp d.bd r g s c
end Dl
namespace L2
open PySem PySem.Spec PyProof.Rows
def zif:∀ {b:zF} {a:zC},yy (b.map V.str) a->∃ l:List (Str × Tok),a=strValues l/\l.map (·.1)=b:=by
 intro b
 induction b with
 |nil=>intro a h;cases h;exact⟨[],rfl,rfl⟩
 |cons x b c =>
  intro a h
  cases h with
  |cons r t =>
   obtain⟨u,rfl⟩:=r
   obtain⟨l,rfl,e⟩:=c t
   exact⟨(x,u)::l,rfl,by rw[n0,e]⟩
def zic (l:List (Str × Tok)):yy ((l.map (·.1)).map V.str) (strValues l):=by
 induction l with
 |nil=>exact .nil
 |cons p l a=>exact .cons ⟨p.2,rfl⟩ a
section
variable {X:Cx}
def Kr (K:zA):V->zD->Hp->VK->Prop:=λx c H Q=>∃ a p b,x=.str a/\c=[.ref p]/\aN K H p (b.map V.str)/\JoinOk a b=true/\Q (.str (Txt.join a b)) H
def Xz:Dt X "str.join" (Kr X.K):=by
 intro b s σ H x m v n Q I g d h
 obtain⟨i,p,o,rfl,rfl,j,a,q⟩:=h
 obtain⟨t,rfl⟩:=g
 obtain⟨u,rfl,e⟩:=d.one
 cases e
 obtain⟨c,r,pl,y⟩:=I.list j
 obtain⟨l,rfl,f⟩:=zif r
 exact SC.join (D:=p) pl.isList f a λw k=>⟨.str _,H,I.tok _,⟨_,rfl⟩,q⟩
def zhP {w:Q0k} {s:zm} {a b:Str} {g:Tok} {Q:yM} (i:(↥b == 0)=false) (j:↥a+2<=sizeLine) (q:∀ (l:List (Str × Tok)) (k:Nat),l.map (·.1)=Txt.split a b->Q (.ref ⇑s) { s with heap:=s.heap.push { cls:=.type "list",data:=.seq (strValues l).toArray },toks:=k }) :
 Q0d (Q0i e w) A (call (.builtin "str.split") [.str a c,.str b g]) Q E s:=by
 have h:(Q1C a (Q0C a b 0 ↥a (↥a+1)) ↥b).length<=sizeLine:=by
  have z:=StrLaws.occ_length_le a b 0 ↥a (↥a+1)
  rw[length_partsBetween]
  omega
 cases d:(decide (↥a<↥b)||decide (Q2b a<Q2b b)) with
 |true=>exact eV F.slot_str_split (mL s a c) Je (IV _ _) (meets_str_split_cannot_occur a b c g d) (q [(a,c)] s.toks (by unfold Txt.split;rw[t5 d];rfl))
 |false =>
  cases f:(Q0C a b 0 ↥a (↥a+1)).isEmpty with
  |true=>exact eV F.slot_str_split (mL s a c) Je (IV _ _) (meets_str_split_not_found a b c g d i f) (q [(a,c)] s.toks (by unfold Txt.split;rw[j5 (by rw[d];decide),t5 f];rfl))
  |false =>
   refine eV F.slot_str_split (mL s a c) Je (IV _ _) (meets_str_split_sep a b c g d i f ∅ h) ?_
   have z:=q (numbered s.toks (Q1C a (Q0C a b 0 ↥a (↥a+1)) ↥b))
   rw[<-strsFrom_eq]at z
   exact z _ (by rw[numbered_texts];unfold Txt.split;rw[j5 (by rw[d];decide),j5 (by rw[f];decide)])
def M3:V->zD->Hp->VK->Prop:=λx c H Q=>∃ a b,x=.str a/\c=[.str b]/\(↥b == 0)=false/\↥a+2<=sizeLine/\(Txt.split a b).length<=sizeLine/\∀ l,H l=none->Q (.ref l) (aA H l (.lst ((Txt.split a b).map V.str)))
def zjR:Dt X "str.split" M3:=by
 intro c s σ H x m v n Q I i f h
 obtain⟨a,b,rfl,rfl,j,g,d,q⟩:=h
 obtain⟨t,rfl⟩:=i
 obtain⟨u,rfl,o,rfl⟩:=f.one
 refine zhP j g λl k e=>?_
 refine⟨.ref _,_,I.lnew (ys:=(Txt.split a b).map V.str) (its:=strValues l) (by rw[<-e];exact zic l) (by rw[u5];exact d),rfl,q _ I.fresh⟩
def zcV:vq X (.type "int") (λc H Q=>∃ a n,c=[.str a]/\↥a<=640/\intText? a≈n/\Q (.int n) H):=by
 intro b s σ H c f Q I r h
 obtain⟨a,n,rfl,e,d,q⟩:=h
 obtain⟨u,rfl,t,rfl⟩:=Zj r
 exact call_int_1 (PySem.W.KIN.gives_text e d).meets (show(Made.int n).post _ s from⟨rfl,.int n,H,I.tok _,⟨_,rfl⟩,q⟩)
def J2 (a:Str):It:=⟨λi _=>i<a.cps.size,λi H x H'=>H'=H/\∃ c,a.cps[i]?≈c/\x=.str ⟨#[c]⟩,λi _=>a.cps.size<=i⟩
def zlt {P:zO} {w:Q0k} {K:zA} {tg:Expr} (a:Str) (t:Tok) (it:Addr):gQ P w K tg (J2 a) [it] it (λi h=>h.IsStrIter it "str_ascii_iterator" a t i) where
 mem:=t7.mpr rfl
 obj:=λi h st b hb=>by
  obtain rfl:=t7.mp hb
  obtain⟨o,e,_,d⟩:=st
  exact⟨o,e,λv z=>by rw[d]at z;cases z⟩
 keep:=λi h h' st k=>by
  obtain⟨o,e,r⟩:=st
  exact⟨o,k it (t7.mpr rfl) o e,r⟩
 item:=by
  intro X hP hw hK hc i pins s σ H E I hf st hg
  subst hP hw hK
  have hg:i<a.cps.size:=hg
  obtain⟨f0,f1,f2,f3,f4,f5⟩:=hf it (t7.mpr rfl)
  refine wpAny_pyNext_ascii_item st (c:=a.cps[i]) (nu hg) λh' st' sb=>?_
  have I1:aj X pins σ H { s with heap:=h',toks:=s.toks+1 }:=I.turned (t':=s.toks+1) (λb o hb e=>(sb.2 b hb).trans e) f0 f1 f3 f4 f5
  obtain⟨o,e,c,d⟩:=id st'
  exact⟨_,rfl,pC (s:={ s with heap:=h',toks:=s.toks+1 }) e c d ⋯ ⟨.str ⟨#[a.cps[i]]⟩,H,I1,⟨_,rfl⟩,⟨rfl,_,nu hg,rfl⟩,st',λb hb=>(hf b hb).1⟩⟩
 done:=by
  intro X hP hw hK hc i pins s σ H E I hf st hg
  subst hP hw hK
  have hg:a.cps.size<=i:=hg
  obtain⟨f0,f1,f2,f3,f4,f5⟩:=hf it (t7.mpr rfl)
  exact wpAny_pyNext_ascii_end (I.ok.hd hc) st (Q1Q hg) λh' eb=>⟨rfl,I.turned (t':=s.toks) (λb o hb e=>eb b o hb e) f0 f1 f3 f4 f5⟩
 self:=λ_ _ _ _ _ st h=>wpAny_pyIter_striter_ascii st h
def JL (t:TE):TI:=fun σ H R=>t σ H λx H1=>∃ a,x=.str a/\a.cps.all (· < 128)=true/\R (J2 a) H1
def zqg {t:TE}(h:PE X e t):PI X i e (JL t):=by
 intro c s σ H R I q
 refine aG (h c s σ H _ I q) λv d hh9=>?_
 obtain⟨x,H1,I1,g,j⟩:=hh9
 obtain⟨a,rfl,f,q⟩:=j
 obtain⟨u,rfl⟩:=g
 refine wpAny_pyIter_ascii f ?_
 refine⟨_,[⇑d],_,J2 a,H1,rfl,I1.kept (t':=d.toks) (λb o e=>u6 _ e),zlt a u _,⟨_,j6 _ rfl,rfl,rfl⟩,λb k=>?_,q⟩
 rw[t7.mp k]
 exact I1.fpOk (t6 _) (I1.hok.fresh (t6 _))
end
end L2
namespace Dl
open PySem L2 PySem.Spec PyProof.Rows
variable [KK]
section
variable {X:Cx}{tg a b e:Expr}{pos:Pos}
def Xh:zl->Option zF
 |[]=>some []
 |.str x::ds=>(Xh ds).map (x::·)
 |_=>none
omit [KK] in
def Y3 (a:zF):Xh (a.map .str)≈a:=by
 induction a with
 |nil=>rfl
 |cons x a b=>show(Xh (a.map .str)).map (x::·)=_;rw[b];rfl
def ao.strs:∀ {a:zl} {b:zF} {c:zD},Xh a≈b->ao F a c->c=b.map V.str:=by
 intro a
 induction a with
 |nil=>intro b c h f;cases h;exact f.nil_inv
 |cons d a g =>
  intro b c h f
  cases d with
  |str x =>
   obtain⟨l,e,rfl⟩:=u8.mp h
   obtain⟨y,r,rfl,i,j⟩:=f.cons_inv
   rw[g e j,i.str_inv]
   rfl
  |_=>cases h
def ao.ofStrs (a:zF):ao F (a.map D.str) (a.map V.str):=by
 induction a with
 |nil=>exact .nil
 |cons x a b=>exact .cons .str b
def Xf (c d:D):Option D:=match c,d with
 |.str s,.lst ds=>(Xh ds).bind λa=>if JoinOk s a then some (.str (Txt.join s a))else none
 |_,_=>none
def Xw {f:zW} {g:yL} (I:ED X a f) (K:AD X [e] g) (B:∀ {b:TE} {t:TA},PE X a b->PA X [e] t->PE X (.Call (.Attribute a "join" p) [e] [] pos) (jA X.K "str" (Kr X.K) b t)):ED X (.Call (.Attribute a "join" p) [e] [] pos) (ZV Xf f g):=by
 obtain⟨b,J,u⟩:=I
 obtain⟨t,E,N⟩:=K
 refine⟨_,B J E,fun σ ρ F H z Q s m h0 q=>?_⟩
 obtain⟨c,O,o⟩:=u4.mp h0
 obtain⟨T,r,h⟩:=u4.mp o
 clear h0 o
 split at h
 .rename_i d
  unfold Xf at h
  split at h
  .rename_i i S
   obtain⟨C,L,h⟩:=u4.mp h
   split at h <;> cases h
   rename_i j
   refine u σ ρ F H _ _ s m O λF1 H1 v k G=>?_
   cases G.str_inv
   refine⟨rfl,?_⟩
   refine N σ ρ F1 H1 _ _ k.fh (m.mono k.ff) r λF2 H2 R n A=>?_
   obtain⟨y,U,rfl,w,x⟩:=A.cons_inv
   cases x.nil_inv
   obtain⟨l,V,rfl,M,P⟩:=w.lst_inv
   have:=P.strs L
   subst this
   exact⟨i,l,C,rfl,rfl,aN.of (n.fh _ _ M),j,q F2 H2 _ (k.trans n) .str⟩
  .cases h
 .cases h
def Gd (c d:D):Option zl:=match c,d with
 |.str x,.str y=>if (↥y == 0)=false/\↥x<=100000/\(Txt.split x y).length<=100000 then some ((Txt.split x y).map .str)else none
 |_,_=>none
def Ko (m:D->D->Option zl)(f:zW)(g:yL):yL:=fun ρ=>(f ρ).bind λc=>(g ρ).bind λa=>match a with
 |[d]=>m c d
 |_=>none
def zj8 {f:zW} {g:yL} (J:ED X a f) (L:AD X [e] g) (E:∀ {i:TE} {t:TA},PE X a i->PA X [e] t->PE X (.Call (.Attribute a "split" p) [e] [] pos) (jA X.K "str" M3 i t)):FL X (.Call (.Attribute a "split" p) [e] [] pos) (Ko Gd f g):=by
 obtain⟨i,K,A⟩:=J
 obtain⟨t,G,M⟩:=L
 refine⟨_,E K G,fun σ ρ F H z Q s n h0 q=>?_⟩
 obtain⟨c,O,o⟩:=u4.mp h0
 obtain⟨R,r,h⟩:=u4.mp o
 clear h0 o
 split at h
 .rename_i d
  unfold Gd at h
  split at h
  .rename_i x y
   split at h <;> cases h
   rename_i w
   refine A σ ρ F H _ _ s n O λF1 H1 v m I=>?_
   cases I.str_inv
   refine⟨rfl,?_⟩
   refine M σ ρ F1 H1 _ _ m.fh (n.mono m.ff) r λF2 H2 P j C=>?_
   obtain⟨u,S,rfl,N,B⟩:=C.cons_inv
   cases B.nil_inv
   cases N.str_inv
   have T:100002<=sizeLine:=by rw[fZ];decide
   have b:=m.trans j
   exact⟨x,y,rfl,rfl,w.1,by omega,by omega,λl k=>q _ _ _ _ (b.trans (Gr.hide j.fh k _)) (iz b k) (j.fh.free k) zn (ao.ofStrs _)⟩
  .cases h
 .cases h
def wk:x9
 |[.int i]=>if 0<=i/\i<1000000 then some (.str (Q0b (toString i)))else none
 |_=>none
def zX:dm (λg H Q=>∃ i,g=[.int i]/\i.natAbs.log2<1920/\Q (.str (toString i)) H) wk:=by
 intro F H l k z Q s f h q
 unfold wk at h
 split at h
 .rename_i i
  split at h <;> cases h
  rename_i j
  obtain⟨x,r,rfl,d,a⟩:=f.cons_inv
  cases a.nil_inv
  refine⟨i,by rw[d.int_inv],?_,q F H _ (.refl s) .str⟩
  by_cases c:i.natAbs=0
  .rw[c];decide
  .have e:(2:Nat)^20=1048576:=by decide
   have b:i.natAbs<2^20:=by rw[e];omega
   exact(Nat.log2_lt c).mpr (q5 b (Nat.pow_le_pow_right ⋯ ⋯))
 .cases h
def Eu:x9
 |[.str x]=>if ↥x<=640 then (intText? x).map .int else none
 |_=>none
def zkX:dm (λg H Q=>∃ a n,g=[.str a]/\↥a<=640/\intText? a≈n/\Q (.int n) H) Eu:=by
 intro F H j i z Q s e h q
 unfold Eu at h
 split at h
 .rename_i x
  split at h
  .rename_i c
   obtain⟨n,b,rfl⟩:=u8.mp h
   obtain⟨y,r,rfl,f,d⟩:=e.cons_inv
   cases d.nil_inv
   exact⟨x,n,by rw[f.str_inv],c,b,q F H _ (.refl s) .int⟩
  .cases h
 .cases h
def uE:x9
 |[.str x]=>if ↥x<=100000 then some (.int (↥x:Int))else none
 |_=>none
def Qv:dm (λd H Q=>∃ z,d=[.str z]/\↥z<=sizeLine/\Q (.int ↥z) H) uE:=by
 intro F H f e z Q s c h q
 unfold uE at h
 split at h
 .rename_i x
  split at h <;> cases h
  rename_i g
  obtain⟨y,r,rfl,b,a⟩:=c.cons_inv
  cases a.nil_inv
  have i:100002<=sizeLine:=by rw[fZ];decide
  exact⟨x,by rw[b.str_inv],by omega,q F H _ (.refl s) .int⟩
 .cases h
def tR:xD
 |.str x,.int i=>if ↥x<=100000 then (L2.atI x.cps.toList i).map λc=>.str ⟨#[c]⟩else none
 |_,_=>none
def zn7:bx DP tR:=by
 intro F H x y d e z Q s g b a q
 unfold tR at a
 split at a
 .rename_i w i
  split at a
  .rename_i h
   obtain⟨c,f,rfl⟩:=u8.mp a
   have j:100002<=sizeLine:=by rw[fZ];decide
   exact⟨w,i,c,g.str_inv,b.int_inv,by omega,f,q F H _ (.refl s) .str⟩
  .cases a
 .cases a
def zrG {f:zW}(e:ED X a f)(c:ED X b h)(d:Gp b):ED X (.Subscript a b pos) (zg tR f h) :=
 let ⟨_,pa,ra⟩:=e
 let ⟨_,pb,rb⟩:=c
 ⟨_,Kd Ni pa pb d,pq zn7 ra rb⟩
def Ef:xD
 |.str x,.str y=>some (.bl (!(Q0C y x 0 ↥y 1).isEmpty))
 |_,_=>none
def zno:bx (λx y H Q=>∃ i j,x=.str i/\y=.str j/\Q (.bl (!(Q0C j i 0 ↥j 1).isEmpty)) H) Ef:=by
 intro F H x y d e z Q s c b a q
 unfold Ef at a
 split at a <;> cases a
 exact⟨_,_,c.str_inv,b.str_inv,q F H _ (.refl s) .bl⟩
def Kp:D->Option zl
 |.str x=>if x.cps.all (· < 128) then some (x.cps.toList.map λc=>.str ⟨#[c]⟩)else none
 |_=>none
def SM (f:zW):yL:=fun ρ=>(f ρ).bind Kp
def U8 {f:zW}(u:ED X a f):ID X tg a (SM f):=by
 obtain⟨t,p,r⟩:=u
 refine⟨_,zqg p,fun σ ρ F H E R s l e q=>?_⟩
 obtain⟨d,B,b⟩:=u4.mp e
 refine r σ ρ F H d _ s l B λF1 H1 v C o=>?_
 unfold Kp at b
 split at b
 .rename_i x
  split at b <;> cases b
  rename_i A
  refine⟨x,o.str_inv,A,q F1 H1 _ C λi F2 H2 G z=>⟨λm=>?_,λd k=>?_⟩⟩
  .show x.cps.size<=i
   rw[u5,i8]at m
   omega
  .rw[q4]at k
   obtain⟨c,j,rfl⟩:=u8.mp k
   have h:i<x.cps.size:=by have:=(t8.mp j).1;rwa[i8]at this
   refine⟨h,λy H3 n=>?_⟩
   obtain⟨rfl,w,g,rfl⟩:=n
   have:w=c:=by
    rw[Io]at j
    rw[j]at g
    exact(g0 g).symm
   subst this
   exact⟨F2,.refl z,.str⟩
 .cases b
end
end Dl
namespace Mz
open PySem Dl
abbrev aY:=Int × Int
abbrev zy:=List aY
def cQ (s t:aY):Prop:=s.1<t.1\/(s.1=t.1/\s.2<t.2)
instance (s t:aY):Decidable (cQ s t):=by unfold cQ;infer_instance
def zha (h:cQ a b)(k:cQ b c):cQ a c:=by
 unfold cQ at *
 omega
def zd (t:aY):D:=.tup [.int t.1,.int t.2]
def zhZ {t:aY}(h:zd s=zd t):s=t:=by
 unfold zd at h
 injection h with h
 injection h with h1 h2
 injection h2 with h2 _
 injection h1 with h1
 injection h2 with h2
 exact gD h1 h2
def aa (b:Int)(a:zy):D:=.tup [.int b,.tup (a.map zd)]
structure yd (many:Int) (ties:zy):Prop where
 lo:1<=many
 hi:many<=8
 rng:∀ t∈ties,0<=t.1/\t.1<t.2/\t.2<many
 srt:ties.Pairwise cQ
def nQ (s t:aY):Bool:=if s.1=t.1 then (if s.2=t.2 then true else decide (s.2<=t.2))else decide (s.1<=t.1)
def Vx {t:aY}:nQ s t=false↔cQ t s:=by
 unfold nQ cQ
 by_cases h:s.1=t.1
 .rw[t5 h]
  by_cases k:s.2=t.2
  .rw[t5 k];simp;omega
  .rw[j5 k,h8];omega
 .rw[j5 h,h8];omega
def Zo:D->Option aY
 |.tup [.int a,.int b]=>some (a,b)
 |_=>none
def YQ (t:aY):Zo (zd t)≈t:=rfl
def W1 {t:aY}(h:Zo d≈t):d=zd t:=by
 unfold Zo at h
 split at h
 .cases h;rfl
 .cases h
def bY (m a:Int):Bool:=decide (0<=a)&&decide (a<=m-1)
def wG (m:Int)(d:D):Bool:=match Zo d with
 |some t=>bY m t.1&&bY m t.2&&!decide (t.1=t.2)
 |none=>false
def qe (p:Option aY)(t:aY):Bool:=match p with
 |some q=>!nQ t q
 |none=>true
def yS (m:Int):Option aY->zl->Bool
 |_,[]=>true
 |p,d::r=>match Zo d with
  |some t=>wG m d&&!decide (t.2<t.1)&&qe p t&&yS m (some t) r
  |none=>false
def Zf (m:Int):D->Bool
 |.tup a=>yS m none a
 |_=>false
def xM:D->Bool
 |.tup [.int m,t]=>decide (1<=m)&&decide (m<=8)&&Zf m t
 |_=>false
def Wm (m:Int):∀ (j:zl) (p:Option aY),yS m p j=true↔∃ l:zy,j=l.map zd/\(∀ t∈l,0<=t.1/\t.1<t.2/\t.2<m)/\(∀ q,p≈q->∀ t∈l,cQ q t)/\l.Pairwise cQ:=by
 intro j
 induction j with
 |nil =>
  intro p
  refine⟨λ_=>⟨[],rfl,by simp,by simp,.nil⟩,λ_=>rfl⟩
 |cons d r y =>
  intro p
  unfold yS
  cases e:Zo d with
  |none =>
   refine Iff.intro (λh=>nomatch h) (λz=>?_)
   obtain⟨l,h,_⟩:=z
   cases l with
   |nil=>cases h
   |cons t o =>
    rw[n0]at h
    injection h with i _
    rw[i,YQ]at e
    cases e
  |some t =>
   have x:=W1 e
   subst x
   simp only[wG,YQ,k9,Jf,h8,bY,k7]
   rw[y (some t)]
   constructor
   .rintro⟨⟨⟨⟨⟨i,s⟩,B⟩,A⟩,w⟩,l,rfl,f,g,c⟩
    refine⟨t::l,rfl,?_,?_,kO.mpr ⟨g t rfl,c⟩⟩
    .intro u a
     rcases t9.mp a with rfl|a
     .omega
     .exact f u a
    .rintro q rfl u a
     have b:cQ q t:=Vx.mp (by simpa [qe]using w)
     rcases t9.mp a with rfl|a
     .exact b
     .exact zha b (g t rfl u a)
   .rintro⟨l,h,f,g,c⟩
    cases l with
    |nil=>cases h
    |cons u o =>
     rw[n0]at h
     injection h with i s
     have a:=zhZ i
     subst a
     have C:=f t (by simp)
     refine⟨⟨⟨⟨⟨by omega,by omega⟩,by omega⟩,by omega⟩,?_⟩,o,s,λv n=>f v (by simp[n]),λq k v n=>?_,(kO.mp c).2⟩
     .cases p with
      |none=>rfl
      |some q =>
       have:=Vx.mpr (g q rfl t (by simp))
       simp[qe,this]
     .cases k
      exact(kO.mp c).1 v n
def yu (d:D):xM d=true↔∃ m a,d=aa m a/\yd m a:=by
 constructor
 .intro h
  unfold xM at h
  split at h
  .rename_i m t
   simp only[k9,k7]at h
   obtain⟨⟨f,c⟩,b⟩:=h
   unfold Zf at b
   split at b
   .rename_i g
    obtain⟨l,rfl,e,_,i⟩:=(Wm m g none).mp b
    exact⟨m,l,rfl,f,c,e,i⟩
   .cases b
  .cases h
 .rintro⟨m,a,rfl,w⟩
  unfold aa xM Zf
  simp only[k9,k7]
  exact⟨⟨w.lo,w.hi⟩,(Wm m _ none).mpr ⟨a,rfl,w.rng,by simp,w.srt⟩⟩
def zo0 (h:∀ m a,d=aa m a->¬ yd m a):xM d=false:=by
 cases e:xM d with
 |false=>rfl
 |true =>
  obtain⟨m,a,rfl,w⟩:=(yu d).mp e
  exact absurd w (h m a rfl)
def wo (n:Nat):zy:=(Q0g n).flatMap λa=>(Q0g (n-(a+1))).map λ(j:Nat)=>((a:Int),(a:Int)+1+(j:Int))
def WY:∀ n:Nat,n<=8->(wo n).Pairwise cQ/\(∀ t∈wo n,0<=t.1/\t.1<t.2/\t.2<(n:Int))/\(wo n).length<=28:=by
 have h:∀ n:_root_.Fin 9,(wo n.val).Pairwise cQ/\(∀ t∈wo n.val,0<=t.1/\t.1<t.2/\t.2<(n.val:Int))/\(wo n.val).length<=28:=by decide +kernel
 exact λn a=>h ⟨n,by omega⟩
end Mz
namespace Mz
open Dl
def jN (i j:Nat):zy:=(Q0g j).map λ(k:Nat)=>((i:Int),(i:Int)+1+(k:Int))
def wd (n i:Nat):zy:=(Q0g i).flatMap λa=>jN a (n-(a+1))
def ziW (n:Nat):wo n=wd n n:=rfl
def X5 (n i:Nat):wd n (i+1)=wd n i++jN i (n-(i+1)):=by
 unfold wd
 rw[Ih,List.flatMap_append]
 simp
def Wl (i j:Nat):(jN i j).length=j:=by unfold jN;simp
def zfI (n:Nat)(b:n<=8):∀ i:Nat,(wd n i).length<=8*i:=by
 intro i
 induction i with
 |zero=>simp[wd]
 |succ i a =>
  rw[X5,j9,Wl]
  omega
def cC (c k:Int):Int :=
 let a:=(c%2147483647+977*k+1)*48271%2147483647
 let b:=a*a%2147483629
 (b+40692*(k+3))*69621%2147483647/8
def zdz (c k:Int):0<=cC c k:=by
 unfold cC
 exact Int.ediv_nonneg (mX _ ⋯) ⋯
def bZ (c:zy)(a b:Int):Prop:=(a,b)∈c\/(b,a)∈c
def bZ.symm (h:bZ ts a b):bZ ts b a:=h.elim .inr .inl
inductive wf (ts:zy) (p:Int):Nat->Int->Prop
 |zero:wf ts p 0 p
 |step {k:Nat} {a b:Int}:wf ts p k a->bZ ts a b->wf ts p (k+1) b
def bZ.rng (ok:yd m c)(h:bZ c a b):(0<=a/\a<m)/\0<=b/\b<m:=by
 rcases h with h|h <;> (have:=ok.rng _ h;simp only at this;omega)
def wf.rng {p:Int}{k:Nat}(ok:yd m a)(b:0<=p/\p<m)(h:wf a p k v):0<=v/\v<m:=by
 cases h with
 |zero=>exact b
 |step _ h=>exact(h.rng ok).2
def wf.inv {k:Nat}(h:wf b p (k+1) v):∃ a,wf b p k a/\bZ b a v:=by
 cases h with
 |step d c=>exact⟨_,d,c⟩
def zn3 {P:Nat->Prop}:∀ k,P k->∃ j,P j/\∀ i,P i->j<=i:=by
 intro k
 induction k using Nat.strongRecOn with
 |_ k d =>
  intro h
  by_cases c:∃ i,i<k/\P i
  .obtain⟨i,a,b⟩:=c
   exact d i a b
  .exact⟨k,h,λi a=>jx λz=>c ⟨i,z,a⟩⟩
def Within (a:zy)(p:Int)(k:Nat)(v:Int):Prop:=∃ j,j<=k/\wf a p j v
def Within.succ {k:Nat}:Within c p (k+1) v↔v=p\/∃ a,Within c p k a/\bZ c a v:=by
 constructor
 .rintro⟨j,d,h⟩
  cases h with
  |zero=>exact .inl rfl
  |step e b=>exact .inr ⟨_,⟨_,by omega,e⟩,b⟩
 .rintro(rfl|⟨a,⟨j,d,h⟩,b⟩)
  .exact⟨0,by omega,.zero⟩
  .exact⟨j+1,by omega,.step h b⟩
def Within.up {k b:Nat}(h:Within a p k v)(c:k<=b):Within a p b v:=let ⟨j,hj,r⟩:=h;⟨j,by omega,r⟩
def Vm {α:Type}{p q:α->Bool}:∀ {l:List α},(∀ x∈l,p x=true->q x=true)->l.countP q<=l.countP p->∀ x∈l,q x=true->p x=true
 |[],_,_,_,h,_=>by simp at h
 |y::l,hpq,hc,x,a,hq=>by
  have g:l.countP p<=l.countP q:=List.countP_mono_left λz b=>hpq z (r6 _ b)
  rw[By,By]at hc
  have f:=hpq y o5
  have d:=Vm (p:=p) (q:=q) (l:=l) λz b=>hpq z (r6 _ b)
  cases e:p y <;> cases c:q y <;> simp[e,c]at hc f
  .rcases t9.mp a with rfl|a
   .rw[c]at hq;cases hq
   .exact d ∅ x a hq
  .omega
  .rcases t9.mp a with rfl|a
   .exact e
   .exact d ∅ x a hq
open Classical in
noncomputable def HQ (a:zy)(p:Int)(k v:Nat):Bool:=decide (Within a p k (v:Int))
def Vc {k:Nat}:HQ a p k v=true↔Within a p k (v:Int):=by classical exact decide_eq_true_iff
noncomputable def cnt (a:zy)(p:Int)(n k:Nat):Nat:=(Q0g n).countP (HQ a p k)
def uO (a:zy)(p:Int)(k:Nat):Prop:=∀ v,Within a p (k+1) v->Within a p k v
def uO.all {k:Nat}(h:uO b p k):∀ j v,Within b p j v->Within b p k v:=by
 intro j
 induction j with
 |zero =>
  rintro v ⟨i,g,r⟩
  obtain rfl:i=0:=by omega
  exact⟨0,by omega,r⟩
 |succ j e =>
  intro v f
  rcases Within.succ.mp f with rfl|⟨a,d,c⟩
  .exact⟨0,by omega,.zero⟩
  .exact h v (Within.succ.mpr (.inr ⟨a,e a d,c⟩))
def zk8 {m:Int}{p:Int}(ok:yd m a)(e:0<=p/\p<m):∃ k,k<m.toNat/\uO a p k:=by
 have key:∀ k,(∃ b,b<k/\uO a p b)\/k+1<=cnt a p m.toNat k:=by
  intro k
  induction k with
  |zero =>
   refine .inr ?_
   unfold cnt
   rw[List.one_le_countP_iff]
   exact⟨p.toNat,p4.mpr ∅,Vc.mpr ⟨0,t6 _,by rw[rD e.1];exact .zero⟩⟩
  |succ k f =>
   rcases f with ⟨b,o,i⟩|f
   .exact .inl ⟨b,by omega,i⟩
   .by_cases c:cnt a p m.toNat (k+1)<=cnt a p m.toNat k
    .refine .inl ⟨k,by omega,λv n=>?_⟩
     obtain⟨j,g,r⟩:=n
     have d:=r.rng ok e
     have:=Vm (λx _ h=>Vc.mpr ((Vc.mp h).up (eX k))) c v.toNat (p4.mpr ∅) (Vc.mpr (by rw[rD d.1];exact⟨j,g,r⟩))
     have:=Vc.mp this
     rwa[rD d.1]at this
    .exact .inr ∅
 rcases key m.toNat with h|h
 .exact h
 .unfold cnt at h
  have:=Im (p:=HQ a p m.toNat) (l:=Q0g m.toNat)
  rw[kE]at this
  omega
def bI (a:zy)(p v:Int)(k:Nat):Prop:=wf a p k v/\∀ i,wf a p i v->k<=i
def bI.uniq {k:Nat}(h:bI a p v k)(b:bI a p v j):k=j:=qU (h.2 _ b.1) (b.2 _ h.1)
def bI.lt {m:Int}{p:Int}{k:Nat}(ok:yd m a)(c:0<=p/\p<m)(h:bI a p v k):k<m.toNat:=by
 obtain⟨b,f,d⟩:=zk8 ok c
 obtain⟨j,e,r⟩:=d.all k v ⟨k,t6 _,h.1⟩
 have:=h.2 j r
 omega
def Lr {k:Nat}(h:wf a p k v):∃ j,bI a p v j:=zn3 k h
open Classical in
noncomputable def VW (a:zy)(p v:Int):yl:=if h:∃ k,bI a p v k then some (h.choose:Int)else none
def zhu {k:Nat}(h:bI a p v k):VW a p v≈(k:Int):=by
 unfold VW
 have b:∃ k,bI a p v k:=⟨k,h⟩
 rw[dif_pos b,b.choose_spec.uniq h]
def zhe (h:∀ k,¬ wf a p k v):VW a p v=none:=by
 unfold VW
 rw[dif_neg]
 rintro⟨k,b⟩
 exact h k b.1
def XQ (a:zy)(p v:Int):(∃ k:Nat,VW a p v≈(k:Int)/\bI a p v k)\/(VW a p v=none/\∀ k,¬ wf a p k v):=by
 by_cases h:∃ k,wf a p k v
 .obtain⟨k,b⟩:=h
  obtain⟨j,c⟩:=Lr b
  exact .inl ⟨j,zhu c,c⟩
 .have:∀ k,¬ wf a p k v:=λk b=>h ⟨k,b⟩
  exact .inr ⟨zhe this,this⟩
noncomputable def dz (m:Int)(a:zy)(p:Int):vJ:=(Q0g m.toNat).map λv:Nat=>VW a p v
def wE:yl->D
 |none=>.non
 |some k=>.int k
def bj (a:vJ)(i:Int):yl:=(a[i.toNat]?).getD none
def Mp {n:Nat}{i:Int}(h0:0<=i)(a:i<n):L2.ixN n i≈i.toNat:=by
 unfold L2.ixN
 rw[t5 h0,t5 a]
def Lw {α:Type}{a:List α}{i:Int}{x:α}(h0:0<=i)(h:a[i.toNat]?≈x):L2.atI a i≈x:=by
 have:=(t8.mp h).1
 unfold L2.atI
 rw[Mp h0 ∅]
 exact h
def zrB {i:Nat}{b:zW}{ρ:SE}{a:zl}{k:Int}(f:bF m c ρ≈d)(e:b (visG ρ)≈(.int k))(n:ρ[i]?≈(.o a))(g:0<=k)(h:k<↥a) :
 gY m i b c ρ=.nx (ρ.set i (.o (a.set k.toNat d))):=by
 unfold gY
 rw[f,e,n]
 show(match ((L2.ixN ↥a k).map λj=>ρ.set i (Sl.o (a.set j d)))with|some l=>aP.nx l|none=>aP.no)=_
 rw[Mp g h]
 rfl
def zou {a:vJ}{i:Int}(h0:0<=i)(b:i<↥a):L2.atI (a.map wE) i≈(wE (bj a i)):=by
 refine Lw h0 ?_
 unfold bj
 rw[q4,j7 ∅]
 rfl
def Ha {a:vJ}{i j:Int}(d:0<=i)(b:i<↥a)(e:0<=j):bj (a.set i.toNat x) j=if j=i then x else bj a j:=by
 unfold bj
 rw[fY]
 by_cases c:j=i
 .subst c
  rw[t5 rfl,t5 rfl,t5 ∅]
  rfl
 .rw[j5 ∅,j5 c]
def zoU {a b:vJ}(d:↥a=↥b)(h:∀ i:Int,0<=i->i<↥a->bj a i=bj b i):a=b:=by
 refine CN λi=>?_
 by_cases c:i<↥a
 .have:=h (i:Int) ∅ ∅
  unfold bj at this
  rw[jy,j7 c,j7 ∅]at this
  rw[j7 c,j7 ∅]
  exact bJ some this
 .rw[kh ∅,kh ∅]
def Zz (m:Int)(a:zy)(p:Int):(dz m a p).length=m.toNat:=by unfold dz;simp
def Hm {m:Int}{v:Int}(h0:0<=v)(b:v<m):bj (dz m a p) v=VW a p v:=by
 unfold bj dz
 rw[q4,Cv ∅]
 show VW a p ((v.toNat:Nat):Int)=_
 rw[rD h0]
def Pu:∀ {ns:zr} {k:Nat} {x:Int} (h:k<↥ns),(ns.set k x).sum=ns.sum-ns[k]+x
 |[],_,_,h=>by simp at h
 |n::ns,0,x,_=>by simp;omega
 |n::ns,k+1,x,h=>by
  have:=Pu (ns:=ns) (k:=k) (x:=x) (by simpa using h)
  simp only[List.set_cons_succ,nj,List.getElem_cons_succ,this]
  omega
def RD (a:zy):(V0 a).Perm a:=Jb _ _
def zcC {d:zy}(h:d.Nodup):(V0 d).Pairwise cQ:=by
 have g:(V0 d).Pairwise λa b=>lL a b=true:=Jk (λa b c g f=>by rw[vF]at *;omega) (λa b=>by rw[HS,vF,vF];omega) _
 have f:(V0 d).Nodup:=(RD d).nodup_iff.mpr h
 refine(g.and f).imp λ{a b} hh=>?_
 obtain⟨x,y⟩:=hh
 rw[vF]at x
 unfold cQ
 rcases x with x|x
 .exact .inl x
 .refine .inr ⟨x.1,?_⟩
  have:a.2≠b.2:=λe=>y (gD x.1 e)
  omega
def zog {n:Int}(h0:0<=n)(a:n<=1000):jf (.lst [d]) (.int n)≈(Q0a n.toNat d):=by
 show(if -(2^63)<=n/\n<2^63/\aU (1*n.toNat) then _ else none)=_
 rw[t5 ⟨by omega,by omega,yV ∅⟩,List.flatten_replicate_singleton]
def uL {i:Nat}{e:zW}{ρ:SE}{n f:vl}(a:zl)(d:D)(k:Int)(o:bF m c ρ≈d)(l:e (visG ρ)≈(.int k))(j:ρ[i]?≈(.o a))(g:0<=k)(h:k<↥a)(q:n (ρ.set i (.o (a.set k.toNat d)))) :
 (gY m i e c ρ).w n b f r:=vE (zrB o l j g h) q
def znC {i:Int}(b:-(2^64)<i)(a:i<2^64):V1 (.int i) (.int j)≈(.int (i*j)):=by
 show(if XG i j then _ else none)=_
 rw[t5 (show XG i j=true from j3 (.inl ⟨b,a⟩))]
def zkG {α:Type}(a:List α)(b c:yl):(cu a b c).length<=↥a:=by
 unfold cu
 rw[fW,qH]
 omega
def vz {a b:zl}(h:↥a+↥b<=1000):yh (.lst a) (.lst b)≈(.lst (a++b)):=by
 show(if aU (↥a+↥b) then _ else none)=_
 rw[t5 (yV h)]
def pZ:∀ {ns:zr},(∀ x∈ns,0<=x)->0<=ns.sum
 |[],_=>by simp
 |n::ns,h=>by
  have:=pZ (ns:=ns) λx a=>h x (r6 _ a)
  have:=h n o5
  rw[nj]
  omega
def Y7:∀ {ns:zr} {y:Int},(∀ x∈ns,0<=x)->y∈ns->y<=ns.sum
 |[],_,_,h=>by simp at h
 |n::ns,y,h,a=>by
  have b:∀ x∈ns,0<=x:=λx c=>h x (r6 _ c)
  have:=pZ b
  have:=h n o5
  rw[nj]
  rcases t9.mp a with rfl|a
  .omega
  .have:=Y7 b a
   omega
def xG {f:zW}{ρ:SE}(h:bF m f ρ≈d)(a:ρ.set i (.v d)=ρ':=by rfl):xn m i f ρ=.nx ρ':=by
 unfold xn
 rw[h,<- a]
def yp {f:zW}(h:f (visG ρ)≈d):Zv f ρ=.nx ρ:=by
 unfold Zv
 rw[h]
def ye {f:zW}(h:f (visG ρ)≈d):yf f ρ=.rt d:=by
 unfold yf
 rw[h]
def Gw {f:yL}{ρ:SE}(h:f (visF ρ)≈ds)(a:ρ.set i (.o ds)=ρ':=by rfl):cX i f ρ=.nx ρ':=by
 unfold cX
 rw[h,<- a]
def zp9 {o:Option zl}(h:o≈a):o.map D.lst≈(.lst a):=by rw[h];rfl
def W7:bW (.int a) (.int b)≈(.bl (!decide (a=b))):=rfl
def Ht {a m x:Int}(h:0<m)(b:a%m=x):0<=x/\x<m:=by
 subst b
 exact⟨mX _ ∅,Cm _ h⟩
def zoX {i:Nat}{x m:Int}(a:i<m.toNat)(b:(0:Int)+(i:Int)=x):0<=x/\x<m:=by omega
def Qu {α:Type}{a:List α}{x m:Int}(h0:0<=x)(h:x<m)(b:↥a=m.toNat):x<(↥a:Int):=by omega
def zh6 {α:Type}{f:α->D}{a:List α}{x m:Int}(h0:0<=x)(h:x<m)(b:↥a=m.toNat):x<((a.map f).length:Int):=by rw[u5];omega
def An {fs:vJ}{i m:Int}(h0:0<=i)(h:i<m)(a:↥fs=m.toNat):L2.atI (fs.map wE) i≈(wE (bj fs i)):=zou h0 (Qu h0 h a)
def Um {m:Int}(a:1<=m)(b:m<=8):jf (.lst [d]) (.int m)≈(Q0a m.toNat d):=zog ∅ ∅
def UW {m:Int}{n:Nat}(h:m=((n+1:Nat):Int))(a:n<=7):cT [.int 1,.int m]≈(ZS 1 n):=by
 show(if zi9 1=true/\zi9 m then some (ZS 1 (m-1).toNat)else none)=_
 rw[t5 ⟨yq.mpr ⟨by omega,by omega⟩,yq.mpr ⟨by omega,by omega⟩⟩,show(m-1).toNat=n by omega]
def WF:wB (.int a) (.int b)≈(.bl (decide (a=b))):=rfl
def Yd:wB (.str a) (.str b)≈(.bl (decide (a=b))):=rfl
def HH:yh (.int a) (.int b)≈(.int (a+b)):=rfl
def QC {a b:zl}(h:↥a+↥b<=1000):yh (.tup a) (.tup b)≈(.tup (a++b)):=by
 show(if aU (↥a+↥b) then some (D.tup (a++b))else none)=_
 rw[t5 (yV h)]
def zhT {α:Type}(a:List α)(k:Nat):cu a none (some (k:Int))=a.take k:=by
 unfold cu
 rw[HT.sIx_none,List.drop_zero,Bt,HT.sIx_nat]
 by_cases h:k<=↥a
 .rw[km h]
 .rw[HX ∅,Jq (t6 _),Jq ∅]
def zh9 {α:Type}(a:List α)(k:Nat):cu a (some (k:Int)) none=a.drop k:=by
 unfold cu
 rw[HT.sIx_none,HT.sIx_nat]
 by_cases h:k<=↥a
 .rw[km h,Jq (by rw[qH];omega)]
 .rw[HX ∅,Bu,Ie,List.drop_of_length_le ∅]
section
variable {ρ:Ev}{f g h:zW}{a:yL}{t u:vL}{d e x y z:D}{ds es:zl}{b c:Bool}
def zR:zh ρ≈[]:=rfl
def zt (c:f ρ≈d)(b:a ρ≈ds):za f a ρ≈(d::ds):=by unfold za;rw[c,b];rfl
def zx {n:Nat}{p:x9}(e:a ρ≈ds)(b:p ds≈d)(c:↥ds=n:=by rfl):zi n p a ρ≈d:=by
 unfold zi
 rw[e,q7,t5 c,b]
def ziP {n:Nat}{p:x9}{σ b:SE}(e:a (visF σ)≈ds)(c:p ds≈d)(f:↥ds=n:=by rfl)(g:σ.set i (.v d)=b:=by rfl):xn false i (zi n p a) σ=.nx b:=xG (show zi n p a (visF σ)≈d from zx e c f) g
def vK {f:zW}{σ:SE}(h:f (visF σ)≈d)(a:σ.set i (.v d)=σ':=by rfl):xn false i f σ=.nx σ':=xG (show f (visF σ)≈d from h) a
def zH {k:xD}(c:f ρ≈x)(a:g ρ≈y)(b:k x y≈z):zg k f g ρ≈z:=by unfold zg;rw[c,a];exact b
def iB {k:D->Option D}(b:f ρ≈x)(a:k x≈z):aZ k f ρ≈z:=by unfold aZ;rw[b];exact a
def vc (b:a ρ≈ds):xm a ρ≈(.lst ds):=by unfold xm;rw[b];rfl
def YM {k:x9}(c:a ρ≈ds)(b:k ds≈d):aF k a ρ≈d:=by unfold aF;rw[c];exact b
def Ng {k:fj}(c:a ρ≈ds)(b:k ds≈es):gK k a ρ≈es:=by unfold gK;rw[c];exact b
def VF (c:a ρ≈ds)(b:↥ds<=1000):yX a ρ≈ds:=by unfold yX;rw[c,q7,t5 (yV b)]
def mF (c:a ρ≈ds)(b:↥ds<=1000):X8 a ρ≈(.tup ds):=by unfold X8;rw[c,q7,t5 (yV b)]
def Fy (b:f ρ≈d)(a:wW d≈ds):bc f ρ≈ds:=by unfold bc;rw[b];exact a
def wU (a:f ρ≈(.bl b)):aq f ρ≈b:=by unfold aq;rw[a];rfl
def pU (a:t ρ≈b):xF t ρ≈(!b):=by unfold xF;rw[a];rfl
end
end Mz
namespace PySem
open Sem (wp)
def Runs.toks {t:Sem Fin}{s c:zm}(h:Runs M Γ p t d s e c):s.toks<=c.toks:=by
 induction h with
 |done=>exact t6 _
 |raise=>exact t6 _
 |yield=>exact t6 _
 |fresh _ f=>exact k8 (eX _) f
 |call _ _ b a=>exact k8 b a
 |resumeFresh _ _ _ _ b a=>exact k8 b a
 |resumeSuspended _ _ _ _ b a=>exact k8 b a
 |segRet _ _ b a=>exact k8 b a
 |segGen _ _ b a=>exact k8 b a
 |segSuspGen _ _ _ _ b a=>exact k8 b a
 |_=>assumption
def Wakes.toks {g:Nat}{s b:zm}(h:Wakes M Γ p g r s res b):s.toks<=b.toks:=by
 unfold Wakes at h
 split at h
 .exact h.elim
 .split at h
  .obtain⟨e,c,a,_,_,rfl⟩:=h
   exact a.toks
  .rw[h.2];exact t6 _
  .rw[h.2];exact t6 _
 .obtain⟨e,c,a,_,_,rfl⟩:=h
  exact a.toks
 .rw[h.2];exact t6 _
 .rw[h.2];exact t6 _
def zni {α:Type}{n:Nat}{Q:α->Pos->Q0u->Prop}{E:Q0e->Pos->Q0u->Prop}:∀ (t:Sem α) (p:Pos) (s:zm),n<=s.toks->wp M Γ t Q E p s->wp M Γ t (λa j i=>n<=i.toks/\Q a j i) (λe j i=>n<=i.toks/\E e j i) p s:=by
 intro t
 induction t with
 |pure a=>exact λp s b h=>⟨b,h⟩
 |raise e=>exact λp s b h=>⟨b,h⟩
 |rule _ k d=>exact λp s b h=>d () p s b h
 | «at» j k d=>exact λp s b h=>d () j s b h
 |load a _ k d=>exact λp s b ⟨o,u,h⟩=>⟨o,u,d o p s b h⟩
 |update a _ f k d=>exact λp s b ⟨u,h⟩=>⟨u,d () p _ b h⟩
 |loadIfAlive a k d=>exact λp s b h=>d _ p s b h
 |point _ k d=>exact λp s b h=>d () p s b h
 |alloc o k d=>exact λp s b h=>d _ p _ b h
 |fresh k d=>exact λp s b h=>d _ p _ (Ib b) h
 |ask k d=>exact λp s b h=>d _ p s b h
 |choose w m k d=>exact λp s b ⟨h0,h⟩=>⟨h0,d _ p _ b h⟩
 |os q _ k d=>exact λp s b h=>d _ p _ b h
 |call c x _ _ k d=>exact λp s b ⟨r,i,l,h⟩=>⟨r,i,l,d r p i (k8 b (Runs.toks l)) h⟩
 |handled own k d=>exact λp s b h=>d _ p s b h
 |genState g k d=>exact λp s b ⟨v,h0,h⟩=>⟨v,h0,d _ p s b h⟩
 |newGen c k d=>exact λp s b h=>d _ p _ b h
 |resume g r _ k d=>exact λp s b ⟨res,i,l,h⟩=>⟨res,i,l,d _ p i (k8 b (Wakes.toks l)) h⟩
 |_=>first|exact λp s b h=>h.elim|exact λp s b h=>by simp only[wp]at h ⊢;simp_all
def zlV {α:Type}{t:Sem α}{Q:α->Q0u->Prop}{E:yM}{s:zm}(h:Q0d M A t (λv a=>s.toks<=a.toks->Q v a) (λe a=>s.toks<=a.toks->E e a) s):Q0d M A t Q E s:=fun Γ p b =>
 Sem.wp_mono M Γ t (λ_ _ _ z=>z.2 z.1) (λ_ _ _ z=>z.2 z.1) p s (zni t p s (t6 _) (h Γ p b))
def HJ {α:Type}{t:Sem α}{Q:α->Q0u->Prop}{E:yM}{s:zm}(c:0<s.toks)(h:Q0d M A t (λv a=>0<a.toks->Q v a) (λe a=>0<a.toks->E e a) s):Q0d M A t Q E s :=
 zlV (cG h (λ_ _ z b=>z (q5 c b)) λ_ _ z b=>z (q5 c b))
end PySem
namespace PySem
section
variable {M:Model}{A:zP}{E:yM}{r s:zm}{m cm:wA}{env:Env}
def zq0 {Q:Unit->Q0u->Prop}(x:InCallC r env.locals m env.cells cm s)(i:env.scope.kind=.function)(h:env.kindOf n≈.local)(q:∀ t,InCallC r env.locals (λy=>if y=n then some v else m y) env.cells cm t->0<t.toks->Q () t):Q0d M A (storeName env n v) Q E s:=by
 have p:(env.scope.kind == .class||(env.scope.kind == .module&&env.locals != env.globals))=false:=by rw[i];rfl
 refine wpAny_storeName_local h x.toInCall.ns (λg l d=>?_) p
 refine q _ ?_ (Nat.succ_pos _)
 have f:∀ b o,r.heap.get? b≈o->b≠env.locals:=λb o e=>r4 (q5 (j4 e) x.toInCall.fresh)
 have j:∀ k c,env.cells.lookup k≈c->c≠env.locals:=λk c a=>iR (x.above k c (mem_of_lookup a))
 obtain⟨w,u,rfl⟩:=x.toInCall.same
 exact { toInCall:={ same:=⟨g,_,rfl⟩,ns:=l,keep:=λb o e=>d.extBut b o (f b o e) (x.toInCall.keep b o e),fresh:=x.toInCall.fresh },cell:=λk c a=>(x.cell k c a).sameBut d (j k c a),apart:=x.apart,above:=x.above }
end
section
variable {M:Model}{A:zP}{E:yM}{s:zm}
def zjn {sc:Scope}{g:Addr}{k:Str}{f:y1}{Q:Env->Q0u->Prop}(r:sc.kind=.function)(p:sc.names.lookup x≈.local)(B:∀ y∈i,sc.names.lookup y.1≈.local\/(sc.names.lookup y.1≈.cell/\((Q0P (⇑s+1) sc.names []).lookup y.1).isSome=true))(q:∀ e,e=newEnv sc ⇑s g (Q0P (⇑s+1) sc.names []) k f d none j->∀ t,InCallC s e.locals (bindL e.kindOf ((x,v)::i) λ_=>none) e.cells (bindC e.kindOf ((x,v)::i) λ_=>none) t->0<t.toks->Q e t) :
 Q0d M A (Q1A sc g [] ((x,v)::i) k f d none j) Q E s:=by
 simp only[Q1A,Option.isSome_none,qP,gC]
 refine u3 (wpAny_alloc (u3 (wpAny_layCells _ (λa b c=>by cases z:b == NameKind.cell <;> simp[z]) _ _ _ _ ?_)))
 have l:=cellsFrom_ok sc.names (s.heap.push { cls:=.type "frame",data:=.dict #[] }) (⇑s+1) [] ⟨λ_ _ z=>(nomatch z),.nil⟩ (Nat.le_of_eq (s0 ..).symm)
 rw[s0]at l
 rw[show({ s with heap:=s.heap.push { cls:=.type "frame",data:=.dict #[] } }:zm).heap.objs.size=⇑s+1 from s0 ..]
 rw[mV]
 have w:InCallC s ⇑s (λ_=>none) (Q0P (⇑s+1) sc.names []) (λ_=>none) { s with heap:=pushCells (s.heap.push { cls:=.type "frame",data:=.dict #[] }) sc.names } :=
  { toInCall:={ same:=⟨_,_,rfl⟩,ns:=(Heap.Ns.new s.heap (.type "frame")).keeps (pushCells_keeps _ _),keep:=λb o e=>pushCells_keeps _ _ b o (u6 _ e),fresh:=t6 _ },cell:=λn c z=>(l.empty n c (mem_of_lookup z)).1,apart:=l.apart,above:=λn c z=>(l.empty n c z).2 }
 refine u3 (u3 (u3 (zq0 (env:=newEnv sc ⇑s g (Q0P (⇑s+1) sc.names []) k f d none j) w r p λt D u=>t4 ?_)))
 refine HJ u ?_
 refine wpAny_bindParams (s₀:=s) (env:=newEnv sc ⇑s g (Q0P (⇑s+1) sc.names []) k f d none j) _ (λ_ _ _=>rfl) r i _ _ _ _ D B λC F m=>t4 (q _ rfl C ?_ m)
 unfold bindL bindC
 have h:=(show(newEnv sc ⇑s g (Q0P (⇑s+1) sc.names []) k f d none j).kindOf x≈.local from p)
 rw[t5 h,t5 h]
 exact F
end
end PySem
namespace L2
open PySem PySem.Spec PyProof.Rows
structure gW (P:zO) (w:Q0k) (K:zA) (mg:wA) (base:Heap) (CX:dq) (k:Nat) (f:Addr) (fd:vv) (ps:zF) (sp:Sp):Prop where
 len:∀ vs H Q E,sp vs H Q E->↥vs=↥ps
 run:∀ (A:zP) (outer:List Env) (s:zm) (H:Hp) (args:Args) (us:zC) (vs:zD) (Q:VK) (E:XK),xH k A->ie P w K mg base A outer s H->Q1T s fd args (ps.zip us)->yy vs us->sp vs H Q E ->
  Q05 (Q0i P w) A (.call (.ref f) args) (λr s'=>CR CX outer P w H s Q E r s'/\0<s'.toks) s
def zom {w:Q0k}{K:zA}{g:Heap}{k:Nat}{f:Addr}{a:Scope}{kV:Q0e}{N:zF}{D:Str}{sp:Sp}(lk:K.lookup f≈⟨oc,od,.func (Q1Z l c h i a dV kV F pm an d ct),a1⟩)(U:PySem.W.codeIn K d c=true)(S:yZ N (D::L) a)(h0:a.names.lookup D≈.local)(C:∀ j H Q E,sp j H Q E->↥j=(D::L).length) (m:∀ (A:zP) (outer:List Env) (s:zm) (H:Hp) (j:zD) (Q:VK) (E:XK),xH k (A.deeper (Q19 c a ⇑s f d))->sp j H Q E ->
 ∃ t,bH (ZR CX P w K T g N c a f d A outer s H E) i t/\t { nx:=λ_ H'=>Q .non H',rt:=Q } (start N j) H) :
 gW P w K T g CX (k+1) f (Q1Z l c h i a dV kV F pm an d ct) (D::L) sp:=by
 refine⟨C,λA outer s H args Y j Q E hr M hb r G=>?_⟩
 have hl:=C _ _ _ _ G
 have KX:K.In s.heap:=M.mod.kin.keeps λb o e=>(M.bs b o e).1
 have aU:s.heap.NoLimit:=M.mod.nolimit.keeps λb o e=>(M.bs b o e).1
 have p:∀ y∈(D::L).zip Y,a.names.lookup y.1≈.local\/(a.names.lookup y.1≈.cell/\((Q0P (⇑s+1) a.names []).lookup y.1).isSome=true):=λ⟨n,v⟩ Z=>by
  rcases S.par n (qW Z).1 with q|q
  .exact .inl q
  .exact .inr ⟨q,Ci _ _ _ (.inl q)⟩
 have hu:↥Y=↥L+1:=by rw[<-↥r];exact hl
 cases Y with
 |nil=>cases hu
 |cons u0 ur =>
  refine Il hr.depth (KX _ _ lk) rfl S.co S.gen rfl (Iv KX U) (hb _ _ _ _ ?_)
  refine zjn S.kind h0 (λy Z=>p y (.tail _ Z)) λenv he s1 x ht=>?_
  subst he
  refine⟨aU.keeps x.toInCall.keep,codeAny_func ?_⟩
  obtain⟨t,a0,hq⟩:=m A outer s H j Q E (hr.deeper _) G
  have I:aj (ZR CX P w K T g N c a f d A outer s H E) [] (start N j) H s1:=Vz S hr.hd M hl r x
  refine HJ ht (cG (a0 [] s1 (start N j) H _ I hq) (λfl X B O=>?_) λe X B O=>?_)
  .have fin:∀ {R:St} {H':Hp} {v:V} {u:Q0e},aj (ZR CX P w K T g N c a f d A outer s H E) [] R H' X->y6 v u->Q v H'->CE outer P w H s Q u X :=
    λ{R H' v u} J W q=>⟨v,H',J.os,J.bare,J.base,J.hok,W,q⟩
   cases fl with
   |ret u =>
    obtain⟨v,R,H',J,W,q⟩:=B
    exact⟨fin J W q,O⟩
   |next =>
    obtain⟨R,H',J,q⟩:=B
    exact⟨fin (v:=V.non) (u:=Q0z) J rfl q,O⟩
   |brk =>
    obtain⟨_,_,_,q⟩:=B
    exact Q0o q
   |cont =>
    obtain⟨_,_,_,q⟩:=B
    exact Q0o q
  .exact HJ O (cG B (λ_ _ z k=>⟨z,k⟩) λ_ _ z k=>⟨z,k⟩)
section
variable {X:Cx}{CX:dq}{k:Nat}{f:Addr}{fd:vv}{ps:zF}{sp:Sp}{E:XK}{x y z:Str}{p pos p1 p2 q1 q2:Pos}{j1 j2:Nat}{e:Expr}{es:y0}{t:TA}
def zlE {g:zD}(F:gW X.prog X.w X.K X.mg X.base CX k f fd ps sp)(m:xH k X.A)(n:vf X.K fd ps [])(l:vr CX X E)(I:aj X a σ H s)(r:yy g c)(h:sp g H Q E):Q0d (Q0i X.prog X.w) X.A (call (.ref f) c) (λu d=>EP X a σ Q u d/\0<d.toks) X.xe s:=by
 have j:↥c=↥ps:=by rw[<-↥r];exact F.len _ _ _ _ h
 have cV:=n s c I.kIn (by rw[p7];exact j)
 rw[p7]at cV
 refine mK (mQ (F.run X.A X.stack s H ⟨c,[]⟩ c g Q E m I.env0 cV r h) λr d b=>?_)
 obtain⟨b,i⟩:=b
 cases r with
 |error e=>exact l a σ H s e d I b
 |ok o =>
  cases o with
  |ret u=>exact⟨I.after b,i⟩
  |next=>exact Q0o b
  |brk=>exact Q0o b
  |cont=>exact Q0o b
def Ka (sp:Sp)(E:XK)(t:TA)(y z:Str):TE:=fun σ H Q=>t σ H λa H1=>sp a H1 (λv H2=>∃ x,v=.str x/\↥x<=1048576/\Q (.str (Txt.replace x y z)) H2) E
theorem znl (F:gW X.prog X.w X.K X.mg X.base CX k f fd ps sp)(D:xH k X.A)(L:Gl X x)(G:X.mg x≈(.ref f))(m:Q0H X.K (.ref f)=true)(u:vf X.K fd ps [])(C:vr CX X E)(w:PA X (e::es) t)
 (j:(y == z)=false) (N:↥z<=14) (l:(x == ("__debug__":Str))=false:=by decide) (A:Q0c (e::es) X.env=(false,eval e X.env)::Q0c es X.env:=by rfl) (i:(Q0v p1 (Q0c es X.env)).any (·.1)=false:=by rfl)
 (b:Q0F (.Call (.Name x p) (e::es) [] p1) "replace" X.env (eval (.Call (.Name x p) (e::es) [] p1) X.env)=eval (.Call (.Name x p) (e::es) [] p1) X.env:=by rfl)
 (d:((Q0v pos (Q0c [.Constant (.str y) j1 q1,.Constant (.str z) j2 q2] X.env)).all (λx=>!x.1)&&(Q1N pos (Q06 [] X.env)).all (λx=>x.1.isSome)
  && decide (([.Constant (.str y) j1 q1,.Constant (.str z) j2 q2]:y0).length+([]:List Q2f).length+(if ([]:List Q2f).isEmpty then 0 else 1) < 30))=true:=by rfl)
 (c:(p2.endLine == pos.line)=true:=by rfl) :
 PE X (.Call (.Attribute (.Call (.Name x p) (e::es) [] p1) "replace" p2) [.Constant (.str y) j1 q1,.Constant (.str z) j2 q2] [] pos) (Ka sp E t y z):=by
 intro g s σ H Q I h
 refine Jo b d c rfl ?_
 refine kJ (YH I L G ?_ l)
 refine Cj (h₀:=X.base) I.ok.mod.kin m (aG (w p1 g s σ H _ I h) λP T ⟨O,H1,I1,r,q⟩=>⟨I1.kIn,?_⟩) A i
 refine aG (zlE F D u C I1 r q) λv U M=>?_
 obtain⟨⟨V,H2,I2,B,a,rfl,o,K⟩,n⟩:=M
 obtain⟨S,rfl⟩:=B
 refine⟨"str","str.replace",ju,PySem.F.slot_str_replace,PySem.F.type_str_replace,mL _ _ _,(λ_ z=>by cases z),?_⟩
 refine Ji rfl (Ij ?_)
 refine IW (wpAny_Constant_str (k:=j1) (pos:=q1) (IW (wpAny_Constant_str (k:=j2) (pos:=q2) (Calls.spliced_nil ?_))))
 refine SC.replaceW (iR n) (Nat.succ_ne_zero _) (r4 (mY _)) j o N λJ R=>?_
 exact⟨.str _,H2,I2.tok _,⟨_,rfl⟩,K⟩
end
end L2
namespace Dl
open PySem L2
section
variable [KK]{X:Cx}{x y z:Str}{k m:Nat}{f:Addr}{fd:vv}{ps:zF}{p:x9}{e:Expr}{es:y0}{fa:yL}
def El (m:Nat)(p:x9)(f:yL)(y z:Str):zW:=fun ρ=>(zi m p f ρ).bind λd=>match d with
 |.str a=>if ↥a<=100000 then some (.str (Txt.replace a y z))else none
 |_=>none
def znR {w:Pos} (F:gW X.prog X.w X.K X.mg X.base aV k f fd ps (cH m p)) (U:xH k X.A) (P:Gl X x) (O:X.mg x≈(.ref f)) (R:Q0H X.K (.ref f)=true) (T:vf X.K fd ps []) (u:AD X (e::es) fa) (G:∀ {t:TA},PA X (e::es) t->PE X (.Call (.Attribute (.Call (.Name x o) (e::es) [] w) "replace" i) [.Constant (.str y) A B,.Constant (.str z) l j] [] b) (Ka (cH m p) (λ_ _ _=>False) t y z)) :
 ED X (.Call (.Attribute (.Call (.Name x o) (e::es) [] w) "replace" i) [.Constant (.str y) A B,.Constant (.str z) l j] [] b) (El m p fa y z):=by
 obtain⟨t,I,r⟩:=u
 refine⟨_,G I,fun σ ρ F0 H d Q s D e q=>?_⟩
 obtain⟨L,K,c⟩:=u4.mp e
 obtain⟨n,J,h⟩:=u4.mp K
 split at h <;> try cases h
 rename_i E
 cases L with
 |str a =>
  dsimp only at c
  split at c <;> cases c
  rename_i u
  refine r σ ρ F0 H n _ s D J λF1 H1 S C M=>?_
  refine⟨n,_,F1,E,C.fh,M,h,λF' H' v g N=>⟨a,N.str_inv,by omega,q F' H' _ (C.trans g) .str⟩⟩
 |_=>cases c
def zod {w:Q0k}{x:Str}{f:Addr}{fd:vv}{N:zF}{k:Nat}{g:zM}(Fu:cg K x b j f fd)(S:yZ N (x0::pr) (zo j))(h0:(zo j).names.lookup x0≈.local)(C:∀ (c:Q0e) (A:zP) (outer:List Env) (s:zm) (H:Hp) (E:XK),xH k (A.deeper (Q0p b (zo j) ⇑s f c))->bK (ZR aV P w K u i N b (zo j) f c A outer s H E).nox (ym j) g) :
 gW P w K u i aV (k+1) f fd (x0::pr) (cH (x0::pr).length (aK ↥N g)):=by
 obtain⟨O,T,kV,B,R,U,c,ct,G,rfl,D,n⟩:=Fu.ex
 refine zom D n S h0 (λz H Q E h=>?_) λA outer s H z Q E J h=>?_
 .obtain⟨m,d,F,o,_,a,_⟩:=h
  rw[↥a];exact o
 .obtain⟨m,d,F,o,I,a,e,q⟩:=h
  obtain⟨t,p,r⟩:=(C c A outer s H E J).nox
  refine⟨t,p,r F H F H _ _ _ (WQ I a) ?_⟩
  unfold aK at e
  cases l:g (m.map .v++Q0a (↥N-↥m) .no) with
  |rt M=>rw[l]at e;cases e;exact λF' H' v g L=>q F' H' v g L
  |nx ρ=>rw[l]at e;cases e;exact λF' H' σ y=>q F' H' _ y.gr .non
  |bk ρ=>rw[l]at e;cases e
  |ct ρ=>rw[l]at e;cases e
  |no=>rw[l]at e;cases e
end
end Dl
namespace L2
open PySem PySem.Spec PyProof.Rows
def gW.mono {P:zO}{w:Q0k}{K:zA}{c:wA}{a:Heap}{CX:dq}{j k:Nat}{f:Addr}{b:vv}{ps:zF}{d:Sp}(F:gW P w K c a CX j f b ps d)(h:j<=k) :
 gW P w K c a CX k f b ps d:=⟨F.len,λA outer s H args g e Q E i=>F.run A outer s H args g e Q E (i.mono h)⟩
def Oh {k:Str}:∀ {D:List (Str × Q2Q)},(∀ d,Q0V k D≈d->KTD.Opened h₀ P d)->(Q0V k D=none->a)->KTD.Each h₀ k P a D
 |[],_,g=>g rfl
 | (x,d)::D,h,g=>by
  show if decide (k=x) then KTD.Opened h₀ P d else KTD.Each h₀ k P a D
  by_cases e:k=x
  .rw[t5 (j3 e)]
   exact h d (by show(if decide (k=x) then some d else _)=_;rw[t5 (j3 e)])
  .have b:¬ (decide (k=x)=true):=by rw[r0 e];exact u7
   have c:Q0V k ((x,d)::D)=Q0V k D:=by
    show(if decide (k=x) then some d else Q0V k D)=_
    rw[j5 b]
   rw[j5 b]
   rw[c]at h g
   exact Oh h g
section
variable {X:Cx}{a:Addr}{D:List (Str × Q2Q)}{nm:Str}{e1 e2:Expr}{p p2 pos:Pos}{t:TA}
def KH (D:List (Str × Q2Q))(t:TA):TE:=fun σ H Q=>t σ H λa H1=>∃ z y,a=[.str z,y]/\(∀ d,Q0V z D≈d->∃ i,d=.flat (.int i)/\Q (.int i) H1)/\(Q0V z D=none->Q y H1)
theorem PJ (T:∀ h:Heap,X.K.In h->Q2d h a D) (E:Gl X nm) (B:X.mg nm≈(.ref a)) (o:PA X [e1,e2] t) (j:(nm == ("__debug__":Str))=false:=by decide)
 (c:Q0F (.Name nm p) "get" X.env (eval (.Name nm p) X.env)=eval (.Name nm p) X.env:=by rfl)
 (f:((Q0v pos (Q0c [e1,e2] X.env)).all (λx=>!x.1)&&(Q1N pos (Q06 [] X.env)).all (λx=>x.1.isSome)
  && decide (([e1,e2]:y0).length+([]:List Q2f).length+(if ([]:List Q2f).isEmpty then 0 else 1) < 30))=true:=by rfl)
 (e:(p2.endLine == pos.line)=true:=by rfl) (A:Q0c [e1,e2] X.env=(false,eval e1 X.env)::Q0c [e2] X.env:=by rfl) (b:(Q0v pos (Q0c [e2] X.env)).any (·.1)=false:=by rfl) :
 PE X (.Call (.Attribute (.Name nm p) "get" p2) [e1,e2] [] pos) (KH D t):=by
 intro g s σ H Q I h
 refine Jo c f e rfl (YH I E B ?_ j)
 have T0:KTD.Here X.base s.heap a D:=⟨T _ I.mod.kin,I.bk⟩
 refine⟨"dict","dict.get",PySem.F.plainAttrs_dict,PySem.F.slot_dict_get,PySem.F.type_dict_get,T0.typeIs,T0.noDict,?_⟩
 have k:=o pos g s σ H _ I h
 rw[A]at k ⊢
 refine Ji (by show(false||(Q0v pos (Q0c [e2] X.env)).any (·.1))=false;rw[b] <;> rfl) (Ij ?_)
 refine aG k λG K hh9=>?_
 obtain⟨F,H2,I2,l,z,y,m,C,n⟩:=hh9
 subst m
 obtain⟨u,v,rfl,⟨J,rfl⟩,w⟩:=l.two
 refine KTD.get2_text (h₀:=X.base) ⟨T _ I.mod.kin,I2.bk⟩ (Oh (λd j=>?_) λr=>⟨y,H2,I2.tok _,w,n r⟩)
 obtain⟨i,rfl,q⟩:=C d j
 exact KTD.opened_int λt=>⟨.int i,H2,I2.tok _,⟨_,rfl⟩,q⟩
end
end L2
namespace Dl
open PySem L2 PySem.Spec PyProof.Rows
variable [KK]{X:Cx}{a:Addr}{nm:Str}{b e1 e2:Expr}{p p2 p3 pos:Pos}{f:zW}
abbrev gV:=List (Str × Int)
def ZK (t:gV):List (Str × Q2Q):=t.map λq=>(q.1,.flat (.int q.2))
def xO:gV->Str->yl
 |[],_=>none
 |q::t,x=>if x=q.1 then some q.2 else xO t x
omit [KK] in
def Zc (x:Str):∀ t:gV,Q0V x (ZK t)=(xO t x).map λn=>KTD.Dat.flat (.int n)
 |[]=>rfl
 |q::t=>by
  show(if decide (x=q.1) then some (KTD.Dat.flat (.int q.2))else Q0V x (ZK t))=(if x=q.1 then some q.2 else xO t x).map _
  by_cases h:x=q.1
  .rw[t5 (j3 h),t5 h];rfl
  .rw[j5 (by rw[r0 h];exact u7),j5 h,Zc x t]
def uY (t:gV):D->Option D
 |.str x=>some (.bl (xO t x).isSome)
 |_=>none
def Vt {t:gV} (T:∀ h:Heap,X.K.In h->Q2d h a (ZK t)) (o:Gl X nm) (m:X.mg nm≈(.ref a)) (n:ED X b f) (g:Q0Z .In (.Name nm p)=false:=by with_unfolding_all rfl) (i:(nm == ("__debug__":Str))=false:=by decide) :
 TD X (.Compare b [.In] [.Name nm p] pos) (aq (aZ (uY t) f)):=by
 obtain⟨u,l,k⟩:=n
 refine⟨_,G8 (zkh T) l (yD (v:=.ref a) o m rfl i) g,uA fun σ ρ F H z Q s j e q=>?_⟩
 obtain⟨d,e1,e2⟩:=u4.mp e
 refine k σ ρ F H d _ s j e1 λF1 H1 v r c=>?_
 cases d with
 |str x =>
  cases e2
  cases c.str_inv
  refine⟨x,rfl,rfl,?_⟩
  rw[<-KTD.isSome_datumAt,Zc,nG]
  exact q F1 H1 _ r .bl
 |_=>cases e2
def Ay (t:gV):x9
 |[.str x,d]=>match xO t x with
  |some i=>some (.int i)
  |none=>some d
 |_=>none
def Ei (g:x9)(f:yL):zW:=fun ρ=>(f ρ).bind g
def R5 {t:gV}{f:yL}(T:∀ h:Heap,X.K.In h->Q2d h a (ZK t))(w:AD X [e1,e2] f)
 (v:∀ {u:TA},PA X [e1,e2] u->PE X (.Call (.Attribute (.Name nm p) "get" p2) [e1,e2] [] pos) (KH (ZK t) u)):ED X (.Call (.Attribute (.Name nm p) "get" p2) [e1,e2] [] pos) (Ei (Ay t) f):=by
 obtain⟨u,y,m⟩:=w
 refine⟨_,v y,fun σ ρ F H z Q s n e q=>?_⟩
 obtain⟨o,r,b⟩:=u4.mp e
 refine m σ ρ F H o _ s n r λF1 H1 G l c=>?_
 unfold Ay at b
 split at b
 .rename_i x d
  obtain⟨J,I,rfl,b1,c⟩:=c.cons_inv
  obtain⟨B,E,rfl,b2,c⟩:=c.cons_inv
  cases c.nil_inv
  cases b1.str_inv
  refine⟨x,B,rfl,λC k=>?_,λj=>?_⟩
  .rw[Zc]at k
   obtain⟨i,A,rfl⟩:=u8.mp k
   rw[A]at b
   cases b
   exact⟨i,rfl,q F1 H1 _ l .int⟩
  .rw[Zc]at j
   have g:xO t x=none:=Option.map_eq_none_iff.mp j
   rw[g]at b
   cases b
   exact q F1 H1 _ l b2
 .cases b
end Dl
namespace Dl
open PySem L2 PySem.Spec PyProof.Rows
section
variable [KK]{X:Cx}{a o e:Expr}{es:y0}{p apos pos:Pos}{f:zW}{fa:yL}{m:Str}
structure lA (K:zA) (C:Addr):Prop where
 cl:fc K C
 nW:Zn K C "web"
 nH:Zn K C "heap"
 nP:Zn K C "past"
def oA:D->Option D
 |.obj w _ _=>some w
 |_=>none
def ou:D->Option D
 |.obj _ h _=>some h
 |_=>none
def Aq (c:lA X.K KK.dk) (h:ED X a f) (l:Q0F a "web" X.env (eval a X.env)=eval a X.env:=by rfl):ED X (.Attribute a "web" pos) (aZ oA f):=by
 obtain⟨t,p,r⟩:=h
 refine⟨_,Fq p l,fun σ ρ F H z Q s i e q=>?_⟩
 obtain⟨d,u,b⟩:=u4.mp e
 refine r σ ρ F H d _ s i u λF1 H1 v g n=>?_
 cases d with
 |obj w h C =>
  cases b
  obtain⟨p,m,y,j,B,A,rfl,k,D,o,x,E⟩:=n.obj_inv
  exact⟨p,_,m,_,j,rfl,g.fh _ _ k,c.cl,c.nW,rfl,q F1 H1 _ g o⟩
 |_=>cases b
def Av (c:lA X.K KK.dk) (h:ED X a f) (l:Q0F a "heap" X.env (eval a X.env)=eval a X.env:=by rfl):ED X (.Attribute a "heap" pos) (aZ ou f):=by
 obtain⟨t,p,r⟩:=h
 refine⟨_,Fq p l,fun σ ρ F H z Q s j e q=>?_⟩
 obtain⟨d,u,b⟩:=u4.mp e
 refine r σ ρ F H d _ s j u λF1 H1 v g o=>?_
 cases d with
 |obj w h C =>
  cases b
  obtain⟨p,m,y,x,n,A,rfl,k,D,B,i,E⟩:=o.obj_inv
  exact⟨p,_,m,_,n,rfl,g.fh _ _ k,c.cl,c.nH,rfl,q F1 H1 _ g i⟩
 |_=>cases b
def eO (n:Nat)(p:x9)(c:zW)(fa:yL):zW:=fun ρ=>(c ρ).bind λd=>match d with
 |.obj w h b=>(fa ρ).bind λa=>if ↥a+1=n then p (.obj w h b::a)else none
 |_=>none
def nZ (n:Nat)(r:jJ)(c:zW)(fa:yL):eN:=fun ρ=>(c ρ).bind λd=>match d with
 |.obj w h b=>(fa ρ).bind λa=>if ↥a+1=n then r (.obj w h b::a)else none
 |_=>none
variable {k n:Nat}{g:Addr}{fd:vv}{ps:zF}{q:x9}{r:jJ}
theorem Wq {pl:Sem Bool}(c:fc X.K KK.dk)(W:je X.K KK.dk m g)(F:wt X.prog X.w X.K X.mg X.base aV k g fd ps (cH n q))(T:xH k X.A)(M:vf X.K fd ps [])(J:ED X o f)(O:AD X (e::es) fa)
 (R:∀ z A q,(bT z A q).lookup m=none:=by intros;rfl)
 (r:Q0c (e::es) X.env=(false,eval e X.env)::Q0c es X.env:=by rfl) (j:(Q0v pos (Q0c es X.env)).any (·.1)=false:=by rfl)
 (D:eval (.Call (.Attribute o m apos) (e::es) [] pos) X.env=(do
  let ov<-eval o X.env
  Q2l apos.atName
  let (f,first)<-Q1d [ov] (Q12 ov m pl)
  callWith pos f first (Q0v pos (Q0c (e::es) X.env)) (Q1N pos (Q06 [] X.env))):=by rfl) :
 ED X (.Call (.Attribute o m apos) (e::es) [] pos) (eO n q f fa):=by
 obtain⟨to,I,U⟩:=J
 obtain⟨t,P,E⟩:=O
 refine⟨_,G6 (pl:=pl) I c W F T M .nil pI P r j D,fun σ ρ F0 H d Q s x e h=>?_⟩
 obtain⟨B,Y,u⟩:=u4.mp e
 refine U σ ρ F0 H B _ s x Y λF1 H1 v a C=>?_
 cases B with
 |obj w Z l =>
  obtain⟨y,S,b⟩:=u4.mp u
  split at b <;> try cases b
  rename_i G
  obtain⟨p,N,q',z,A,xs,rfl,L,hq,aw,ah,al⟩:=C.obj_inv
  refine⟨p,N,_,rfl,a.fh _ _ L,R _ _ _,?_⟩
  refine E σ ρ F1 H1 y _ a.fh (x.mono a.ff) S λF2 H2 vs i K=>?_
  exact⟨.obj w Z l::y,d,F2,G,i.fh,by rw[p7];exact .cons (C.mono i.ff) K,b,λF' H' v g V=>h F' H' v ((a.trans i).trans g) V⟩
 |_=>cases u
def zrH {D:Nat->Addr}{pl:Sem Bool}(c:fc X.K KK.dk)(hm:je X.K KK.dk m g)(F:wt X.prog X.w X.K X.mg X.base (bD X.prog X.w) k g fd ps (nM D n r))(W:vr (bD X.prog X.w) X E)(Y:xH k X.A)(O:vf X.K fd ps [])(L:ED X o f)(S:AD X (e::es) fa)(U:∀ z A q,(bT z A q).lookup m=none:=by intros;rfl)(l:Q0c (e::es) X.env=(false,eval e X.env)::Q0c es X.env:=by rfl)(h:(Q0v pos (Q0c es X.env)).any (·.1)=false:=by rfl) (G:eval (.Call (.Attribute o m apos) (e::es) [] pos) X.env=(do
 let ov<-eval o X.env
 Q2l apos.atName
 let (f,first)<-Q1d [ov] (Q12 ov m pl)
 callWith pos f first (Q0v pos (Q0c (e::es) X.env)) (Q1N pos (Q06 [] X.env))):=by rfl) :
 XE E D X (.Call (.Attribute o m apos) (e::es) [] pos) (nZ n r f fa):=by
 obtain⟨to,K,Z⟩:=L
 obtain⟨t,T,I⟩:=S
 refine⟨_,G6 (pl:=pl) K c hm F Y O .nil W T l h G,fun σ ρ F0 H j Q s x e w=>?_⟩
 obtain⟨B,e1,u⟩:=u4.mp e
 refine Z σ ρ F0 H B _ s x e1 λF1 H1 v a C=>?_
 cases B with
 |obj R hh i =>
  obtain⟨y,V,b⟩:=u4.mp u
  split at b <;> try cases b
  rename_i J
  obtain⟨p,P,q',z,A,xs,rfl,N,hq,aw,ah,al⟩:=C.obj_inv
  refine⟨p,P,_,rfl,a.fh _ _ N,U _ _ _,?_⟩
  refine I σ ρ F1 H1 y _ a.fh (x.mono a.ff) V λF2 H2 vs d M=>?_
  exact⟨.obj R hh i::y,j,F2,J,d.fh,by rw[p7];exact .cons (C.mono d.ff) M,b,w.grow (a.trans d)⟩
 |_=>cases u
end
open Classical in
noncomputable def bw (x q:Addr)(H:Hp):Hp:=λb=>if b=x\/b=q then none else H b
section
variable {x q:Addr}{F H F' H':Hp}
def mG (c:b≠x)(a:b≠q):bw x q H b=H b:=by
 unfold bw
 rw[j5 (λz=>z.elim c a)]
def vH (h:bw x q H b≈o):b≠x/\b≠q/\H b≈o:=by
 unfold bw at h
 split at h
 .cases h
 .rename_i a
  exact⟨λz=>a (.inl z),λz=>a (.inr z),h⟩
def Ti:bw x q H x=none:=by
 unfold bw
 rw[t5 (.inl rfl)]
def TV:bw x q H q=none:=by
 unfold bw
 rw[t5 (.inr rfl)]
def Z6:bw x q (aA H x o)=bw x q H:=by
 funext b
 unfold bw
 split
 .rfl
 .rename_i a
  rw[zj λz=>a (.inl z)]
def zis:bw x q (aA H q o)=bw x q H:=by
 funext b
 unfold bw
 split
 .rfl
 .rename_i a
  rw[zj λz=>a (.inr z)]
def zZ.offs (s:zZ F H)(c:F x=none)(a:F q=none):zZ F (bw x q H):=λb o e=>by
 rw[mG (zf e c) (zf e a)]
 exact s b o e
def zZ.on (s:zZ F (bw x q H)):zZ F H:=λb o e=>(vH (s b o e)).2.2
def Gr.offs (g:Gr F H F' H')(c:F' x=none)(a:F' q=none):Gr F (bw x q H) F' (bw x q H'):=by
 refine⟨g.ff,zZ.offs g.fh c a,λb o h d=>?_⟩
 obtain⟨k,j,i⟩:=vH d
 obtain⟨e,f⟩:=g.kp b o h i
 exact⟨e,by rw[mG k j];exact f⟩
end
structure cY [KK] (F H:Hp) (x dx q:Addr) (w h:D) (ps:zl):Prop where
 ex:∃ vw vh xs,H x≈(.ins KK.dk dx (bT vw vh q))/\H q≈(.lst xs)/\At F w vw/\At F h vh/\ao F ps xs
 fx:F x=none
 fq:F q=none
section
variable [KK]{Fb Hb F H F' H':Hp}{ρ:SE}{σ:L2.St}{x dx q:Addr}{w h w' h':D}{ps:zl}
def cY.grow (d:cY F H x dx q w h ps)(g:Gr F H F' H'):cY F' H' x dx q w h ps:=by
 obtain⟨l,m,k,f,c,i,e,j⟩:=d.ex
 have a:=g.kl (λ_ z=>by cases z) d.fx f
 have b:=g.kl (λ_ z=>by cases z) d.fq c
 exact⟨⟨l,m,k,a.2,b.2,i.mono g.ff,e.mono g.ff,j.mono g.ff⟩,a.1,b.1⟩
def cY.ne (d:cY F H x dx q w h ps):x≠q:=by
 obtain⟨e,f,c,b,a,_⟩:=d.ex
 exact uV b a (λz=>by cases z)
def Rl.deed {i:Nat}(r:Rl Fb Hb F H ρ σ)(e:ρ[i]?≈(.k w h ⟨z,ps⟩))(ex:σ[i]?≈(some (.ref x)))(d:cY F H x dx q w h ps)(g:Gr F (bw x q H) F' (bw x q H'))(R:cY F' H' x dx q w' h' m) :
 Rl Fb Hb F' H' (ρ.set i (.k w' h' ⟨z,m⟩)) σ:=by
 obtain⟨vw,vh,xs,hx,hq,a1,a2,a3⟩:=d.ex
 obtain⟨B,E,T,I,Q,b1,b2,b3⟩:=R.ex
 obtain⟨p,a4,q2,a6,a7,a5,Y,f2,V,f4,f5,f6,f7,f8,f9⟩:=r.dk i w h _ e
 rw[ex]at Y
 cases Y
 rw[hx]at f2
 cases f2
 obtain⟨p3,o3,W,Z,e6,e7,_⟩:=r.ows i _ e rfl
 rw[ex]at W
 cases W
 have hi:i<ρ.length:=(t8.mp e).1
 have k:∀ {j:Nat} {s:Sl},i=j->(ρ.set i (.k w' h' ⟨z,m⟩))[j]?≈s->s=.k w' h' ⟨z,m⟩:=λ{j s} c h=>by
  subst c
  rw[o4 hi]at h
  cases h
  rfl
 have f:∀ {j:Nat} {s:Sl},(ρ.set i (.k w' h' ⟨z,m⟩))[j]?≈s->s.isO=true->∃ s',ρ[j]?≈s'/\s'.isO=true:=λ{j s} h n=>by
  by_cases c:i=j
  .subst c;exact⟨_,e,rfl⟩
  .rw[u9 c]at h;exact⟨s,h,n⟩
 have S:∀ {j:Nat} {s:Sl} {a:Addr},i≠j->ρ[j]?≈s->s.isO=true->σ[j]?≈(some (.ref a))->a≠x/\a≠q:=λ{j s a} hne K n C=>by
  refine⟨λz=>?_,λz=>?_⟩
  .subst z;exact hne (r.dis i j a _ s e K rfl n ex C)
  .subst z;exact f7 j s K n C
 refine⟨⟨r.gr.ff.trans g.ff,zZ.on g.fh,λb o e1 N=>?_⟩,λj d h=>?_,λj s h n=>?_,λj l a s t K C o1 o2 h3 h4=>?_,by simp[r.len],λj w2 C a0 h=>?_⟩
 .obtain⟨G,k2⟩:=r.gr.kp b o e1 N
  rcases G with G|⟨G,k3⟩
  .have U:b≠x:=zf N Z
   have P:b≠q:=zf N V
   obtain⟨A,J⟩:=g.kp b o G (by rw[mG U P];exact k2)
   exact⟨A,(vH J).2.2⟩
  .have y:=g.ff _ _ k3
   exact⟨.inr ⟨G,y⟩,zZ.on g.fh _ _ y⟩
 .by_cases c:i=j
  .cases k c h
  .rw[u9 c]at h
   obtain⟨v,A,J⟩:=r.vals j d h
   exact⟨v,A,J.mono g.ff⟩
 .by_cases c:i=j
  .cases k c h
   subst c
   exact⟨x,_,ex,Z,R.fx,I,dx,B,E,q,rfl,b1,b2⟩
  .rw[u9 c]at h
   obtain⟨a,o,A,J,y3,y4,X⟩:=r.ows j s h n
   obtain⟨U,P⟩:=S c h n A
   obtain⟨u1,u2⟩:=g.kl X.ntup y3 (by rw[mG U P];exact y4)
   exact⟨a,o,A,J,u1,(vH u2).2.2,X.mono g.ff⟩
 .obtain⟨L,M,u⟩:=f K o1
  obtain⟨s2,g2,O⟩:=f C o2
  exact r.dis j l a L s2 M g2 u O h3 h4
 .have c:i=j:=by
   obtain⟨L,M,_⟩:=f h rfl
   by_cases c:i=j
   .exact c
   .rw[u9 c]at h
    exact(f8 j _ h rfl).symm
  cases k c h
  subst c
  refine⟨x,dx,q,B,E,T,ex,I,V,R.fq,Q,b3,λj s h n=>?_,λj s h hk=>?_,f9⟩
  .obtain⟨L,M,u⟩:=f h n
   exact f7 j L M u
  .by_cases c:i=j
   .exact c.symm
   .rw[u9 c]at h
    exact f8 j s h hk
def Rl.desk {i:Nat}(r:Rl Fb Hb F H ρ σ)(e:ρ[i]?≈(.k w h ⟨z,ps⟩)):∃ x dx q,σ[i]?≈(some (.ref x))/\cY F H x dx q w h ps/\∀ a,z≈a->a=(x,dx,q):=by
 obtain⟨p,dx,q,o,B,A,d,c,D,y,m,l,K,J,g⟩:=r.dk i w h _ e
 obtain⟨C,E,b,I,v,f,n,s,t,G,j,k,u⟩:=r.ows i _ e rfl
 rw[d]at b
 cases b
 rw[c]at f
 cases f
 cases j
 exact⟨p,dx,q,d,⟨⟨o,B,A,c,m,k,u,l⟩,v,y⟩,g⟩
def Oz {N:zF}{c:zl}(s:zZ F H)(d:cY F H x dx q w h ps)(a:ao F c l):Rl F (bw x q H) F H (.k w h ⟨some (x,dx,q),ps⟩::(c.map .v++Q0a (↥N-(↥c+1)) .no)) (L2.start N (.ref x::l)):=by
 have n:=↥a
 obtain⟨r,A,O,B,R,P,L,S⟩:=d.ex
 have M:(L2.start N (.ref x::l))[0]?≈(some (.ref x)):=rfl
 have b:∀ (i:Nat) (t:Sl),(c.map Sl.v++Q0a (↥N-(↥c+1)) Sl.no)[i]?≈t->t.isO=true->False:=λi t h f=>by
  by_cases g:i<↥c
  .rw[l0 (by simpa using g),q4]at h
   cases e:c[i]? with
   |none=>rw[e]at h;cases h
   |some d=>rw[e]at h;cases h;cases f
  .rw[p6 (by simpa using g),p8]at h
   split at h <;> cases h
   cases f
 refine⟨⟨zZ.refl _,s,λp o U C=>⟨.inl U,(vH C).2.2⟩⟩,λi E h=>?_,λi t h f=>?_,λi j p t u v m T Q X W=>?_,?_,λi Y m J h=>?_⟩
 .cases i with
  |zero=>cases h
  |succ i =>
   rw[h7]at h
   by_cases g:i<↥c
   .rw[l0 (by simpa using g),q4]at h
    cases e:c[i]? with
    |none=>rw[e]at h;cases h
    |some E =>
     rw[e]at h
     cases h
     obtain⟨y,K,I⟩:=a.get e
     refine⟨y,?_,I⟩
     unfold L2.start
     rw[n0,List.cons_append,h7,l0 (by simpa [n]using g),q4,K]
     rfl
   .rw[p6 (by simpa using g),p8]at h
    split at h <;> cases h
 .cases i with
  |zero=>cases h;exact⟨x,_,rfl,Ti,d.fx,B,dx,r,A,q,rfl,P,L⟩
  |succ i=>rw[h7]at h;exact(b i t h f).elim
 .cases i with
  |zero=>cases j with
   |zero=>rfl
   |succ j=>rw[h7]at m;exact(b j u m Q).elim
  |succ i=>rw[h7]at v;exact(b i t v T).elim
 .unfold L2.start
  simp[n]
 .cases i with
  |zero =>
   cases h
   refine⟨x,dx,q,r,A,O,rfl,B,TV,d.fq,R,S,λj s h f=>?_,λj s h G=>?_,λ_ z=>by cases z;rfl⟩
   .cases j with
    |zero=>intro z;cases z;exact d.ne rfl
    |succ j=>rw[h7]at h;exact(b j s h f).elim
   .cases j with
    |zero=>rfl
    |succ j =>
     rw[h7]at h
     refine(b j s h ?_).elim
     cases s with
     |k _ _ _=>rfl
     |_=>cases G
  |succ i=>rw[h7]at h;exact(b i _ h rfl).elim
end
section
variable [KK]{X:Cx}{a b o e:Expr}{es:y0}{p apos pos pos' pos2:Pos}{f:zW}{fa:yL}{m:Str}
def pJ (i:Nat)(f:zW):zM:=fun ρ=>match bF true f ρ,ρ[i]? with
 |some d,some (.k w h ⟨z,ps⟩)=>if decide (↥ps<sizeLine) then .nx (ρ.set i (.k w h ⟨z,ps++[d]⟩))else .no
 |_,_=>.no
def zn8 (c:lA X.K KK.dk) (C:PE X a (Wd i)) (L:ED X e f) (D:∀ {u:TE} {t:TA},PE X (.Attribute a "past" apos) u->PA X [e] t->PE X (.Call (.Attribute (.Attribute a "past" apos) "append" p) [e] [] pos') (jA X.K "list" Gy u t)) (G:Q0F a "past" X.env (eval a X.env)=eval a X.env:=by rfl) (m:Q0q (.Call (.Attribute (.Attribute a "past" apos) "append" p) [e] [] pos') none pos.line X.env=pure false:=by rfl) (M:Q0c [e] X.env=(false,eval e X.env)::Q0c [] X.env:=by rfl) :
 SD X (.Expr (.Call (.Attribute (.Attribute a "past" apos) "append" p) [e] [] pos') pos) (pJ i f):=by
 obtain⟨t,I,O⟩:=L
 refine⟨_,XH (D (Fq C G) (zw I yt M)) m,λFb Hb F H ρ σ E l k=>?_⟩
 unfold pJ at k
 split at k
 .rename_i d w h z W R y
  split at k
  .rename_i B
   obtain⟨x,J,q,ex,A,_⟩:=l.desk y
   obtain⟨S,U,K,N,Q,V,T,Y⟩:=A.ex
   refine⟨_,ex,x,_,J,_,.ref q,rfl,N,c.cl,c.nP,rfl,.inl ⟨rfl,K,aN.of Q⟩,?_⟩
   refine O.at l R λF' H' v g P=>?_
   have b:=A.grow g
   obtain⟨n,s,j,o,r,b1,b2,b3⟩:=b.ex
   refine⟨q,j,v,rfl,rfl,r,by rw[↥b3];exact j8 B,?_⟩
   refine k F' _ σ ((l.grow g).deed y ex b (H':=aA H' q (.lst (j++[v]))) ?_ ⟨⟨n,s,_,?_,zn,b1,b2,b3.snoc P⟩,b.fx,b.fq⟩)
   .rw[zis]
    exact .refl (zZ.offs g.fh b.fx b.fq)
   .rw[zj b.ne]
    exact o
  .exact k.elim
 .exact k.elim
def rN (i:Nat)(f:zW):zM:=fun ρ=>match bF true f ρ,ρ[i]? with
 |some d,some (.k _ h ps)=>.nx (ρ.set i (.k d h ps))
 |_,_=>.no
def rO (i:Nat)(f:zW):zM:=fun ρ=>match bF true f ρ,ρ[i]? with
 |some d,some (.k w _ ps)=>.nx (ρ.set i (.k w d ps))
 |_,_=>.no
def Tz (c:lA X.K KK.dk) (p:PE X a (Wd i)) (y:ED X e f) (A:Q0q e (some (.Attribute a "web" pos')) pos.line X.env=pure false:=by rfl):SD X (.Assign [.Attribute a "web" pos'] e pos) (rN i f):=by
 obtain⟨t,s,C⟩:=y
 refine⟨_,qg p s A,λFb Hb F H ρ σ E j k=>?_⟩
 unfold rN at k
 split at k
 .rename_i d w h l J m
  obtain⟨z,M⟩:=l
  refine C.at j J λF' H' v g D=>?_
  obtain⟨x,n,q,ex,b,_⟩:=(j.grow g).desk m
  obtain⟨K,o,u,B,G,L,r,I⟩:=b.ex
  refine⟨_,ex,x,_,n,_,rfl,B,c.cl,c.nW,by show 3<1000;decide,?_⟩
  refine k F' _ σ ((j.grow g).deed m ex b (H':=aA H' x (.ins KK.dk n (bT v o q))) ?_ ⟨⟨v,o,u,zn,?_,D,r,I⟩,b.fx,b.fq⟩)
  .rw[Z6]
   exact .refl (zZ.offs g.fh b.fx b.fq)
  .rw[zj (bh b.ne)]
   exact G
 .exact k.elim
def Ua (c:lA X.K KK.dk) (p:PE X a (Wd i)) (y:ED X e f) (A:Q0q e (some (.Attribute a "heap" pos')) pos.line X.env=pure false:=by rfl):SD X (.Assign [.Attribute a "heap" pos'] e pos) (rO i f):=by
 obtain⟨t,r,C⟩:=y
 refine⟨_,qg p r A,λFb Hb F H ρ σ E j k=>?_⟩
 unfold rO at k
 split at k
 .rename_i d w h l J m
  obtain⟨z,M⟩:=l
  refine C.at j J λF' H' v g D=>?_
  obtain⟨x,o,q,ex,b,_⟩:=(j.grow g).desk m
  obtain⟨n,L,s,B,G,u,K,I⟩:=b.ex
  refine⟨_,ex,x,_,o,_,rfl,B,c.cl,c.nH,by show 3<1000;decide,?_⟩
  refine k F' _ σ ((j.grow g).deed m ex b (H':=aA H' x (.ins KK.dk o (bT n v q))) ?_ ⟨⟨n,v,s,zn,?_,u,D,I⟩,b.fx,b.fq⟩)
  .rw[Z6]
   exact .refl (zZ.offs g.fh b.fx b.fq)
  .rw[zj (bh b.ne)]
   exact G
 .exact k.elim
abbrev KF:=D->D->zl->zl->Option (D × D × zl)
abbrev KZ:=Option (Addr × Addr × Addr)->D->D->zl->zl->Option (D × D × jF)
def tQ (n:Nat)(R:KZ)(j:D):Sp:=λi H Q _=>∃ x b q d F w h f c e g a,i=.ref x::d/\zZ F H/\cY F H x b q w h f/\ao F c d/\↥c+1=n/\R (some (x,b,q)) w h f c≈(e,g,⟨some (x,b,q),a⟩) /\
 ∀ F' H' v,Gr F (bw x q H) F' (bw x q H')->cY F' H' x b q e g a->At F' j v->Q v H'
def rK (n:Nat)(R:KF)(j:D):Sp:=λi H Q _=>∃ x d q c F w h f b e g a,i=.ref x::c/\zZ F H/\cY F H x d q w h f/\ao F b c/\↥b+1=n/\R w h f b≈(e,g,a) /\
 ∀ F' H' v,Gr F (bw x q H) F' (bw x q H')->cY F' H' x d q e g a->At F' j v->Q v H'
def sO {P:zO}{w:Q0k}{K:zA}{i:wA}{b:Heap}{f:Addr}{g:vv}{ps:zF}{k n:Nat}{CX:dq}{R:KZ}{R':KF}{j:D}(F:wt P w K i b CX k f g ps (tQ n R j))(h:∀ z w h ps c d e a,R' w h ps c≈(d,e,a)->R z w h ps c≈(d,e,⟨z,a⟩)):wt P w K i b CX k f g ps (rK n R' j) :=
 F.imp λA H Q E ⟨x,t,q,o,F',w,e,ps,c,d,p,a,s,m,l,v,u,y,r⟩=>⟨x,t,q,o,F',w,e,ps,c,d,p,a,s,m,l,v,u,h _ _ _ _ _ _ _ _ y,r⟩
def lG (n:Nat)(g:zM):KZ:=λz w h b a=>match g (.k w h ⟨z,b⟩::(a.map .v++Q0a (n-(↥a+1)) .no)) with
 |.nx ρ=>(match (ρ:SE)[0]? with
  |some (Sl.k w' h' p')=>some (w',h',p')
  |_=>none)
 |_=>none
def Dq (X:Cx)(a:vu)(g:zM)(c:V):Prop:=∃ t,bH X a t/\∀ (Fb Hb F H:Hp) (ρ:SE) (σ:L2.St) (E:cj),Rl Fb Hb F H ρ σ->(match g ρ with
 |.nx d=>∀ F' H' b,Rl Fb Hb F' H' d b->E.rt c H'
 |_=>False)->t E σ H
def zop:Dq X [.Return (some (.Constant (.str x) j pos')) pos] zL (.str x) :=
 ⟨_,Yf (XY zI),λFb Hb F H ρ σ E a k=>k F H σ a⟩
def WT {f:Stmt}{a:vu}{g:zM}(q:SD X f g)(o:Dq X a h c):Dq X (f::a) (zG g h) c:=by
 obtain⟨t,p,r⟩:=q
 obtain⟨u,i,l⟩:=o
 refine⟨_,xy p i,λFb Hb F H ρ σ E j k=>?_⟩
 refine r Fb Hb F H ρ σ { E with nx:=u E } j ?_
 unfold zG at k
 cases e:g ρ with
 |nx n =>
  rw[e]at k
  exact λF' H' m b=>l Fb Hb F' H' n m E b k
 |rt d=>rw[e]at k;exact k.elim
 |bk d=>rw[e]at k;exact k.elim
 |ct d=>rw[e]at k;exact k.elim
 |no=>rw[e]at k;exact k.elim
section
variable {P:zO}{w:Q0k}{K:zA}{mg:wA}{base:Heap}{x qual:Str}{st:Stmt}{f:Addr}{fd:vv}{N ps:zF}{k:Nat}{g:zM}
def LQ {e:D}{a:zD}(h:tQ n R e a H Q E):↥a=n:=by
 obtain⟨x,p,q,k,F,w,o,ps,i,f,l,b,rfl,j,g,c,d,r,m⟩:=h
 rw[g5,↥c]
 exact d
def Mf {Fb Hb:Hp}{x:Addr}{f:D}{a:zl}(c:Rl F (bw x q H) F' H' h l)(e:h[0]?≈(.k f i ⟨some (x,j,q),a⟩)):Gr F (bw x q H) F' (bw x q H')/\cY F' H' x j q f i a:=by
 obtain⟨u,m,v,ex,d,t⟩:=c.desk e
 cases t _ rfl
 refine⟨⟨c.gr.ff,zZ.offs c.gr.fh d.fx d.fq,λb o p g=>?_⟩,d⟩
 obtain⟨k,n⟩:=c.gr.kp b o p g
 obtain⟨s,r,_⟩:=vH g
 exact⟨k,by rw[mG s r];exact n⟩
def zoT (Fu:cg K x qual st f fd)(S:yZ N ps (zo st))
 (m:∀ (a:Q0e) (A:zP) (outer:List Env) (s:zm) (H:Hp) (E:XK),xH k (A.deeper (Q0p qual (zo st) ⇑s f a))->bK (ZR aV P w K mg base N qual (zo st) f a A outer s H E).nox (ym st) g) :
 wt P w K mg base aV (k+1) f fd ps (tQ ↥ps (lG ↥N g) .non):=by
 refine Fu.ok S (λl H Q E h=>LQ h) λa A outer s H l Q E B h=>?_
 obtain⟨x,n,q,L,F,w,C,ps,c,O,M,y,rfl,z,o,D,J,e,u⟩:=h
 obtain⟨t,p,r⟩:=m a A outer s H E B
 refine⟨t,p,r F (bw x q H) F H _ _ _ (Oz z o D) ?_⟩
 unfold lG at e
 cases b:g (.k w C ⟨some (x,n,q),ps⟩::(c.map .v++Q0a (↥N-(↥c+1)) .no)) with
 |nx ρ =>
  rw[b]at e
  dsimp only at e
  split at e
  .rename_i U I T j
   cases e
   intro F' H' R i
   obtain⟨G,v⟩:=Mf (Fb:=F) (Hb:=H) i j
   exact u F' H' _ G v .non
  .cases e
 |rt d=>rw[b]at e;cases e
 |bk ρ=>rw[b]at e;cases e
 |ct ρ=>rw[b]at e;cases e
 |no=>rw[b]at e;cases e
def zoj (Fu:cg K x qual st f fd)(S:yZ N ps (zo st))(m:∀ (a:Q0e) (A:zP) (outer:List Env) (s:zm) (H:Hp) (E:XK),xH k (A.deeper (Q0p qual (zo st) ⇑s f a))->Dq (ZR aV P w K mg base N qual (zo st) f a A outer s H E).nox (ym st) g (.str y)) :
 wt P w K mg base aV (k+1) f fd ps (tQ ↥ps (lG ↥N g) (.str y)):=by
 refine Fu.ok S (λl H Q E h=>LQ h) λa A outer s H l Q E C h=>?_
 obtain⟨x,n,q,M,F,w,D,ps,c,R,O,z,rfl,B,o,G,L,e,u⟩:=h
 obtain⟨t,p,r⟩:=m a A outer s H E C
 refine⟨t,p,r F (bw x q H) F H _ _ _ (Oz B o G) ?_⟩
 unfold lG at e
 cases b:g (.k w D ⟨some (x,n,q),ps⟩::(c.map .v++Q0a (↥N-(↥c+1)) .no)) with
 |nx ρ =>
  rw[b]at e
  dsimp only at e
  split at e
  .rename_i V J U j
   cases e
   intro F' H' T i
   obtain⟨I,v⟩:=Mf (Fb:=F) (Hb:=H) i j
   exact u F' H' _ I v .str
  .cases e
 |rt d=>rw[b]at e;cases e
 |bk ρ=>rw[b]at e;cases e
 |ct ρ=>rw[b]at e;cases e
 |no=>rw[b]at e;cases e
end
def KE (X:Cx)(e:Expr)(f:SE->Option (D × SE)):Prop:=∃ t,PE X e t/\∀ (Fb Hb F H:Hp) (ρ:SE) (σ:L2.St) (Q:VK) (d:D) (a:SE),Rl Fb Hb F H ρ σ->f ρ≈(d,a)->(∀ F' H' v,zZ F F'->Rl Fb Hb F' H' a σ->At F' d v->Q v H')->t σ H Q
def gJ (i n:Nat)(R:KF)(b:D)(fa:yL):SE->Option (D × SE):=fun ρ=>match ρ[i]? with
 |some (.k w h ⟨z,ps⟩)=>(fa (visG ρ)).bind λa=>if gU a=true/\↥a+1=n then (R w h ps a).map λr=>(b,ρ.set i (.k r.1 r.2.1 ⟨z,r.2.2⟩))else none
 |_=>none
def zrQ {t:TA}(B:C=KK.dk)(O:∀ o s q,(bT o s q).lookup m=none)(I:RA t fa)(Fb Hb F H:Hp)(ρ:SE)(σ:L2.St)(Q:VK)(d:D)(y:SE)(a:Rl Fb Hb F H ρ σ)(h:gJ i n R u fa ρ≈(d,y))(k:∀ F' H' v,zZ F F'->Rl Fb Hb F' H' y σ->At F' d v->Q v H'):Ku C m (rK n R u) [] E (Wd i) t σ H Q:=by
 subst B
 unfold gJ at h
 split at h
 .rename_i w W z S j
  obtain⟨l,P,e⟩:=u4.mp h
  split at e <;> try cases e
  rename_i A
  obtain⟨⟨T,K,f⟩,X,L⟩:=u8.mp e
  cases L
  obtain⟨x,p,q,ex,r,_⟩:=a.desk j
  obtain⟨o,s,Z,U,hq,_⟩:=r.ex
  refine⟨_,ex,x,p,_,rfl,U,O _ _ _,?_⟩
  refine I σ _ _ H l _ a.gh a.visG P λF1 H1 J Y N=>?_
  obtain⟨c,M⟩:=a.back Y
  have b:=r.grow c
  refine⟨x,p,q,J,_,w,W,S,l,T,K,f,by rw[p7],c.fh,b,N.flat M A.1,A.2,X,λF' H' v g G V=>?_⟩
  exact k F' H' v (c.ff.trans g.ff) ((a.grow c).deed j ex b g G) V
 .cases h
section
variable {k n i:Nat}{g:Addr}{fd:vv}{ps:zF}{R:KF}{d0:D}
theorem Am {pl:Sem Bool}(c:fc X.K KK.dk)(v:je X.K KK.dk m g)(F:wt X.prog X.w X.K X.mg X.base aV k g fd ps (rK n R d0))(s:xH k X.A)(w:vf X.K fd ps [])(u:PE X o (Wd i))(d:AD X (e::es) fa)
 (l:∀ r x q,(bT r x q).lookup m=none:=by intros;rfl)
 (b:Q0c (e::es) X.env=(false,eval e X.env)::Q0c es X.env:=by rfl) (a:(Q0v pos (Q0c es X.env)).any (·.1)=false:=by rfl)
 (j:eval (.Call (.Attribute o m apos) (e::es) [] pos) X.env=(do
  let ov<-eval o X.env
  Q2l apos.atName
  let (f,first)<-Q1d [ov] (Q12 ov m pl)
  callWith pos f first (Q0v pos (Q0c (e::es) X.env)) (Q1N pos (Q06 [] X.env))):=by rfl) :
 KE X (.Call (.Attribute o m apos) (e::es) [] pos) (gJ i n R d0 fa):=by
 obtain⟨t,h,p⟩:=d
 exact⟨_,G6 (E:=λ_ _ _=>False) (pl:=pl) u c v F s w .nil pI h b a j,zrQ rfl l p⟩
end
def iT (f:SE->Option (D × SE)):zM:=fun ρ=>match f ρ with
 |some (_,ρ')=>.nx ρ'
 |none=>.no
def uB {f:SE->Option (D × SE)}(c:KE X e f)(i:Q0q e none pos.line X.env=pure false:=by rfl):SD X (.Expr e pos) (iT f):=by
 obtain⟨t,p,r⟩:=c
 refine⟨_,XH p i,λFb Hb F H ρ σ E b k=>?_⟩
 unfold iT at k
 split at k
 .rename_i d g h
  exact r Fb Hb F H ρ σ _ d g b h λF' H' v _ a _=>k F' H' σ a
 .exact k.elim
end
section
variable [KK]{X:Cx}{e1 e2 e3:Expr}{a1 a2 a3:Expr}{p1 p2 p3 pos pos1 pos2 pos3 pos':Pos}
def w0:D:=.tup [.int 1,.tup []]
def h0:D:=.tup [.int 0]
def Dg:Sp:=λb H Q _=>∃ x a F,b=[.ref x]/\zZ F H/\F x=none/\H x≈(.ins KK.dk a [])/\∀ F' H' q,H q=none->Gr F (bw x q H) F' (bw x q H')->cY F' H' x a q w0 h0 []->Q .non H'
def SI (X:Cx) (a:vu):Prop:=∃ b d c,bH X a (ul (tW X.K (Wd 0) b "web") (ul (tW X.K (Wd 0) d "heap") (tW X.K (Wd 0) c "past")))/\RE b (λ_=>some w0)/\RE d (λ_=>some h0)/\RF c (λ_=>some [])
def TX {c f:zW}{b:yL}(p:ED X e1 c)(n:ED X e2 f)(l:FL X e3 b)(b1:PE X a1 (Wd 0))(b2:PE X a2 (Wd 0))(b3:PE X a3 (Wd 0))(y:∀ ρ,c ρ≈w0)(k:∀ ρ,f ρ≈h0)(m:∀ ρ,b ρ≈[])
 (r:Q0q e1 (some (.Attribute a1 "web" p1)) pos1.line X.env=pure false:=by rfl) (u:Q0q e2 (some (.Attribute a2 "heap" p2)) pos2.line X.env=pure false:=by rfl) (j:Q0q e3 (some (.Attribute a3 "past" p3)) pos3.line X.env=pure false:=by rfl) :
 SI X [.Assign [.Attribute a1 "web" p1] e1 pos1,.Assign [.Attribute a2 "heap" p2] e2 pos2,.Assign [.Attribute a3 "past" p3] e3 pos3]:=by
 obtain⟨h,x,t⟩:=p
 obtain⟨q,o,i⟩:=n
 obtain⟨w,v,g⟩:=l
 refine⟨h,q,w,xy (qg b1 x r) (xy (qg b2 o u) (Yf (qg b3 v j))),fun σ ρ F H d Q s a e=>?_,fun σ ρ F H d Q s a e=>?_,fun σ ρ F H d Q s a e=>?_⟩
 .exact t σ ρ F H d Q s a ((y ρ).trans e)
 .exact i σ ρ F H d Q s a ((k ρ).trans e)
 .exact g σ ρ F H d Q s a ((m ρ).trans e)
def kx {F H F' H':Hp}(g:Gr F H F' H')(d:F x=none)(c:H x≈(.ins KK.dk b a)):F' x=none/\H' x≈(.ins KK.dk b a):=g.kl (λ_ z=>by cases z) d c
def zqF {P:zO} {w:Q0k} {K:zA} {T:wA} {j:Heap} {nm a:Str} {u:Stmt} {f:Addr} {U:vv} {k:Nat} (Fu:cg K nm a u f U) (S:yZ ["self"] ["self"] (zo u)) (c:lA K KK.dk)
 (hb:∀ (g:Q0e) (A:zP) (outer:List Env) (s:zm) (H:Hp) (E:XK),xH k (A.deeper (Q0p a (zo u) ⇑s f g))->SI (ZR aV P w K T j ["self"] a (zo u) f g A outer s H E).nox (ym u)) :
 wt P w K T j aV (k+1) f U ["self"] Dg:=by
 refine Fu.ok S (λvs H Q E h=>?_) λg A outer s H vs Q E hr h=>?_
 .obtain⟨x,r,F,rfl,_⟩:=h
  rfl
 obtain⟨x,r,F,rfl,sm,fx,hx,kk⟩:=h
 obtain⟨t1,t2,t3,p,r1,Z,r3⟩:=hb g A outer s H E hr
 refine⟨_,p,?_⟩
 have L:∀ (G:Hp) (σ:L2.St),cI G [] σ:=λG σ i d e=>by simp at e
 refine r1 _ [] F H w0 _ sm (L _ _) rfl λF1 H1 M y b1=>?_
 obtain⟨m,I⟩:=kx y fx hx
 refine⟨_,rfl,x,_,r,[],rfl,I,c.cl,c.nW,by decide,?_⟩
 have s1:zZ F1 (aA H1 x (.ins KK.dk r (cB "web" M []))):=λb o e=>by
  rw[zj (zf e m)]
  exact y.fh b o e
 refine Z _ [] F1 _ h0 _ s1 (L _ _) rfl λF2 H2 W n b2=>?_
 obtain⟨l,O⟩:=kx n m zn
 refine⟨_,rfl,x,_,r,_,rfl,O,c.cl,c.nH,by show 1<1000;decide,?_⟩
 have s2:zZ F2 (aA H2 x (.ins KK.dk r (cB "heap" W (cB "web" M [])))):=λb o e=>by
  rw[zj (zf e l)]
  exact n.fh b o e
 refine r3 _ [] F2 _ [] _ s2 (L _ _) rfl λF3 H3 q xs B C V D al=>?_
 obtain⟨t,N⟩:=kx B l zn
 refine⟨_,rfl,x,_,r,_,rfl,N,c.cl,c.nP,by show 2<1000;decide,?_⟩
 have J:q≠x:=λz=>by
  rw[z,zn]at C
  cases C
 have R:H2 q=none:=by rw[zj J]at C;exact C
 have v:=iz n R
 have X:H1 q=none:=by rw[zj J]at v;exact v
 have q0:=iz y X
 have Y:F2 q=none:=n.fh.free R
 have z1:F1 q=none:=y.fh.free X
 have G1:=Gr.offs y m z1
 have G2:=Gr.offs n l Y
 have G3:=Gr.offs B t V
 rw[Z6]at G2 G3
 refine kk F3 _ q q0 ?_ ⟨⟨M,W,xs,zn,?_,b1.mono (n.ff.trans B.ff),b2.mono B.ff,al⟩,t,V⟩
 .rw[Z6]
  exact(G1.trans G2).trans G3
 .rw[zj J]
  exact D
def Ex (i:Nat):zM:=fun ρ=>if (ρ.set i .no).all (λs=>!s.isK) then .nx (ρ.set i (.k w0 h0 ⟨none,[]⟩))else .no
def Rl.newK {H:Hp}{ρ:SE}{σ:L2.St}{w:D}(r:Rl Fb Hb F H ρ σ)(nk:(ρ.set i .no).all (λs=>!s.isK)=true)(I:H x=none)(Y:H p=none)(K:H q=none)(a0:p≠x)(hq:q≠p)(g:Gr F (bw x q (aA (aA H p (.own x)) x (.ins KK.dk p []))) F' (bw x q H'))(d:cY F' H' x p q w h []):Rl Fb Hb F' H' (ρ.set i (.k w h ⟨none,[]⟩)) (σ.set i (some (.ref x))):=by
 obtain⟨N,P,xs,R,J,a1,a2,a3⟩:=d.ex
 have B:∀ {b:Addr} {o:HO},H b≈o->bw x q (aA (aA H p (.own x)) x (.ins KK.dk p [])) b≈o:=λ{b o} e=>by
  have U:=zf e I
  have Z:=zf e Y
  have n3:=zf e K
  rw[mG U n3,zj U,zj Z]
  exact e
 have Q:∀ {j:Nat} {s:Sl},j≠i->ρ[j]?≈s->s.isK=false:=λ{j s} c e=>by
  have:=l5.mp nk s (k6 (i:=j) (by rw[u9 (bh c)];exact e))
  cases G:s.isK with
  |false=>rfl
  |true=>rw[G]at this;cases this
 have f:∀ {s:Sl},(ρ.set i (.k w h ⟨none,[]⟩))[i]?≈s->i<ρ.length/\s=.k w h ⟨none,[]⟩:=λ{s} h=>by
  rw[fY]at h
  simp only[dD]at h
  split at h
  .rename_i m
   cases h
   exact⟨m,rfl⟩
  .cases h
 have k:i<ρ.length->(σ.set i (some (V.ref x)))[i]?≈(some (.ref x)):=λm=>by
  rw[fY]
  simp[<-r.len,m]
 have n:∀ {j:Nat} {s:Sl} {a:Addr},ρ[j]?≈s->s.isO=true->σ[j]?≈(some (.ref a))->a≠x/\a≠q:=λ{j s a} e1 e2 e3=>by
  obtain⟨a',o,O,_,_,W,_⟩:=r.ows j s e1 e2
  rw[e3]at O
  cases O
  exact⟨zf W I,zf W K⟩
 refine⟨⟨r.gr.ff.trans g.ff,zZ.on g.fh,λb o e1 e2=>?_⟩,λj d' h=>?_,λj s h L=>?_,λj l a s t e1 e2 T S e3 u=>?_,by simp[r.len],λj w2 a4 X h=>?_⟩
 .obtain⟨A,k2⟩:=r.gr.kp b o e1 e2
  rcases A with A|⟨A,k3⟩
  .obtain⟨C,E⟩:=g.kp b o A (B k2)
   exact⟨C,(vH E).2.2⟩
  .have y:=g.ff _ _ k3
   exact⟨.inr ⟨A,y⟩,zZ.on g.fh _ _ y⟩
 .by_cases c:i=j
  .subst c
   cases (f h).2
  .rw[u9 c]at h ⊢
   obtain⟨v,C,E⟩:=r.vals j d' h
   exact⟨v,C,E.mono g.ff⟩
 .by_cases c:i=j
  .subst c
   obtain⟨m,rfl⟩:=f h
   exact⟨x,_,k m,r.notbase I,d.fx,R,p,N,P,q,rfl,a1,a2⟩
  .rw[u9 c]at h ⊢
   obtain⟨a,o,C,E,y3,y4,M⟩:=r.ows j s h L
   obtain⟨u1,u2⟩:=g.kl M.ntup y3 (B y4)
   exact⟨a,o,C,E,u1,(vH u2).2.2,M.mono g.ff⟩
 .by_cases c:i=j
  .subst c
   by_cases m:i=l
   .exact m
   .obtain⟨z,_⟩:=f e1
    rw[k z]at e3
    cases e3
    rw[u9 m]at e2 u
    exact absurd rfl (n e2 S u).1
  .by_cases m:i=l
   .subst m
    obtain⟨z,_⟩:=f e2
    rw[k z]at u
    cases u
    rw[u9 c]at e1 e3
    exact absurd rfl (n e1 T e3).1
   .rw[u9 c]at e1 e3
    rw[u9 m]at e2 u
    exact r.dis j l a s t e1 e2 T S e3 u
 .by_cases c:i=j
  .subst c
   obtain⟨m,e⟩:=f h
   cases e
   refine⟨x,p,q,N,P,xs,k m,R,r.notbase K,d.fq,J,a3,λj s h L=>?_,λj s h G=>?_,λ_ z=>by cases z⟩
   .by_cases c:i=j
    .subst c
     rw[k m]
     intro z
     cases z
     exact d.ne rfl
    .rw[u9 c]at h ⊢
     intro z
     exact(n h L z).2 rfl
   .by_cases c:i=j
    .exact c.symm
    .rw[u9 c]at h
     rw[Q (bh c) h]at G
     cases G
  .rw[u9 c]at h
   have:=Q (bh c) h
   cases this
def znS {i k:Nat} {f:Addr} {pos2:Pos} (M:Mk X.K KK.dk f) (F:wt X.prog X.w X.K X.mg X.base aV k f u ["self"] Dg) (K:xH (k+1) X.A) (D:Gl X h) (B:X.mg h≈(.ref KK.dk)) (G:vf X.K u ["self"] []) (C:X.N.Nodup) (w:X.N[i]?≈x) (A:eF X.env.scope x) (I:Q0q (.Call (.Name h v) [] [] pos2) (some (.Name x pos')) pos.line X.env=pure false:=by rfl) (J:X.fn x=true\/X.env.scope.names.lookup x≈.local:=by first | exact .inl rfl | exact .inr rfl | assumption) (p:(h == ("__debug__":Str))=false:=by decide):SD X (.Assign [.Name x pos'] (.Call (.Name h v) [] [] pos2) pos) (Ex i):=by
 refine⟨_,YE C w A (zkZ (E:=λ_ _ _=>False) M F K D B G .nil pI p) I J,λFb Hb F H ρ σ E m l=>?_⟩
 unfold Ex at l
 split at l
 .rename_i y
  intro a j n s r
  have e1:zZ F (aA (aA H j (.own a)) a (.ins KK.dk j [])):=λb o e=>by
   have z:=m.gr.fh b o e
   rw[zj (zf z n),zj (zf z s)]
   exact z
  refine⟨a,j,F,rfl,e1,m.gr.fh.free n,zn,λF' H' q c g d=>⟨rfl,?_⟩⟩
  have L:q≠a:=λz=>by rw[z,zn]at c;cases c
  rw[zj L]at c
  have t:q≠j:=λz=>by rw[z,zn]at c;cases c
  rw[zj t]at c
  exact l F' H' _ (m.newK y n s c r t g d)
 .exact l.elim
end
section
variable [KK]{X:Cx}{a b o e:Expr}{es:y0}{p apos pos pos' pos2:Pos}{f:zW}{fa:yL}{m:Str}
abbrev KV:=D->D->zl->zl->Option (D × D × D × zl)
def RK (t:TE)(f:SE->Option (D × SE)):Prop:=∀ (Fb Hb F H:Hp) (ρ:SE) (σ:L2.St) (Q:VK) (d:D) (a:SE),Rl Fb Hb F H ρ σ->f ρ≈(d,a)->(∀ F' H' v,zZ F F'->Rl Fb Hb F' H' a σ->At F' d v->Q v H')->t σ H Q
def KT (X:Cx)(e:Expr)(f:SE->Option (D × SE)):Prop:=∃ t,PT X e (lR t)/\RK t f
end
section
variable [KK]
variable {Fb Hb O F H F' H':Hp}
open Classical in
noncomputable def frz (O F:Hp):Hp:=λp=>match F p with
 |some o=>some o
 |none=>O p
variable {x dx q:Addr}{c:D × D × zl}
def DkO (O F:Hp)(x dx q:Addr)(c:D × D × zl):Prop:=∃ a d b,O x≈(.ins KK.dk dx (bT a d q))/\O q≈(.lst b)/\At F c.1 a/\At F c.2.1 d/\ao F c.2.2 b
structure gM (O F:Hp) (ad dx:Nat->Addr) (c:Nat->D × D × zl) (Rs As:Nat->zl):Prop where
 inj:∀ i j,i<11->j<11->ad i=ad j->i=j
 hD:O (ad 4)≈(.lst [.ref (ad 0),.ref (ad 2)])
 hR:O (ad 7)≈(.lst [.ref (ad 5),.ref (ad 6)])
 hS:O (ad 10)≈(.lst [.ref (ad 8),.ref (ad 9)])
 dk:∀ i,i<2->DkO O F (ad (2*i)) (dx i) (ad (2*i+1)) (c i)
 rw:∀ i,i<2->∃ vs,O (ad (5+i))≈(.lst vs)/\ao F (Rs i) vs
 an:∀ i,i<2->∃ vs,O (ad (8+i))≈(.lst vs)/\ao F (As i) vs
variable {ad dxs:Nat->Addr}{cs:Nat->D × D × zl}{Rs As:Nat->zl}
end
def zbW:vq X (.type "str") (λb H Q=>(∃ i,b=[.int i]/\i.natAbs.log2<1920/\Q (.str (toString i)) H)\/∃ x,b=[.str x]/\Q (.str x) H):=by
 intro a s σ H b c Q I r h
 rcases h with h|⟨x,rfl,q⟩
 .exact zp a s σ H b c Q I r h
 .obtain⟨u,rfl,t,rfl⟩:=Zj r
  exact PySem.P.str_of_str ⟨.str x,H,I,⟨_,rfl⟩,q⟩
def uI:x9
 |[.str x]=>some (.str x)
 |ds=>wk ds
def zkv [KK]:dm (λb H Q=>(∃ i,b=[.int i]/\i.natAbs.log2<1920/\Q (.str (toString i)) H)\/∃ x,b=[.str x]/\Q (.str x) H) uI:=by
 intro F H f e z Q s a h q
 unfold uI at h
 split at h
 .cases h
  obtain⟨y,r,rfl,c,d⟩:=a.cons_inv
  cases d.nil_inv
  exact .inr ⟨_,by rw[c.str_inv],q F H _ (.refl s) .str⟩
 .exact .inl (zX F H f e z Q s a h q)
section
variable [KK]{E:XK}{cl:Nat->Addr}{X:Cx}{e:Expr}{es:y0}{pos:Pos}
def K6 (n:Gl X x) (m:X.mg x=none) (o:Q0j x≈(.type T)) (g:XA E cl X (e::es) c) (k:x≠"__name__":=by decide) (b:(x == ("__debug__":Str))=false:=by decide) (l:Q0c (e::es) X.env=(false,eval e X.env)::Q0c es X.env:=by rfl) (a:(Q0v pos (Q0c es X.env)).any (·.1)=false:=by rfl):XE E cl X (.Call (.Name x p) (e::es) [] pos) c:=by
 obtain⟨t,i,d⟩:=g
 exact⟨_,W4 (r:=λ_ _ _=>False) (λ_ _ _ _ _ _ _ _ _ h=>h.elim) n m o i k b l a,fun σ ρ F0 H j Q s f e w=>d σ ρ F0 H j _ s f e w⟩
end
end Dl
namespace Dl
open PySem L2
structure gk where
 x:Str
 ps:zF
 ex:zF
 st:Stmt
abbrev gk.N (r:gk):zF:=r.ps++r.ex
def gk.scB (r:gk):Bool:=decide ((zo r.st).kind=.function/\(zo r.st).isCoroutine=false/\(zo r.st).isGenerator=false/\r.N.Nodup/\(∀ x∈r.ps,(zo r.st).names.lookup x≈.local\/(zo r.st).names.lookup x≈.cell)/\∀ y∈(zo r.st).names,y.2≠.free)
def gk.sc {r:gk}(h:r.scB=true):yZ r.N r.ps (zo r.st):=by
 obtain⟨a,b,c,d,e,f⟩:=j8 h
 exact⟨a,b,c,d,List.take_left' rfl,e,f⟩
def Qm {α:Type}{p:α->Prop}{l:List α}{d:α}(h:∀ x∈l,p x)(a:p d)(i:Nat):p (l.getD i d):=by
 rw[p5]
 cases e:l[i]? with
 |none=>exact a
 |some y=>exact h y (k6 e)
def Dx (K:zA)(d:wA)(b:Zg)(r:gk):Prop:=∃ f a,jG K d r.x r.st r.ps f a/\∀ c,b.lookup r.x≈c->a.code=.ref c
structure KR (b:Bool):Prop where
 h:b=true
structure UR {α:Type} (a b:α):Prop where
 h:a=b
def sE {l:zF}(h:decide l.Nodup=true):l.Nodup:=j8 h
section
variable [KK]{X:Cx}{x:Str}{elt iter c:Expr}{tp:Pos}{scope:Scope}{cl:Zg}{pos:Pos}{fi:yL}{ft:vL}{fe:zW}{rn dn:List (Str × NameKind)}{cn N:zF}
def T6 (n:KR (decide (x::X.N).Nodup))(m:X.calm=true)(h:ID X (.Name x tp) iter fi)(f:(Q0S scope X.env).names=rn)(d:X.env.scope.names=dn)(c:X.N=N)(b:UR (Q1F scope X.env) (pure cl))(k:scope.kind=.function)(g:cl.map Q2O=cn)(o:KR (Ze scope.names rn dn N X.N cn))(e:∀ p∈cl,X.env.cells.lookup p.1≈p.2)
 (a:∀ s₀ H₀ ex pn,eF (WK X [x] X.N scope cl s₀ H₀ ex pn).env.scope x/\(WK X [x] X.N scope cl s₀ H₀ ex pn).env.scope.names.lookup x≈.local) (j:∀ s₀ H₀ ex pn,ED (WK X [x] X.N scope cl s₀ H₀ ex pn) elt fe)
 (l:∀ x,Q0m iter X.env x=pure x):FL X (.ListComp elt [⟨.Name x tp,iter,[],0⟩] scope pos) (aL fi b1 yN fe) :=
 Yt (L:=[x]) (M:=X.N) m (wy f d c b.h k g o.h e) h dI dF (λ_ _ _ _=>zT (i:=0) (sE n.h) rfl (a _ _ _ _).1 (.inr (a _ _ _ _).2)) j l
def Ui (q:KR (decide (x::X.N).Nodup))(o:X.calm=true)(k:ID X (.Name x tp) iter fi)(h:(Q0S scope X.env).names=rn)(f:X.env.scope.names=dn)(e:X.N=N)(b:UR (Q1F scope X.env) (pure cl))(m:scope.kind=.function)(j:cl.map Q2O=cn)(r:KR (Ze scope.names rn dn N X.N cn))(g:∀ p∈cl,X.env.cells.lookup p.1≈p.2)
 (a:∀ s₀ H₀ ex pn,eF (WK X [x] X.N scope cl s₀ H₀ ex pn).env.scope x/\(WK X [x] X.N scope cl s₀ H₀ ex pn).env.scope.names.lookup x≈.local) (d:∀ s₀ H₀ ex pn,TD (WK X [x] X.N scope cl s₀ H₀ ex pn) c ft) (l:∀ s₀ H₀ ex pn,ED (WK X [x] X.N scope cl s₀ H₀ ex pn) elt fe)
 (n:∀ x,Q0m iter X.env x=pure x):FL X (.ListComp elt [⟨.Name x tp,iter,[c],0⟩] scope pos) (aL fi b1 ft fe) :=
 Fx (L:=[x]) (M:=X.N) o (wy h f e b.h m j r.h g) k dI dF (λ_ _ _ _=>zT (i:=0) (sE q.h) rfl (a _ _ _ _).1 (.inr (a _ _ _ _).2)) d l n
end
def Jr [KK]{f:vL}(h:WD X (.BoolOp op es pos) f):TD X (.BoolOp op es pos) f:=oK h
def zjZ [KK] {X:Cx} {w:Q0k} {k:Nat} {f:Addr} (F:wt P w K mg base aV j f fd ps (cH m p)) (hr:xH k X.A) (hj:j<=k) (d:jG K mg x st ps f fd) (hX:X.prog=P/\X.w=w/\X.K=K/\X.mg=mg/\X.base=base) (hg:Gl X x) (ha:AD X (e::es) fa) (hdb:(x == ("__debug__":Str))=false) (he:Q0c (e::es) X.env=(false,eval e X.env)::Q0c es X.env) (hpl:(Q0v pos (Q0c es X.env)).any (·.1)=false) :
 ED X (.Call (.Name x pp) (e::es) [] pos) (zi m p fa):=by
 obtain⟨rfl,rfl,rfl,rfl,rfl⟩:=hX
 exact zq F hr hg d ha hj hdb he hpl
def Dx_cons (h:Dx K b a r)(t:∀ r∈c,Dx K b a r):∀ d∈r::c,Dx K b a d:=List.forall_mem_cons.mpr ⟨h,t⟩
def Z_cons (h:Q0L K Q0h x≈none)(t:∀ y∈l,Q0L K Q0h y≈none):∀ y∈x::l,Q0L K Q0h y≈none:=List.forall_mem_cons.mpr ⟨h,t⟩
def mkX {K:zA}{h:Heap}{g:Zg}{n ex:zF}{f:Addr}{t kV:Q0e}{w:Array (Option Q0e)}(X:K.In h)(G:h.Ns Q0h s)(a:Q0L K Q0h x≈(some (.ref f)))(l:K.lookup f≈⟨t,v,.func (Q11 x x (wL d) (ym d) (zo d) .none kV dc j m i ct),w⟩)(c:Q15 K i x=true)(k:Q0H K (.ref f)=true)(b:∀ (kV o j:Q0e) (m:y1) (p ct:Q0e) (q:zC),↥q=↥n->bindArgs (Q11 x x (wL d) (ym d) (zo d) .none kV o j m p ct) ⟨q,[]⟩=pure (n.zip q))(e:g.lookup x=none\/∃ c,g.lookup x≈c/\i=.ref c):Dx K s g ⟨x,n,ex,d⟩ :=
 ⟨f,Q11 x x (wL d) (ym d) (zo d) .none kV dc j m i ct,⟨mC l c k,(mC l c k).binds b,p0 X G a⟩,λc h=>by
  rcases e with e|⟨u,e,r⟩
  .rw[show g.lookup x=none from e]at h;cases h
  .rw[show g.lookup x≈u from e]at h;cases h;exact r⟩
def zjh {f:Addr}(F:cg K x q c f e)(h:∀ (kV b d:Q0e) (g:y1) (a ct:Q0e),bindArgs (Q11 x q (wL c) (ym c) (zo c) .none kV b d g a ct) ⟨[v],[]⟩=pure [(y,v)]):Q1T s e ⟨[v],[]⟩ [(y,v)]:=by
 obtain⟨j,k,kV,b,d,g,a,ct,i,rfl,_,_⟩:=F.ex
 exact .of_eq (h _ _ _ _ _ _)
section
variable [KK]{E:XK}{cl:Nat->Addr}{X:Cx}{e:Expr}{es:y0}{st:Stmt}{sts:vu}{pos:Pos}{fx:eN}
def KY {g:zM}(e:XS E cl X st b)(c:SD X.nox st g)(d:eZ E cl X sts a):eZ E cl X (st::sts) (dO b g a):=wX e (SD.nox c) d
def HN (h:XE E cl X e fx)(a:Q0q e none pos.line X.env=pure false):XS E cl X (.Expr e pos) (iG fx):=znv h a
def zkA {w:Q0k} {k:Nat} {f:Addr} {st:Stmt} (F:wt P w K b a (bD P w) j f i h (nM cl m r)) (t:vr (bD X.prog X.w) X E) (u:xH k X.A) (o:j<=k) (d:jG K b x st h f i) (s:X.prog=P/\X.w=w/\X.K=K/\X.mg=b/\X.base=a) (v:Gl X x) (p:AD X (e::es) l) (g:(x == ("__debug__":Str))=false) (q:Q0c (e::es) X.env=(false,eval e X.env)::Q0c es X.env) (c:(Q0v pos (Q0c es X.env)).any (·.1)=false):XE E cl X (.Call (.Name x n) (e::es) [] pos) (jn m r l):=by
 obtain⟨rfl,rfl,rfl,rfl,rfl⟩:=s
 exact Vo (F.mono o) t u v d.at_ d.kp d.bd p g q c
end
end Dl
namespace Mz
open PySem L2 Dl
def Q4:gV:=[("web",1),("row",1),("ring",1),("cube",1),("full",1),("star",1),("tie",2),("cut",2),("put",2),("step",2),("back",0)]
def zV:gV:=[("heap",0),("ties",0),("steps",0),("far",2),("most",1),("reached",0),("need",1),("shown",0)]
def aO (i:Nat):Stmt:=PySem.Challenge.pw_twoforone_k93_desk_asked.main.body.getD i (.Pass ⟨0,0,0,0⟩)
def rows:List gk:=[⟨"is_whole",["thing"],[],aO 18⟩,
 ⟨"is_whole_within",["thing","least","most"],[],aO 19⟩,
 ⟨"must_be_within",["thing","least","most"],[],aO 20⟩,
 ⟨"must_be_at_most",["many","most"],[],aO 21⟩,
 ⟨"is_place_count",["thing"],[],aO 22⟩,
 ⟨"is_place",["many","thing"],[],aO 23⟩,
 ⟨"are_counts",["many","thing"],[],aO 24⟩,
 ⟨"is_pair",["many","thing"],[],aO 26⟩,
 ⟨"are_ties",["many","thing"],["at","tie"],aO 27⟩,
 ⟨"is_web",["thing"],[],aO 28⟩,
 ⟨"must_be_web",["thing"],[],aO 29⟩,
 ⟨"must_be_place",["web","thing"],[],aO 30⟩,
 ⟨"tie_between",["one","other"],[],aO 31⟩,
 ⟨"web_of",["many","things"],["told","at","thing","tie"],aO 32⟩,
 ⟨"neighbours",["web","place"],[],aO 33⟩,
 ⟨"ties_away",["web","start"],["away","rim","further","place","other"],aO 34⟩,
 ⟨"far",["web","one","other"],[],aO 35⟩,
 ⟨"pieces",["web"],["found","start","away","piece"],aO 36⟩,
 ⟨"is_joined",["web"],[],aO 37⟩,
 ⟨"are_stones",["web","thing"],[],aO 39⟩,
 ⟨"must_be_heap",["web","thing"],[],aO 40⟩,
 ⟨"all_steps",["web"],["found","place"],aO 42⟩,
 ⟨"steps_from",["web","heap"],[],aO 43⟩,
 ⟨"stepped",["heap","step"],["stones"],aO 44⟩,
 ⟨"heaps_behind",["web","heap"],["steps","found","rim","further","now","step","then"],aO 49⟩,
 ⟨"most_at",["web","heap","place"],[],aO 50⟩,
 ⟨"reached",["web","heap"],["found"],aO 51⟩,
 ⟨"must_be_counted",["web"],[],aO 62⟩,
 ⟨"must_be_wanted",["web","place","m"],[],aO 63⟩,
 ⟨"grown",["heap"],["last"],aO 64⟩,
 ⟨"leads_to",["heap","steps","level"],["step"],aO 65⟩,
 ⟨"level_above",["level","steps","place","m"],["above","heap","more"],aO 66⟩,
 ⟨"failing_levels",["web","place","m","most"],["steps","levels","level"],aO 67⟩,
 ⟨"all_failing",["web","place","m"],[],aO 68⟩,
 ⟨"need",["web","place","m"],[],aO 69⟩,
 ⟨"written",["word","numbers"],[],aO 72⟩,
 ⟨"shown",["web","heap"],["ties"],aO 73⟩,
 ⟨"number_written",["word"],[],aO 74⟩,
 ⟨"parsed",["row"],["words","numbers","wanted"],aO 78⟩,
 ⟨"bare",["web"],[],aO 79⟩,
 ⟨"tied",["web","one","other"],[],aO 80⟩,
 ⟨"put",["web","heap","place","stones"],["more"],aO 82⟩,
 ⟨"after",["web","heap","word","numbers"],[],aO 84⟩,
 ⟨"listed",["words"],[],aO 85⟩,
 ⟨"paired",["pairs","sign"],[],aO 86⟩,
 ⟨"answer",["web","heap","word","numbers"],["told"],aO 87⟩,
 ⟨"_law_kinds",["e"],["found"],aO 90⟩,
 ⟨"_law_pairs",["many"],["found","a"],aO 91⟩,
 ⟨"_law_stir",["cell","k"],["number"],aO 92⟩,
 ⟨"_law_web_by",["many","cell"],["ties","k","tie"],aO 93⟩,
 ⟨"_law_joined_by",["many","cell"],["ties","k","tie"],aO 94⟩,
 ⟨"_law_heap_by",["many","cell","most"],["left","heap","digits","k","stones"],aO 95⟩,
 ⟨"_law_same",["found","due"],["one","other"],aO 96⟩,
 ⟨"_law_text",["web","heap","between"],["rows","a","b"],aO 97⟩,
 ⟨"_law_words",["things"],[],aO 98⟩,
 ⟨"_law_need",["web","place"],["e","found"],aO 99⟩,
 ⟨"_law_said",["desk","row"],["e","found"],aO 100⟩,
 ⟨"_law_desk",["web","heap"],["desk","a","b","place","stones"],aO 101⟩,
 ⟨"law",["script"],["cell","many","web","heap","desk","turn","place","other","ties","due"],aO 102⟩]
def Rw (i:Nat):gk:=rows.getD i ⟨"law",["script"],["cell","many","web","heap","desk","turn","place","other","ties","due"],aO 102⟩
def sc (i:Nat):yZ (Rw i).N (Rw i).ps (zo (Rw i).st):=gk.sc (Qm (p:=λr:gk=>r.scB=true) (by decide +kernel) (by decide +kernel) i)
abbrev yx:Stmt:=Aa (aO 88) 0
def WA:yZ ["self"] ["self"] (zo yx):=⟨rfl,rfl,rfl,by decide +kernel,rfl,by decide +kernel,by decide +kernel⟩
abbrev x6:Stmt:=Aa (aO 88) 1
def yP:yZ ["self","row","told","word"] ["self","row"] (zo x6):=⟨rfl,rfl,rfl,by decide +kernel,rfl,by decide +kernel,by decide +kernel⟩
abbrev xk:Stmt:=Aa (aO 88) 2
def zbp:yZ ["self","state"] ["self","state"] (zo xk):=⟨rfl,rfl,rfl,by decide +kernel,rfl,by decide +kernel,by decide +kernel⟩
abbrev xb:Stmt:=Aa (aO 88) 3
structure cJ where
 f:Nat->Addr
 e:Nat->Q1I
 s_DEEDS:Addr
 s_QUESTIONS:Addr
 dk:Addr
 f_Desk___init__:Addr
 e_Desk___init__:Q1I
 f_Desk_say:Addr
 e_Desk_say:Q1I
 f_Desk_go_on:Addr
 e_Desk_go_on:Q1I
 f_Desk_go_back:Addr
 e_Desk_go_back:Q1I
 t_MOST_PLACES:Tok
 t_MOST_STONES:Tok
 t_MOST_FIGURES:Tok
 t_MOST_SEARCHED:Tok
 t_MOST_WANTED:Tok
 t_MOST_COUNTED:Tok
 x_NoWeb:Addr
 x_NoKind:Addr
 x_NoHeap:Addr
 x_NoPlace:Addr
 x_NoNumber:Addr
 x_NoTally:Addr
 x_NotTree:Addr
 x_NotJoined:Addr
 x_NoWeights:Addr
 x_NoRow:Addr
 x_NoSteps:Addr
 x_NoText:Addr
 x_TooGreat:Addr
 x_StoneError:Addr
def oR (a:cJ):xt:=[a.x_NoWeb,a.x_NoKind,a.x_NoHeap,a.x_NoPlace,a.x_NoNumber,a.x_NoTally,a.x_NotTree,a.x_NotJoined,a.x_NoWeights,a.x_NoRow,a.x_NoSteps,a.x_NoText,a.x_TooGreat]
def cR (a:cJ)(j:Nat):Addr:=(oR a).getD (j%16) 0
def uh (a:cJ)(j:Nat):cR a j=cR a (j%16):=by unfold cR;rw[Nat.mod_mod]
def zs:zF:=["ValueError","all","any","bool","enumerate","int","isinstance","len","list","max","min","range","sorted","str","sum","tuple","zip"]
structure Txt (P:zO) (w:Q0k) (K:zA) (mg:wA) (base:Heap) (ad:cJ):Prop where
 d:∀ i,jG K mg (Rw i).x (Rw i).st (Rw i).ps (ad.f i) (ad.e i)
 z:∀ x∈zs,mg x=none
 g_DEEDS:mg "DEEDS"≈(Q0f ad.s_DEEDS)
 b_DEEDS:∀ h:Heap,K.In h->Q1E h ad.s_DEEDS (ZK Q4)
 g_QUESTIONS:mg "QUESTIONS"≈(Q0f ad.s_QUESTIONS)
 b_QUESTIONS:∀ h:Heap,K.In h->Q1E h ad.s_QUESTIONS (ZK zV)
 g_Desk:mg "Desk"≈(Q0f ad.dk)
 dkc:lA K ad.dk
 mkd:Mk K ad.dk ad.f_Desk___init__
 mf_Desk___init__:cg K "__init__" "Desk.__init__" yx ad.f_Desk___init__ ad.e_Desk___init__
 mb_Desk___init__:vf K ad.e_Desk___init__ ["self"] []
 mf_Desk_say:cg K "say" "Desk.say" x6 ad.f_Desk_say ad.e_Desk_say
 mb_Desk_say:vf K ad.e_Desk_say ["self","row"] []
 mm_Desk_say:je K ad.dk "say" ad.f_Desk_say
 mf_Desk_go_on:cg K "go_on" "Desk.go_on" xk ad.f_Desk_go_on ad.e_Desk_go_on
 mb_Desk_go_on:vf K ad.e_Desk_go_on ["self","state"] []
 mm_Desk_go_on:je K ad.dk "go_on" ad.f_Desk_go_on
 mf_Desk_go_back:cg K "go_back" "Desk.go_back" xb ad.f_Desk_go_back ad.e_Desk_go_back
 mb_Desk_go_back:vf K ad.e_Desk_go_back ["self"] []
 mm_Desk_go_back:je K ad.dk "go_back" ad.f_Desk_go_back
 g_MOST_PLACES:mg "MOST_PLACES"≈(Q03 8 ad.t_MOST_PLACES)
 g_MOST_STONES:mg "MOST_STONES"≈(Q03 300 ad.t_MOST_STONES)
 g_MOST_FIGURES:mg "MOST_FIGURES"≈(Q03 3 ad.t_MOST_FIGURES)
 g_MOST_SEARCHED:mg "MOST_SEARCHED"≈(Q03 12 ad.t_MOST_SEARCHED)
 g_MOST_WANTED:mg "MOST_WANTED"≈(Q03 3 ad.t_MOST_WANTED)
 g_MOST_COUNTED:mg "MOST_COUNTED"≈(Q03 6 ad.t_MOST_COUNTED)
 g_NoWeb:mg "NoWeb"≈(Q0f ad.x_NoWeb)
 g_NoKind:mg "NoKind"≈(Q0f ad.x_NoKind)
 g_NoHeap:mg "NoHeap"≈(Q0f ad.x_NoHeap)
 g_NoPlace:mg "NoPlace"≈(Q0f ad.x_NoPlace)
 g_NoNumber:mg "NoNumber"≈(Q0f ad.x_NoNumber)
 g_NoTally:mg "NoTally"≈(Q0f ad.x_NoTally)
 g_NotTree:mg "NotTree"≈(Q0f ad.x_NotTree)
 g_NotJoined:mg "NotJoined"≈(Q0f ad.x_NotJoined)
 g_NoWeights:mg "NoWeights"≈(Q0f ad.x_NoWeights)
 g_NoRow:mg "NoRow"≈(Q0f ad.x_NoRow)
 g_NoSteps:mg "NoSteps"≈(Q0f ad.x_NoSteps)
 g_NoText:mg "NoText"≈(Q0f ad.x_NoText)
 g_TooGreat:mg "TooGreat"≈(Q0f ad.x_TooGreat)
 g_StoneError:mg "StoneError"≈(Q0f ad.x_StoneError)
 c_NotJoined:W.excIn K ad.x_NotJoined JV "ValueError.__new__"=true
 y_NotJoined:Al K (oR ad) ad.x_StoneError ad.x_NotJoined 7=true
def Tw:(["step","web","heap","steps","found","rim","further","now","·step","then"]:zF).Nodup:=by decide +kernel
def Uo:(["place","web","heap","found"]:zF).Nodup:=by decide +kernel
def TY:(["other","place","web","heap","found"]:zF).Nodup:=by decide +kernel
def LK:(["place","stones","heap","last"]:zF).Nodup:=by decide +kernel
def zpq:(["number","word","numbers"]:zF).Nodup:=by decide +kernel
def zqO:(["tie","web","heap","ties"]:zF).Nodup:=by decide +kernel
def zqS:(["sign","word"]:zF).Nodup:=by decide +kernel
def zqo:(["part","row","words","numbers","wanted"]:zF).Nodup:=by decide +kernel
def Li:(["place","web","heap","word","numbers","told"]:zF).Nodup:=by decide +kernel
def Nj:(["stones","web","heap","word","numbers","told"]:zF).Nodup:=by decide +kernel
def zqA:(["stones","web","heap","between","rows","a","b"]:zF).Nodup:=by decide +kernel
def zqc:(["thing","things"]:zF).Nodup:=by decide +kernel
def Aj:(["a","b","script","cell","many","web","heap","desk","turn","place","other","ties","due"]:zF).Nodup:=by decide +kernel
def Txt.at {w:Q0k}{b:cJ}(T:Txt P w K c a b)(h:(Rw i).x=x):jG K c x (Rw i).st (Rw i).ps (b.f i) (b.e i):=h ▸ T.d i
abbrev Txt.Pr {P:zO}{w:Q0k}{K:zA}{c:wA}{a:Heap}{b:cJ}(_:Txt P w K c a b)(i k n:Nat)(p:x9):Prop:=wt P w K c a aV k (b.f i) (b.e i) (Rw i).ps (@cH ⟨K,b.dk⟩ n p)
def Txt.go {P:zO}{w:Q0k}{K:zA}{d:wA}{a:Heap}{b:cJ}(T:Txt P w K d a b){i k:Nat}{g:zM}(h:∀ (c:Q0e) (A:zP) (outer:List Env) (s:zm) (H:Hp) (E:XK),xH k (A.deeper (Q0p (Rw i).x (zo (Rw i).st) ⇑s (b.f i) c))->@bK ⟨K,b.dk⟩ (ZR aV P w K d a (Rw i).N (Rw i).x (zo (Rw i).st) (b.f i) c A outer s H E).nox (ym (Rw i).st) g):T.Pr i (k+1) (Rw i).ps.length (aK (Rw i).N.length g) :=
 letI:KK:=⟨K,b.dk⟩
 Zh (N:=(Rw i).N) (ps:=(Rw i).ps) (T.d i).fn (sc i) (g:=g) h
abbrev Txt.Px {P:zO}{w:Q0k}{K:zA}{c:wA}{a:Heap}{b:cJ}(_:Txt P w K c a b)(i k n:Nat)(p:jJ):Prop:=wt P w K c a (bD P w) k (b.f i) (b.e i) (Rw i).ps (@nM ⟨K,b.dk⟩ (cR b) n p)
def Txt.gx {P:zO}{w:Q0k}{K:zA}{d:wA}{a:Heap}{b:cJ}(T:Txt P w K d a b){i k:Nat}{gx:wV}(h:∀ (c:Q0e) (A:zP) (outer:List Env) (s:zm) (H:Hp) (E:XK),xH k (A.deeper (Q0p (Rw i).x (zo (Rw i).st) ⇑s (b.f i) c))->@eZ ⟨K,b.dk⟩ E (cR b) (ZR (bD P w) P w K d a (Rw i).N (Rw i).x (zo (Rw i).st) (b.f i) c A outer s H E) (ym (Rw i).st) gx):T.Px i (k+1) (Rw i).ps.length (lq (Rw i).N.length gx) :=
 letI:KK:=⟨K,b.dk⟩
 qd (cl:=cR b) (N:=(Rw i).N) (ps:=(Rw i).ps) (T.d i).fn (sc i) (gx:=gx) h
local macro_rules|`(tactic|walk_at "c")=>`(tactic|first
 |rfl
 |assumption
 |decide
 |exact (sc _).nd
 |exact ⟨rfl,rfl,rfl,rfl,rfl⟩
 |exact Or.inl rfl
 |exact Or.inr rfl
 |exact Or.inr (Or.inl rfl)
 |exact Or.inr (Or.inr rfl)
 |exact Txt.at ‹_› rfl
 |exact Txt.z ‹_› _ ⋯
 |exact z5 _
 |exact gF
 |exact Y5
 |exact xH.mono ‹_› ∅
 |exact fun _=>rfl
 |exact fun _ _=>rfl
 |exact ⟨Or.inl rfl,rfl⟩
 |omega
 |exact yI
 |exact all_cons rfl yI
 |exact all_cons rfl (all_cons rfl yI)
 |exact all_cons rfl (all_cons rfl (all_cons rfl yI))
 |exact ZP (v:=.ty "bool") rfl (Txt.z ‹_› _ ⋯) N8 rfl
 |exact ZP (v:=.ty "int") rfl (Txt.z ‹_› _ ⋯) Ga rfl
 |exact ZP (v:=.ty "list") rfl (Txt.z ‹_› _ ⋯) Gi rfl
 |exact ZP (v:=.ty "str") rfl (Txt.z ‹_› _ ⋯) yb rfl
 |exact ZP (v:=.ty "tuple") rfl (Txt.z ‹_› _ ⋯) PX rfl
 |exact Z5 kj Dd Dc Xq ‹_› ‹_›
 |exact Z5 kj PySem.F.slot_list_extend PySem.F.type_list_extend zhi ‹_› ‹_›
 |exact xH.units0 ‹_›
 |with_unfolding_all rfl
 |kernel_rfl)
local macro_rules|`(tactic|walk_at "s")=>`(tactic|repeat' first
 |((with_reducible show @Eq _ _ _);first|rfl|exact Txt.z ‹_› _ ⋯|assumption|exact Mt|exact N8|exact YK|exact Ga|exact XZ|exact Gi|exact MN|exact zqK|exact yb|exact Mh|exact PX|decide|exact z5 _|with_unfolding_all rfl|kernel_rfl)
 |((with_reducible show ED _ _ _);first|(with_reducible first|apply ak|exact zz zE|apply xl|apply yr|apply Q9|exact il Vn|apply Vb|apply pX|apply zq6|apply U9|apply Mx|exact Wo Wh|exact zJ zI|apply Bf|apply zpn|apply Hi|apply zpl|apply zqG|apply zm9|apply zlc|apply zoe|(apply zjZ;· assumption)|apply vp)|apply yF ww Vw|apply zB zbr zgJ|apply Vr (xK ?_) yK|apply yF (Rp ?_) O4|apply yF (zg6 ?_) zll|apply zB zp zX|exact zz (yD (v:=.int 300) rfl (Txt.g_MOST_STONES ‹_›) ⟨_,rfl⟩)|apply Vr VJ Zr|apply Vr Fe yG|apply Vr VZ yG|apply Vr uZ Bm|apply yF (Q8 ?_) Nr|apply yF (zgR ?_) zkF|apply yF (zgT ?_) zka|apply yF zhY zk4|refine zlp VZ VZ yG yG ?_ ?_ ?_ (fun a b c=>zlM VZ VZ a b c)|exact zz (yD (v:=.int 8) rfl (Txt.g_MOST_PLACES ‹_›) ⟨_,rfl⟩)|exact zz (yD (v:=.int 12) rfl (Txt.g_MOST_SEARCHED ‹_›) ⟨_,rfl⟩)|exact zz (yD (v:=.int 6) rfl (Txt.g_MOST_COUNTED ‹_›) ⟨_,rfl⟩)|exact zz (yD (v:=.int 3) rfl (Txt.g_MOST_WANTED ‹_›) ⟨_,rfl⟩))
 |((with_reducible show AD _ _ _);first|(with_reducible first|apply zb|exact ze))
 |((with_reducible show bK _ _ _);first|(with_reducible first|apply Ad|apply Gh|apply zk|apply zv|exact zY|apply Ad|apply Gh|apply Xd))
 |((with_reducible show SD _ _ _);first|(with_reducible first|apply z4|apply xq|apply XF|apply yJ|apply FZ|apply Fo|apply zpH|apply zpL|apply Pb|apply zoo|apply VG|apply Hu|apply zjS|apply Qi|apply Hj))
 |((with_reducible show PG _ _ _);first|(with_reducible first|apply zT))
 |((with_reducible show WD _ _ _);first|(with_reducible first|apply uM|apply Ae|apply Mm|apply Oc))
 |((with_reducible show BD _ _ _);first|(with_reducible first|apply wI|apply Af))
 |((with_reducible show ID _ _ _ _);first|(with_reducible first|apply xY|apply Ri|apply zhV|apply Gq|apply U6|apply Ph))
 |((with_reducible show FL _ _ _);first|(with_reducible first|apply Yr|apply zm6|apply zp4|apply zhR|apply zgf|apply T6|apply Ui))
 |((with_reducible show PE _ _ _);first|(with_reducible first|apply pv))
 |((with_reducible show TD _ _ _);first|(with_reducible first|apply mH|apply Jr)|apply zQ (xK ?_) yK|apply zQ VJ Zr|apply zQ lX yG|apply zQ Fe yG|apply zQ Tu yG|apply zQ uZ Bm|apply zQ (zrE ?_) zor|apply zQ (Nh ?_) Nb|apply zQ Q6 RJ|apply zQ (Rb ?_) Gu|apply zQ VZ yG|apply zQ (zqf ?_) Gu|with_reducible apply mD)
 |((with_reducible show tK _ _ _);first|(with_reducible first|apply Yl|apply Be))
 |((with_reducible show OD _ _ _);first|(with_reducible first|apply Hd|apply GJ))
 |((with_reducible show sZ _ _ _ _);first|(with_reducible first|apply PQ|apply zn0))
 |((with_reducible show eZ _ _ _ _ _);first|(with_reducible first|apply KY|apply YG))
 |((with_reducible show XS _ _ _ _ _);first|(with_reducible first|apply HN|apply wT))
 |((with_reducible show XE _ _ _ _ _);first|(with_reducible first|(apply zkA;· assumption)))
 |((with_reducible apply KR.mk);kernel_rfl)
 |((with_reducible apply UR.mk);with_unfolding_all rfl)
 |with_reducible intro s₀ H₀ ex pn
 |walk_at "c")
local macro_rules|`(tactic|walk_at "p")=>`(tactic|(letI:KK:=⟨‹W.Frag›,cJ.dk ‹cJ›⟩;refine Txt.go ‹_› fun _ _ _ _ _ _ hr=>?_;apply zk <;> walk_at "s"))
local macro_rules|`(tactic|walk_at "q")=>`(tactic|(letI:KK:=⟨‹W.Frag›,cJ.dk ‹cJ›⟩;refine Txt.go ‹_› fun _ _ _ _ _ _ hr=>?_;apply zv <;> walk_at "s"))
local macro_rules|`(tactic|walk_at "x")=>`(tactic|(letI:KK:=⟨‹W.Frag›,cJ.dk ‹cJ›⟩;refine Txt.gx ‹_› fun _ _ _ _ _ _ hr=>?_;(first|apply KY|apply Zx|apply YG) <;> walk_at "s"))
def Z1:D->Bool
 |.int _=>true
 |_=>false
def yR (d:D)(a b:Int):Bool:=match d with
 |.int i=>decide (a<=i)&&decide (i<=b)
 |_=>false
section
variable {P:zO}{w:Q0k}{K:zA}{mg:wA}{base:Heap}{ad:cJ}(T:Txt P w K mg base ad)
def yz:x9
 |[d]=>if bu d then some (.bl (Z1 d))else none
 |_=>none
abbrev zgy :=yf (cz (aZ (wZ .int) (zc 0)) (Ec (aZ (wZ .bool) (zc 0))))
def zf4:=aK 1 zgy
def lJ {α:Type}{b:List α}(h:↥b=1):∃ a,b=[a]:=by match b,h with|[a],_=>exact⟨a,rfl⟩
def eH {α:Type}{c:List α}(h:↥c=2):∃ a b,c=[a,b]:=by match c,h with|[a,b],_=>exact⟨a,b,rfl⟩
def JD {α:Type}{d:List α}(h:↥d=3):∃ a b c,d=[a,b,c]:=by match d,h with|[a,b,c],_=>exact⟨a,b,c,rfl⟩
def dZ (h:(if c then some x else none)≈y):c=true/\x=y:=by
 split at h
 .cases h
  exact⟨by assumption,rfl⟩
 .cases h
def zdT:∀ b d,↥b=1->yz b≈d->zf4 b≈d:=by
 intro b d c h
 obtain⟨a,rfl⟩:=lJ c
 obtain⟨e,rfl⟩:=dZ h
 cases a <;> first|rfl|cases e
def WV:T.Pr 0 1 1 yz:=by
 letI:KK:=⟨K,ad.dk⟩
 refine xZ ?_ zdT
 walk_at "q"
abbrev wh :=yf (cz (zi 1 yz (za (zc 0) zh)) (pY jB jB (zc 1) (zc 0) (zc 2)))
def vZ:=aK 3 wh
def zU:x9
 |[d,.int lo,.int hi]=>if bu d then some (.bl (yR d lo hi))else none
 |_=>none
def Hz (f:bu a=true)(hw:Z1 a=false):vZ [a,.int d,.int b]≈(.bl false):=by
 have e:yz [a]≈(.bl false):=by
  show(if bu a then some (D.bl (Z1 a))else none)=_
  rw[t5 f,hw]
 refine w4 (ρ:=[.v a,.v (.int d),.v (.int b)]) rfl ?_
 unfold wh
 refine wz (ye ?_) rfl
 show(((yz [a]).bind bf).bind λc=>if c then _ else some (D.bl false))=_
 rw[e]
 rfl
def Z4:∀ f d,↥f=3->zU f≈d->vZ f≈d:=by
 intro f d k h
 obtain⟨a,b,c,rfl⟩:=JD k
 cases b <;> try cases h
 cases c <;> try cases h
 rename_i g j
 obtain⟨e,rfl⟩:=dZ h
 cases a with
 |scr _=>cases e
 |obj _ _ _=>cases e
 |int i =>
  refine w4 (ρ:=[.v (.int i),.v (.int g),.v (.int j)]) rfl ?_
  unfold wh
  refine wz (ye ?_) rfl
  show(if decide (g<=i) then some (D.bl (decide (i<=j)))else some (.bl false))≈(.bl (decide (g<=i)&&decide (i<=j)))
  cases decide (g<=i) <;> rfl
 |tup l=>exact Hz e rfl
 |lst l=>exact Hz e rfl
 |dct z t n m=>exact Hz e rfl
 |non=>rfl
 |bl _=>rfl
 |str _=>rfl
def xR:T.Pr 1 2 3 zU:=by
 letI:KK:=⟨K,ad.dk⟩
 have:=WV T
 refine xZ ?_ Z4
 walk_at "q"
abbrev Ys :=yf (zi 3 zU (za (zc 0) (za (eC (.int 1)) (za (eC (.int 8)) zh))))
def wJ:=aK 1 Ys
def yg:x9
 |[d]=>if bu d then some (.bl (yR d 1 8))else none
 |_=>none
def Xu:∀ b d,↥b=1->yg b≈d->wJ b≈d:=by
 intro b d f h
 obtain⟨a,rfl⟩:=lJ f
 have e:wJ [a]=zU [a,.int 1,.int 8]:=by
  cases c:zU [a,.int 1,.int 8] <;> simp[wJ,Ys,aK,yf,visG,Sl.g,zc,eC,za,zh,zi,c]
 rw[e]
 exact h
def vP:T.Pr 4 3 1 yg:=by
 letI:KK:=⟨K,ad.dk⟩
 have:=xR T
 refine xZ ?_ Xu
 walk_at "q"
abbrev RW :=yf (zi 3 zU (za (zc 1) (za (eC (.int 0)) (za (zg jc (zc 0) (eC (.int 1))) zh))))
def XB:=aK 2 RW
def yY:x9
 |[.int m,d]=>if bu d then some (.bl (yR d 0 (m-1)))else none
 |_=>none
def zdI:∀ c d,↥c=2->yY c≈d->XB c≈d:=by
 intro c d g h
 obtain⟨a,b,rfl⟩:=eH g
 cases a <;> try cases h
 rename_i m
 have e:XB [.int m,b]=zU [b,.int 0,.int (m-1)]:=by
  cases f:zU [b,.int 0,.int (m-1)] <;> simp[XB,RW,aK,yf,visG,Sl.g,zc,eC,zg,za,zh,zi,jc,mq,f]
 rw[e]
 exact h
def Vs:T.Pr 5 3 2 yY:=by
 letI:KK:=⟨K,ad.dk⟩
 have:=xR T
 refine xZ ?_ zdI
 walk_at "q"
def zd1 {m:Int}:yR (.int i) 0 (m-1)=bY m i:=rfl
def znh (h:∀ i,d≠.int i):yR d b a=false:=by
 cases d <;> first|rfl|exact absurd rfl (h _)
def Rg (h:yR d b a=true):∃ i,d=.int i:=by
 cases d with
 |int i=>exact⟨i,rfl⟩
 |_=>cases h
abbrev Rr :=zG (aH (dg (xF (aq (aZ (wZ .tuple) (zc 1)))) (aq (zg bW (aF Xr (za (zc 1) zh)) (eC (.int 2))))) (yf (eC (.bl false))) zL)
  (yf (cz (zi 2 yY (za (zc 0) (za (zg aB (zc 1) (eC (.int 0))) zh))) (cz (zi 2 yY (za (zc 0) (za (zg aB (zc 1) (eC (.int 1))) zh))) (zg bW (zg aB (zc 1) (eC (.int 0))) (zg aB (zc 1) (eC (.int 1)))))))
def zin:=aK 2 Rr
def xT:x9
 |[.int m,d]=>if bu d then some (.bl (wG m d))else none
 |_=>none
def zkw {m:Int}(h:yR x 0 (m-1)=false):wG m (.tup [x,y])=false:=by
 cases x with
 |int i =>
  cases y with
  |int j =>
   show(bY m i&&bY m j&&!decide (i=j))=false
   rw[show bY m i=false from h]
   rfl
  |_=>rfl
 |_=>rfl
def zkJ {m:Int}(h:yR y 0 (m-1)=false):wG m (.tup [x,y])=false:=by
 cases x with
 |int i =>
  cases y with
  |int j =>
   show(bY m i&&bY m j&&!decide (i=j))=false
   rw[show bY m j=false from h,qx]
   rfl
  |_=>rfl
 |_=>rfl
def zfQ:∀ f d,↥f=2->xT f≈d->zin f≈d:=by
 intro f d g h
 obtain⟨a,b,rfl⟩:=eH g
 cases a <;> try cases h
 rename_i m
 obtain⟨l,rfl⟩:=dZ h
 clear h
 cases b with
 |tup k =>
  refine w4 (ρ:=[.v (.int m),.v (.tup k)]) rfl ?_
  unfold Rr
  by_cases g:↥k=2
  .obtain⟨x,y,rfl⟩:=eH g
   have r:bu x=true:=Yk (ds:=[x,y]) (i:=0) l rfl
   have s:bu y=true:=Yk (ds:=[x,y]) (i:=1) l rfl
   have v:yY [.int m,x]≈(.bl (yR x 0 (m-1))):=by
    show(if bu x then some (D.bl (yR x 0 (m-1)))else none)=_
    rw[t5 r]
   have u:yY [.int m,y]≈(.bl (yR y 0 (m-1))):=by
    show(if bu y then some (D.bl (yR y 0 (m-1)))else none)=_
    rw[t5 s]
   refine zu (ρ':=[.v (.int m),.v (.tup [x,y])]) rfl (wz (ye ?_) rfl)
   show(((yY [.int m,x]).bind bf).bind λc=>if c then (((yY [.int m,y]).bind bf).bind λc=>if c then bW x y else some (D.bl false))else some (D.bl false))=_
   rw[v,u]
   cases p:yR x 0 (m-1) with
   |false=>rw[zkw p];rfl
   |true =>
    cases o:yR y 0 (m-1) with
    |false=>rw[zkJ o];rfl
    |true =>
     obtain⟨i,rfl⟩:=Rg p
     obtain⟨j,rfl⟩:=Rg o
     show some (D.bl (!decide (i=j)))≈(.bl (bY m i&&bY m j&&!decide (i=j)))
     rw[show bY m i=true from p,show bY m j=true from o]
     rfl
  .have e:wG m (.tup k)=false:=by
    unfold wG Zo
    split
    .rename_i t q
     split at q
     .rename_i n
      injection n with n
      rw[n]at g
      exact absurd rfl g
     .cases q
    .rfl
   rw[e]
   refine yE (ZQ (c:=true) ?_ (λ_=>wz rfl rfl) λz=>by cases z)
   show some (!decide ((↥k:Int)=2))=_
   rw[r0 (show ¬ (↥k:Int)=2 from λh=>g (Q2o h))]
   rfl
 |scr _=>cases l
 |obj _ _ _=>cases l
 |_=>rfl
def RN:T.Pr 7 4 2 xT:=by
 letI:KK:=⟨K,ad.dk⟩
 have:=Vs T
 refine xZ ?_ zfQ
 walk_at "p"
def pN (ds:zl):Nat->Option aY
 |0=>none
 |k+1=>(ds[k]?).bind Zo
abbrev X2 :=zG (aH (dg (xF (aq (zi 2 xT (za (zc 0) (za (zc 3) zh))))) (aq (zg dH (zg aB (zc 3) (eC (.int 0))) (zg aB (zc 3) (eC (.int 1)))))) (yf (eC (.bl false))) zL)
  (aH (ZC (aq (zg dH (zc 2) (eC (.int 0)))) (aq (zg JG (zc 3) (zg aB (zc 1) (zg jc (zc 2) (eC (.int 1))))))) (yf (eC (.bl false))) zL)
abbrev XN :=zG (aH (xF (aq (aZ (wZ .tuple) (zc 1)))) (yf (eC (.bl false))) zL)
  (zG (cA (WZ (za (zc 1) zh)) (gZ 2 (ZJ (xE 2) (ZJ (xE 3) jd))) X2)
  (yf (eC (.bl true))))
def zf8:=aK 4 XN
def vU:x9
 |[.int m,d]=>if bu d then some (.bl (Zf m d))else none
 |_=>none
def V2 (h:wG m d=true):∃ t,d=zd t:=by
 unfold wG at h
 split at h
 .rename_i t a
  exact⟨t,W1 a⟩
 .cases h
def zdv:∀ v d,↥v=2->vU v≈d->zf8 v≈d:=by
 intro v d I h
 obtain⟨a,b,rfl⟩:=eH I
 cases a <;> try cases h
 rename_i m
 obtain⟨B,rfl⟩:=dZ h
 clear h I
 cases b with
 |scr _=>cases B
 |obj _ _ _=>cases B
 |tup f =>
  refine w4 (g:=XN) rfl ?_
  unfold XN
  refine zu rfl ?_
  refine yE (Xn (ds:=ZE 0 f) (λi ρ=>∃ F E,ρ=[.v (.int m),.v (.tup f),F,E]/\yS m none f=yS m (pN f i) (f.drop i)/\∀ k,i=k+1->∃ p,f[k]?≈(zd p)) rfl
   ⟨.no,.no,rfl,rfl,λk e=>by cases e⟩ ?_ ?_)
  .rintro i d ρ J ⟨F,E,rfl,A,H⟩
   rw[vk]at J
   obtain⟨r,o,rfl⟩:=u8.mp J
   rw[i3]
   refine⟨_,rfl,?_⟩
   have n:f.drop i=r::f.drop (i+1):=by
    obtain⟨M,L⟩:=t8.mp o
    rw[CQ M,L]
   have u:bu r=true:=Yk B o
   unfold X2
   cases q:wG m r with
   |false =>
    have G:xT [.int m,r]≈(.bl false):=by
     show(if bu r then some (D.bl (wG m r))else none)=_
     rw[t5 u,q]
    refine yE (ZQ (c:=true) (show(((xT [.int m,r]).bind bf).map (!·)).bind (λc=>if c then some true else _)=_ by rw[G];rfl) (λ_=>wz rfl ?_) (λz=>by cases z))
    have e:yS m none f=false:=by
     rw[A,n]
     unfold yS
     split
     .rw[q];rfl
     .rfl
    show D.bl false=.bl (yS m none f)
    rw[e]
   |true =>
    obtain⟨t,rfl⟩:=V2 q
    have G:xT [.int m,zd t]≈(.bl true):=by
     show(if bu (zd t) then some (D.bl (wG m (zd t)))else none)=_
     rw[t5 u,q]
    have step:yS m none f=(!decide (t.2<t.1)&&qe (pN f i) t&&yS m (some t) (f.drop (i+1))):=by
     rw[A,n]
     conv=>lhs;unfold yS
     rw[YQ,q]
     rfl
    have l:pN f (i+1)≈t:=by
     show(f[i]?).bind Zo≈t
     rw[o]
     rfl
    refine yE (ZQ (c:=decide (t.2<t.1)) (show(((xT [.int m,zd t]).bind bf).map (!·)).bind (λc=>if c then some true else some (decide (t.2<t.1)))=_ by rw[G];rfl) (λc=>wz rfl ?_) (λc=>vE rfl ?_))
    .show D.bl false=.bl (yS m none f)
     rw[step,c]
     rfl
    .cases i with
     |zero =>
      refine ZQ (c:=false) rfl (λz=>by cases z) (λ_=>vE rfl ?_)
      refine⟨_,_,rfl,?_,λk e=>?_⟩
      .rw[l,step,c]
       rfl
      .cases e
       exact⟨t,o⟩
     |succ j =>
      obtain⟨p,w⟩:=H j rfl
      have s:pN f (j+1)≈p:=by
       show(f[j]?).bind Zo≈p
       rw[w]
       rfl
      rw[s]at step
      have K:atI f ((((j+1:Nat):Int))-1)≈(zd p):=by
       rw[show(((j+1:Nat):Int))-1=(j:Nat)from Int.add_sub_cancel (j:Int) 1]
       exact Oe w
      have x:qe (some p) t=!nQ t p:=rfl
      refine ZQ (c:=nQ t p) ?_ (λC=>wz rfl ?_) (λC=>vE rfl ?_)
      .have z:decide ((0:Int)<((j+1:Nat):Int))=true:=j3 (Int.natCast_pos.mpr (Nat.succ_pos j))
       show((some (decide ((0:Int)<((j+1:Nat):Int)))).bind λc=>if c then (((atI f (((j+1:Nat):Int)-1)).bind λy=>JG (zd t) y).bind bf)else some false)=_
       rw[z,K]
       rfl
      .show D.bl false=.bl (yS m none f)
       rw[step,x,C,c]
       rfl
      .refine⟨_,_,rfl,?_,λN e=>?_⟩
       .rw[l,step,x,C,c]
        rfl
       .cases e
        exact⟨t,o⟩
  .rintro ρ ⟨F,E,rfl,A,H⟩
   refine wz rfl ?_
   show D.bl true=.bl (yS m none f)
   rw[A,wx,Bx]
   cases pN f ↥f <;> rfl
 |_=>rfl
def zdU:T.Pr 8 5 2 vU:=by
 letI:KK:=⟨K,ad.dk⟩
 have:=RN T
 refine xZ ?_ zdv
 walk_at "p"
abbrev WO :=zG (aH (dg (xF (aq (aZ (wZ .tuple) (zc 0)))) (aq (zg bW (aF Xr (za (zc 0) zh)) (eC (.int 2))))) (yf (eC (.bl false))) zL)
  (yf (cz (zi 1 yg (za (zg aB (zc 0) (eC (.int 0))) zh)) (zi 2 vU (za (zg aB (zc 0) (eC (.int 0))) (za (zg aB (zc 0) (eC (.int 1))) zh)))))
def WN:=aK 1 WO
def ZY:x9
 |[d]=>if bu d then some (.bl (xM d))else none
 |_=>none
def zi6:xM (.tup [x,y])=(yR x 1 8&&match x with|.int m=>Zf m y|_=>false):=by
 cases x <;> rfl
def ziC:∀ b d,↥b=1->ZY b≈d->WN b≈d:=by
 intro b d c h
 obtain⟨a,rfl⟩:=lJ c
 obtain⟨f,rfl⟩:=dZ h
 clear h c
 cases a with
 |scr _=>cases f
 |obj _ _ _=>cases f
 |tup k =>
  by_cases c:↥k=2
  .obtain⟨x,y,rfl⟩:=eH c
   have q:bu x=true:=Yk (ds:=[x,y]) (i:=0) f rfl
   have s:bu y=true:=Yk (ds:=[x,y]) (i:=1) f rfl
   have g:yg [x]≈(.bl (yR x 1 8)):=by simp[yg,q]
   rw[zi6]
   by_cases n:∃ i,x=.int i
   .obtain⟨i,rfl⟩:=n
    have p:vU [.int i,y]≈(.bl (Zf i y)):=by simp[vU,s]
    cases r:yR (.int i) 1 8 <;> rw[r]at g <;> simp[WN,WO,aK,zG,yf,aH,zL,visG,Sl.g,zc,eC,zg,cz,aZ,za,zh,zi,aF,aq,dg,xF,bf,W7,aB,Xr,wZ,jD,g,p,atI,ixN]
   .have t:yR x 1 8=false:=znh λj o=>n ⟨j,o⟩
    rw[t]at g ⊢
    simp[WN,WO,aK,zG,yf,aH,zL,visG,Sl.g,zc,eC,zg,cz,aZ,za,zh,zi,aF,aq,dg,xF,bf,W7,aB,Xr,wZ,jD,g,atI,ixN]
  .have e:xM (.tup k)=false:=zo0 λm l h _=>by
    unfold aa at h
    injection h with h
    rw[h]at c
    exact c rfl
   rw[e]
   have:¬ (↥k:Int)=2:=by omega
   simp[WN,WO,aK,zG,yf,aH,visG,Sl.g,zc,eC,zg,aZ,za,zh,aF,aq,dg,xF,bf,W7,Xr,wZ,jD,this]
 |_=>rfl
def zjo:T.Pr 9 6 1 ZY:=by
 letI:KK:=⟨K,ad.dk⟩
 have:=vP T
 have:=zdU T
 refine xZ ?_ ziC
 walk_at "p"
def znB (m:Int)(a:zy):bu (aa m a)=true:=by
 have:∀ a:zy,gn (a.map zd)=true:=by
  intro a
  induction a with
  |nil=>rfl
  |cons t a b=>show(bu (zd t)&&gn (a.map zd))=true;rw[b];rfl
 show(bu (.int m)&&(bu (.tup (a.map zd))&&true))=true
 rw[show bu (.tup (a.map zd))=gn (a.map zd)from rfl,this a]
 rfl
abbrev Xo :=aH (xF (aq (zi 1 ZY (za (zc 0) zh)))) bV zL
def ZZ:=aK 1 Xo
def zK:x9
 |[d]=>if xM d then some .non else none
 |_=>none
def V9:∀ b d,↥b=1->zK b≈d->ZZ b≈d:=by
 intro b d f h
 obtain⟨a,rfl⟩:=lJ f
 obtain⟨hw,rfl⟩:=dZ h
 obtain⟨m,c,rfl,_⟩:=(yu a).mp hw
 have e:ZY [aa m c]≈(.bl true):=by simp[ZY,znB m c,hw]
 simp[ZZ,Xo,aK,aH,zL,visG,Sl.g,zc,za,zh,zi,aq,xF,bf,e]
def yB:T.Pr 10 7 1 zK:=by
 letI:KK:=⟨K,ad.dk⟩
 have:=zjo T
 refine xZ ?_ V9
 walk_at "q"
def xV:D->Bool
 |.int i=>decide (0<=i)
 |_=>false
def lH:D->Int
 |.int i=>i
 |_=>0
def xp (m:Int):D->Bool
 |.tup a=>decide ((↥a:Int)=m)&&a.all xV
 |_=>false
def zks {α:Type}(f:α->Bool)(l:List α):lN [.lst (l.map λx=>.bl (f x))]≈(.bl (l.all f)):=by
 have:gA (l.map λx=>D.bl (f x))≈(l.map f):=by
  have:=QK (l.map f)
  rwa[l4]at this
 show((gA (l.map λx=>D.bl (f x))).bind λa=>some (D.bl (a.all id)))=_
 rw[this]
 show some (D.bl ((l.map f).all id))=_
 rw[mR]
 rfl
def W8 {a:zl}(h:a.all xV=true):∃ ns:zr,a=ns.map .int/\∀ n∈ns,0<=n:=by
 induction a with
 |nil=>exact⟨[],rfl,by simp⟩
 |cons d a e =>
  rw[qu,k9]at h
  obtain⟨ns,rfl,c⟩:=e h.2
  cases d with
  |int i=>exact⟨i::ns,rfl,λn b=>by
   rcases t9.mp b with rfl|b
   .exact j8 h.1
   .exact c n b⟩
  |_=>exact absurd h.1 u7
def zg3 {ns:zr}(h:∀ n∈ns,0<=n):(ns.map D.int).all xV=true:=by
 rw[mR,l5]
 exact λn a=>j3 (h n a)
def zh4 (ns:zr):ji [.tup (ns.map .int)]≈(.int ns.sum):=by
 show((dR (ns.map .int)).bind λns=>some (D.int ns.sum))=_
 rw[Xe]
 rfl
abbrev vy :=zG (aH (dg (xF (aq (aZ (wZ .tuple) (zc 1)))) (aq (zg bW (aF Xr (za (zc 1) zh)) (zc 0)))) (yf (eC (.bl false))) zL)
  (yf (aF lN (za (xm (aL (bc (zc 1)) b1 yN (cz (zi 1 yz (za (zc 0) zh)) (zg eE (zc 0) (eC (.int 0)))))) zh)))
def X6:=aK 2 vy
def wv:x9
 |[.int m,d]=>if (bu d&&decide (m<=1000)) then some (.bl (xp m d))else none
 |_=>none
def UV (a:bu d=true):((yz [d]).bind bf).bind (λc=>if c then eE d (.int 0)else some (.bl false))≈(.bl (xV d)):=by
 cases d with
 |scr _=>cases a
 |obj _ _ _=>cases a
 |tup _=>simp[yz,a,Z1,bf,xV]
 |lst _=>simp[yz,a,Z1,bf,xV]
 |_=>rfl
def zaH:∀ n d,↥n=2->wv n≈d->X6 n≈d:=by
 intro n d k h
 obtain⟨a,b,rfl⟩:=eH k
 cases a <;> try cases h
 rename_i m
 obtain⟨l,rfl⟩:=dZ h
 clear h k
 rw[k9,k7]at l
 obtain⟨l,q⟩:=l
 cases b with
 |scr _=>cases l
 |obj _ _ _=>cases l
 |tup g =>
  by_cases k:(↥g:Int)=m
  .have e:aL (bc (zc 1)) b1 yN (cz (zi 1 yz (za (zc 0) zh)) (zg eE (zc 0) (eC (.int 0)))) [some (.int m),some (.tup g)]≈(g.map λd=>.bl (xV d)):=by
    unfold aL
    show(if aU ↥g then _ else none)=_
    rw[t5 (yV ∅)]
    have:=wM (b:=b1) (t:=yN) (f:=cz (zi 1 yz (za (zc 0) zh)) (zg eE (zc 0) (eC (.int 0)))) (ρ:=[some (.int m),some (.tup g)]) id (λd=>.bl (xV d)) g
     (λd p=>⟨[some d],rfl,rfl,UV (by obtain⟨j,o,rfl⟩:=kW p;exact Yk (i:=j) l (by simp[o]))⟩)
    rwa[ql]at this
   show aK 2 vy _=_
   refine w4 rfl ?_
   unfold vy
   refine yE (ZQ (c:=false) (by simp[visG,Sl.g,zc,zg,aZ,za,zh,aF,aq,dg,xF,bf,W7,Xr,wZ,jD,k]) (λz=>by cases z) λ_=>vE rfl (wz (d:=.bl (g.all xV)) ?_ ?_))
   .show(match (((aL (bc (zc 1)) b1 yN (cz (zi 1 yz (za (zc 0) zh)) (zg eE (zc 0) (eC (.int 0)))) [some (.int m),some (.tup g)]).map D.lst).bind λd=>(some []:Option zl).map (d::·)).bind lN with|some d=>aP.rt d|none=>aP.no)=_
    rw[e]
    show(match lN [.lst (g.map λd=>.bl (xV d))]with|some d=>aP.rt d|none=>aP.no)=_
    rw[zks]
   .show D.bl (g.all xV)=.bl (decide ((↥g:Int)=m)&&g.all xV)
    rw[j3 k,Bool.true_and]
  .have e:xp m (.tup g)=false:=by
    show(decide ((↥g:Int)=m)&&g.all xV)=false
    rw[r0 k,Bool.false_and]
   rw[e]
   simp[X6,vy,aK,zG,yf,aH,visG,Sl.g,zc,eC,zg,aZ,za,zh,aF,aq,dg,xF,bf,W7,Xr,wZ,jD,k]
 |_=>rfl
def zbu:T.Pr 6 2 2 wv:=by
 letI:KK:=⟨K,ad.dk⟩
 have:=WV T
 refine xZ ?_ zaH
 walk_at "p"
def xC (m:Int):D->Bool
 |.tup a=>xp m (.tup a)&&decide ((a.map lH).sum<=300)
 |_=>false
def Y8 (ns:zr):(ns.map D.int).map lH=ns:=by rw[l4];exact(qQ λ_ _=>rfl).trans (ql _)
abbrev YI :=yf (cz (zi 2 wv (za (zg aB (zc 0) (eC (.int 0))) (za (zc 1) zh))) (zg jB (aF ji (za (zc 1) zh)) (eC (.int 300))))
def YC:=aK 2 YI
def xc:x9
 |[.tup [.int m,_],d]=>if (bu d&&decide (m<=1000)) then some (.bl (xC m d))else none
 |_=>none
def zaJ:∀ f d,↥f=2->xc f≈d->YC f≈d:=by
 intro f d k h
 obtain⟨a,b,rfl⟩:=eH k
 unfold xc at h
 split at h
 .rename_i m t p e
  injection e with e1 e2
  injection e2 with e2 _
  subst e1 e2
  obtain⟨j,rfl⟩:=dZ h
  have g:wv [.int m,b]≈(.bl (xp m b)):=by simp only[wv];rw[t5 j]
  cases c:xp m b with
  |false =>
   rw[c]at g
   have i:xC m b=false:=by
    cases b <;> try rfl
    show(xp m _&&_)=false
    rw[c]
    rfl
   rw[i]
   simp[YC,YI,aK,yf,visG,Sl.g,zc,eC,zg,cz,za,zh,zi,aF,bf,jB,jK,aB,g,atI,ixN]
  |true =>
   rw[c]at g
   cases b with
   |tup o =>
    have l:o.all xV=true:=by
     unfold xp at c
     rw[k9]at c
     exact c.2
    obtain⟨ns,rfl,n⟩:=W8 l
    have i:xC m (.tup (ns.map .int))=decide (ns.sum<=300):=by
     show(xp m _&&decide (((ns.map D.int).map lH).sum<=300))=_
     rw[c,Y8,Bool.true_and]
    rw[i]
    simp[YC,YI,aK,yf,visG,Sl.g,zc,eC,zg,cz,za,zh,zi,aF,bf,jB,jK,aB,g,zh4,atI,ixN]
   |_=>cases c
 .cases h
def ZT:T.Pr 19 3 2 xc:=by
 letI:KK:=⟨K,ad.dk⟩
 have:=zbu T
 refine xZ ?_ zaJ
 walk_at "q"
def Y1 {m:Int}(h:yd m a):Wy [.int m]≈(ZS 0 m.toNat):=by
 have:=h.lo
 have:=h.hi
 show(if zi9 m then some (ZS 0 m.toNat)else none)=_
 rw[t5 (yq.mpr ⟨by omega,by omega⟩)]
abbrev Zs :=aH (xF (aq (zi 2 xc (za (zc 0) (za (zc 1) zh))))) bV zL
def Zm:=aK 2 Zs
def z3:x9
 |[.tup [.int m,_],d]=>if (bu d&&decide (m<=1000)&&xC m d) then some .non else none
 |_=>none
def Vg:∀ c d,↥c=2->z3 c≈d->Zm c≈d:=by
 intro c d g h
 obtain⟨a,b,rfl⟩:=eH g
 unfold z3 at h
 split at h
 .rename_i m t j e
  injection e with e1 e2
  injection e2 with e2 _
  subst e1 e2
  obtain⟨f,rfl⟩:=dZ h
  rw[k9]at f
  have i:xc [.tup [.int m,t],b]≈(.bl true):=by simp only[xc];rw[t5 f.1,f.2]
  simp[Zm,Zs,aK,aH,zL,visG,Sl.g,zc,za,zh,zi,aq,xF,bf,i]
 .cases h
def xN:T.Pr 20 4 2 z3:=by
 letI:KK:=⟨K,ad.dk⟩
 have:=ZT T
 refine xZ ?_ Vg
 walk_at "q"
def ZU (h:yd m a):decide (m<=1000)=true:=j3 (by have:=h.hi;omega)
def ir:D->Int
 |.tup [.int m,_]=>m
 |_=>0
def jU:D->zy
 |.tup [_,.tup l]=>(iu l).getD []
 |_=>[]
def xr (m:Int)(a:zy):ir (aa m a)=m:=rfl
def zhI (a:zy):a.map zd=a.map gj:=rfl
def xQ (m:Int)(a:zy):jU (aa m a)=a:=by
 show(iu (a.map zd)).getD []=a
 rw[zhI,QS]
 rfl
def Yz (a b:Int):aY:=(if b<a then b else a,if b>a then b else a)
abbrev YN :=aH (xF (aq (zi 2 yY (za (zg aB (zc 0) (eC (.int 0))) (za (zc 1) zh))))) bV zL
def YB:=aK 2 YN
def zS:x9
 |[.tup [.int m,_],.int p]=>if (decide (0<=p)&&decide (p<=m-1)) then some .non else none
 |_=>none
def Ws:∀ c d,↥c=2->zS c≈d->YB c≈d:=by
 intro c d i h
 obtain⟨a,b,rfl⟩:=eH i
 unfold zS at h
 split at h
 .rename_i m t f e
  injection e with e1 e2
  injection e2 with e2 _
  subst e1 e2
  obtain⟨g,rfl⟩:=dZ h
  have j:yY [.int m,.int f]≈(.bl true):=by
   show(if bu (.int f) then some (D.bl (yR (.int f) 0 (m-1)))else none)=_
   rw[t5 (show bu (.int f)=true from rfl),zd1]
   unfold bY
   rw[g]
  simp[YB,YN,aK,aH,zL,visG,Sl.g,zc,eC,zg,za,zh,zi,aq,xF,bf,aB,j,atI,ixN]
 .cases h
def yW:T.Pr 11 4 2 zS:=by
 letI:KK:=⟨K,ad.dk⟩
 have:=Vs T
 refine xZ ?_ Ws
 walk_at "q"
def wa {m:Int}{p:Int}(a:0<=p/\p<m):zS [aa m ts,.int p]≈.non:=by
 show(if (decide (0<=p)&&decide (p<=m-1)) then some D.non else none)=_
 rw[j3 a.1,j3 ∅]
 rfl
abbrev zbe :=yf (X8 (za (aF uU (za (zc 0) (za (zc 1) zh))) (za (aF Kv (za (zc 0) (za (zc 1) zh))) zh)))
def zbt:=aK 2 zbe
def yQ:x9
 |[.int a,.int b]=>some (zd (Yz a b))
 |_=>none
def V8:∀ c d,↥c=2->yQ c≈d->zbt c≈d:=by
 intro c d e h
 obtain⟨a,b,rfl⟩:=eH e
 cases a <;> try cases h
 cases b <;> try cases h
 rfl
def Zp:T.Pr 12 1 2 yQ:=by
 letI:KK:=⟨K,ad.dk⟩
 refine xZ ?_ V8
 walk_at "q"
def zgQ (a:zy):(a.map zd).all (aR 20)=true:=by
 rw[mR,l5]
 exact λt _=>rfl
def PL (s t:aY):aX 20 (zd s) (zd t)=decide (s=t):=by
 have:aX 20 (zd s) (zd t)=((s.1 == t.1)&&((s.2 == t.2)&&true)&&true):=rfl
 rw[this,Bs,Bs]
 by_cases h:s=t
 .subst h
  simp
 .rw[r0 h,Bool.and_eq_false_iff]
  by_cases a:s.1=t.1
  .exact .inr (l8.mpr λb=>h (gD a b))
  .exact .inl (l8.mpr a)
def zlS (t:aY)(a:zy):lg (zd t) (.tup (a.map zd))≈(.bl (decide (t∈a))):=by
 show(oW (zd t) (a.map zd)).map D.bl=_
 unfold oW
 rw[t5 ⟨rfl,zgQ a⟩]
 show some (D.bl ((a.map zd).any λe=>aX 20 e (zd t)))=_
 rw[Q2J]
 congr 2
 rw[qY,List.any_eq_true,k7]
 constructor
 .rintro⟨s,b,h⟩
  have h:aX 20 (zd s) (zd t)=true:=h
  rw[PL,k7]at h
  subst h
  exact b
 .exact λh=>⟨t,h,by show aX 20 (zd t) (zd t)=true;rw[PL];exact j3 rfl⟩
def bL (m:Int)(a:zy)(p:Int):Yy:=(Q0g m.toNat).filter λk:Nat=>decide (Yz p k∈a)
def Xs (k:Nat):D:=.int ((0:Int)+(k:Int))
abbrev Wb :=yf (xm (aL (dB Wy (za (zg aB (zc 0) (eC (.int 0))) zh)) b1 (aq (zg lg (zi 2 yQ (za (zc 2) (za (zc 0) zh))) (zg aB (zc 1) (eC (.int 1))))) (zc 0)))
def zcJ:=aK 2 Wb
def yc:x9
 |[w,.int p]=>if xM w then some (.lst ((bL (ir w) (jU w) p).map Xs))else none
 |_=>none
def zaL:∀ f d,↥f=2->yc f≈d->zcJ f≈d:=by
 intro f d i h
 obtain⟨a,b,rfl⟩:=eH i
 cases b <;> try cases h
 rename_i p
 obtain⟨hw,rfl⟩:=dZ h
 obtain⟨m,g,rfl,ok⟩:=(yu a).mp hw
 rw[xr,xQ]
 refine w4 rfl ?_
 unfold Wb
 refine wz (d:=.lst ((bL m g p).map Xs)) ?_ rfl
 have e:aL (dB Wy (za (zg aB (zc 0) (eC (.int 0))) zh)) b1 (aq (zg lg (zi 2 yQ (za (zc 2) (za (zc 0) zh))) (zg aB (zc 1) (eC (.int 1))))) (zc 0) [some (aa m g),some (.int p)]≈((bL m g p).map Xs):=by
  unfold aL
  show((Wy [.int m]).bind λf=>if aU ↥f then _ else none)=_
  rw[Y1 ok]
  show(if aU (ZS 0 m.toNat).length then _ else none)=_
  rw[t5 (yV (by rw[v8];have:=ok.hi;omega))]
  refine xJ (c:=Xs) (p:=λk=>decide (Yz p k∈g)) (y:=Xs) (Q0g m.toNat) λk j=>⟨[some (Xs k)],rfl,?_,λ_=>rfl⟩
  show((lg (zd (Yz p (0+(k:Int)))) (.tup (g.map zd))).bind bf)=_
  rw[gb,zlS]
  rfl
 show(match ((aL (dB Wy (za (zg aB (zc 0) (eC (.int 0))) zh)) b1 (aq (zg lg (zi 2 yQ (za (zc 2) (za (zc 0) zh))) (zg aB (zc 1) (eC (.int 1))))) (zc 0) [some (aa m g),some (.int p)]).map D.lst)with|some d=>aP.rt d|none=>aP.no)=_
 rw[e]
 rfl
def ZX:T.Pr 14 2 2 yc:=by
 letI:KK:=⟨K,ad.dk⟩
 have:=Zp T
 refine xZ ?_ zaL
 walk_at "q"
def x4 (m:Int)(a:zy)(i:Nat):zy:=(Q0g i).flatMap λk:Nat=>(bL m a k).map λo:Nat=>((0:Int)+(k:Int),(0:Int)+(o:Int))
def yj (m:Int)(a:zy):zy:=x4 m a m.toNat
def X9 (m:Int)(a:zy)(i:Nat):x4 m a (i+1)=x4 m a i++(bL m a i).map λo:Nat=>((0:Int)+(i:Int),(0:Int)+(o:Int)):=by
 unfold x4
 rw[Ih,List.flatMap_append]
 simp
def Xt (h:yd m a):(bL m a p).length<=8:=by
 refine k8 (Cg _ _) ?_
 rw[kE]
 have:=h.hi
 omega
def wn (h:yd m a)(i:Nat):(x4 m a i).length<=8*i:=by
 induction i with
 |zero=>simp[x4]
 |succ i b =>
  rw[X9,j9,u5]
  have:=Xt (p:=(i:Int)) h
  omega
abbrev Z7 :=Eg 1 (xm (aL (bc (zi 2 yc (za (zc 0) (za (zc 2) zh)))) b1 yN (X8 (za (zc 3) (za (zc 0) zh)))))
abbrev Vj :=zG (cX 1 (yX zh))
  (zG (Xm Wy (za (zg aB (zc 0) (eC (.int 0))) zh) (xE 2) Z7)
  (dX 1 (yf (zc 1))))
def zdF:=aK 3 Vj
def ya:x9
 |[w]=>if xM w then some (.lst ((yj (ir w) (jU w)).map zd))else none
 |_=>none
def zc9:∀ f d,↥f=1->ya f≈d->zdF f≈d:=by
 intro f d j h
 obtain⟨a,rfl⟩:=lJ j
 obtain⟨hw,rfl⟩:=dZ h
 obtain⟨m,b,rfl,ok⟩:=(yu a).mp hw
 rw[xr,xQ]
 refine w4 rfl ?_
 unfold Vj
 refine zu rfl ?_
 refine yE (Ve (lo:=0) (c:=m.toNat) (λi ρ=>∃ k,ρ=[.v (aa m b),.o ((x4 m b i).map zd),k]) (Y1 ok) ⟨.no,rfl⟩ ?_ ?_)
 .rintro i ρ n ⟨k,rfl⟩
  refine⟨_,rfl,?_⟩
  unfold Z7
  refine vE (ρ':=[.v (aa m b),.o ((x4 m b (i+1)).map zd),.v (.int (0+(i:Int)))]) ?_ ⟨_,rfl⟩
  have e:aL (bc (zi 2 yc (za (zc 0) (za (zc 2) zh)))) b1 yN (X8 (za (zc 3) (za (zc 0) zh))) [some (aa m b),none,some (.int (0+(i:Int)))]≈(((bL m b i).map λo:Nat=>((0:Int)+(i:Int),(0:Int)+(o:Int))).map zd):=by
   unfold aL
   have l:yc [aa m b,.int (0+(i:Int))]≈(.lst ((bL m b i).map Xs)):=by
    simp only[yc]
    rw[t5 hw,xr,xQ,gb]
   show((yc [aa m b,.int (0+(i:Int))]).bind wW).bind _=_
   rw[l]
   show(if aU ((bL m b i).map Xs).length then _ else none)=_
   rw[t5 (yV (by rw[u5];have:=Xt (p:=(i:Int)) ok;omega)),l4]
   refine wM Xs _ (bL m b i) λo _=>⟨[some (Xs o)],rfl,rfl,?_⟩
   rfl
  have j:aU (((x4 m b i).map zd).length+(((bL m b i).map λo:Nat=>((0:Int)+(i:Int),(0:Int)+(o:Int))).map zd).length)=true:=by
   refine yV ?_
   simp only[u5]
   have:=wn ok i
   have:=Xt (p:=(i:Int)) ok
   have:=ok.hi
   omega
  show(match (((aL (bc (zi 2 yc (za (zc 0) (za (zc 2) zh)))) b1 yN (X8 (za (zc 3) (za (zc 0) zh))) [some (aa m b),none,some (.int (0+(i:Int)))]).map D.lst).bind λd=>match (some (Sl.o ((x4 m b i).map zd))),d with
   |some (.o f),.lst es=>if aU (↥f+↥es) then some ([.v (aa m b),.o (f++es),.v (.int (0+(i:Int)))]:SE)else none
   |_,_=>none)with|some g=>aP.nx g|none=>aP.no)=_
  rw[e]
  show(match (if aU (((x4 m b i).map zd).length+(((bL m b i).map λo:Nat=>((0:Int)+(i:Int),(0:Int)+(o:Int))).map zd).length) then some ([.v (aa m b),.o ((x4 m b i).map zd++((bL m b i).map λo:Nat=>((0:Int)+(i:Int),(0:Int)+(o:Int))).map zd),.v (.int (0+(i:Int)))]:SE)else none)with|some g=>aP.nx g|none=>aP.no)=_
  rw[t5 j,X9,r8]
 .rintro ρ ⟨k,rfl⟩
  exact gw rfl (wz rfl rfl)
def YV:T.Pr 21 3 1 ya:=by
 letI:KK:=⟨K,ad.dk⟩
 have:=ZX T
 refine xZ ?_ zc9
 walk_at "p"
def zny (h:xC m d=true):∃ ns:zr,d=.tup (ns.map .int)/\(↥ns:Int)=m/\(∀ n∈ns,0<=n)/\ns.sum<=300:=by
 cases d with
 |tup f =>
  unfold xC xp at h
  rw[k9,k9,k7,k7]at h
  obtain⟨⟨a,c⟩,b⟩:=h
  obtain⟨ns,rfl,e⟩:=W8 c
  rw[Y8]at b
  exact⟨ns,rfl,by rw[u5]at a;exact a,e,b⟩
 |_=>cases h
def Zb {m:Int}{ns:zr}(c:(↥ns:Int)=m)(a:∀ n∈ns,0<=n)(b:ns.sum<=300):xC m (.tup (ns.map .int))=true:=by
 unfold xC xp
 rw[k9,k9,k7,k7,Y8,u5]
 exact⟨⟨c,zg3 a⟩,b⟩
def WS (ns:zr):bu (.tup (ns.map .int))=true:=by
 show gn (ns.map .int)=true
 induction ns with
 |nil=>rfl
 |cons n ns a=>show(bu (.int n)&&gn (ns.map .int))=true;rw[a];rfl
def aD (ns:zr)(i:Int):Int:=ns.getD i.toNat 0
def wR {ns:zr}{i:Int}(h0:0<=i)(b:i<↥ns):atI (ns.map D.int) i≈(.int (aD ns i)):=by
 unfold aD
 obtain⟨k,a⟩:∃ k:Nat,i=k:=⟨i.toNat,by omega⟩
 subst a
 refine Oe ?_
 rw[jy,q4,j7 ∅,p5,j7 ∅]
 rfl
def RM:s∈yj m d↔(0<=s.1/\s.1<m)/\(0<=s.2/\s.2<m)/\Yz s.1 s.2∈d:=by
 unfold yj x4 bL
 rw[List.mem_flatMap]
 constructor
 .rintro⟨k,b,h⟩
  obtain⟨o,a,rfl⟩:=g9.mp h
  rw[eU,p4,k7]at a
  rw[p4]at b
  simp only[gb]
  exact⟨⟨by(clear h a b;omega),by(clear h a;omega)⟩,⟨by(clear h a b;omega),by omega⟩,a.2⟩
 .rintro⟨⟨e,c⟩,⟨b1,b2⟩,h⟩
  refine⟨s.1.toNat,p4.mpr (by(clear b2 b1 h;omega)),g9.mpr ⟨s.2.toNat,?_,?_⟩⟩
  .rw[eU,p4,k7]
   refine⟨by omega,?_⟩
   rw[show((s.1.toNat:Nat):Int)=s.1 by(clear b2 b1 h c;omega),show((s.2.toNat:Nat):Int)=s.2 by omega]
   exact h
  .exact gD (by show(0:Int)+(s.1.toNat:Int)=s.1;(clear b2 b1 h c;omega)) (by show(0:Int)+(s.2.toNat:Int)=s.2;omega)
def fP (m:Int)(a:zy)(ns:zr):zy:=(yj m a).filter λs=>decide (2<=aD ns s.1)
abbrev Wa :=zG (Zv (zi 1 zK (za (zc 0) zh)))
  (zG (Zv (zi 2 z3 (za (zc 0) (za (zc 1) zh))))
  (yf (xm (aL (bc (zi 1 ya (za (zc 0) zh))) b1 (aq (zg eE (zg aB (zc 2) (zg aB (zc 0) (eC (.int 0)))) (eC (.int 2)))) (zc 0)))))
def zdg:=aK 2 Wa
def xh:x9
 |[w,.tup hs]=>if (xM w&&xC (ir w) (.tup hs)) then some (.lst ((fP (ir w) (jU w) (hs.map lH)).map zd))else none
 |_=>none
def zaF:∀ g d,↥g=2->xh g≈d->zdg g≈d:=by
 intro g d u h
 obtain⟨a,b,rfl⟩:=eH u
 cases b <;> try cases h
 rename_i j
 obtain⟨l,rfl⟩:=dZ h
 rw[k9]at l
 obtain⟨hw,i⟩:=l
 obtain⟨m,f,rfl,ok⟩:=(yu a).mp hw
 rw[xr]at i
 rw[xr,xQ]
 obtain⟨ns,e,k,v,n⟩:=zny i
 injection e with e
 subst e
 rw[Y8]
 have w:zK [aa m f]≈.non:=by simp[zK,hw]
 have q:z3 [aa m f,.tup (ns.map .int)]≈.non:=by
  show(if (bu (.tup (ns.map .int))&&decide (m<=1000)&&xC m (.tup (ns.map .int))) then some D.non else none)=_
  rw[t5 (by rw[WS,ZU ok,i];rfl)]
 have t:ya [aa m f]≈(.lst ((yj m f).map zd)):=by
  show(if xM (aa m f) then some (D.lst ((yj (ir (aa m f)) (jU (aa m f))).map zd))else none)=_
  rw[t5 hw,xr,xQ]
 refine w4 (ρ:=[.v (aa m f),.v (.tup (ns.map .int))]) rfl ?_
 unfold Wa
 refine zu (ρ':=[.v (aa m f),.v (.tup (ns.map .int))]) (by simp[Zv,visG,Sl.g,zc,za,zh,zi,w]) (zu (ρ':=[.v (aa m f),.v (.tup (ns.map .int))]) (by simp[Zv,visG,Sl.g,zc,za,zh,zi,q]) ?_)
 refine wz (d:=.lst ((fP m f ns).map zd)) ?_ rfl
 have e:aL (bc (zi 1 ya (za (zc 0) zh))) b1 (aq (zg eE (zg aB (zc 2) (zg aB (zc 0) (eC (.int 0)))) (eC (.int 2)))) (zc 0) [some (aa m f),some (.tup (ns.map .int))]≈((fP m f ns).map zd):=by
  unfold aL
  show((ya [aa m f]).bind wW).bind _=_
  rw[t]
  show(if aU ((yj m f).map zd).length then _ else none)=_
  rw[t5 (yV (by rw[u5];have:=wn ok m.toNat;unfold yj;have:=ok.hi;omega))]
  refine xJ (c:=zd) (p:=λs=>decide (2<=aD ns s.1)) (y:=zd) (yj m f) λs j=>⟨[some (zd s)],rfl,?_,λ_=>rfl⟩
  obtain⟨⟨o,z⟩,_⟩:=RM.mp j
  have r:=wR (ns:=ns) o ∅
  show((((atI (ns.map D.int) s.1).bind λx=>eE x (.int 2))).bind bf)=_
  rw[r]
  rfl
 show(match ((aL (bc (zi 1 ya (za (zc 0) zh))) b1 (aq (zg eE (zg aB (zc 2) (zg aB (zc 0) (eC (.int 0)))) (eC (.int 2)))) (zc 0) [some (aa m f),some (.tup (ns.map .int))]).map D.lst)with|some d=>aP.rt d|none=>aP.no)=_
 rw[e]
 rfl
def Yg:T.Pr 22 8 2 xh:=by
 letI:KK:=⟨K,ad.dk⟩
 have:=yB T
 have:=xN T
 have:=YV T
 refine xZ ?_ zaF
 walk_at "p"
end
def ux {m:Nat}{g:zM}{ds:zl}{R:D->Prop}(e:ds.map .v++Q0a (m-↥ds) .no=ρ)(q:(g ρ).w (λ_=>R .non) bO bO R):∃ d,aK m g ds≈d/\R d:=by
 unfold aK
 rw[e]
 cases a:g ρ with
 |nx c=>rw[a]at q;exact⟨_,rfl,q.nxi⟩
 |rt b=>rw[a]at q;exact⟨_,rfl,q.rti⟩
 |bk _=>rw[a]at q;exact q.bki.elim
 |ct _=>rw[a]at q;exact q.cti.elim
 |no=>rw[a]at q;exact q.noi.elim
section
variable {P:zO}{w:Q0k}{K:zA}{mg:wA}{base:Heap}{ad:cJ}(T:Txt P w K mg base ad)
abbrev VL :=zG (xn false 2 (zg vt (zg V1 (zg yh (zg yh (zg vt (zc 0) (eC (.int 2147483647))) (zg V1 (eC (.int 977)) (zc 1))) (eC (.int 1))) (eC (.int 48271))) (eC (.int 2147483647))))
  (zG (xn false 2 (zg vt (zg V1 (zc 2) (zc 2)) (eC (.int 2147483629))))
  (zG (xn false 2 (zg vt (zg V1 (zg yh (zc 2) (zg V1 (eC (.int 40692)) (zg yh (zc 1) (eC (.int 3))))) (eC (.int 69621))) (eC (.int 2147483647))))
  (yf (zg vO (zc 2) (eC (.int 8))))))
def zem:=aK 3 VL
def z9:x9
 |[.int c,.int k]=>some (.int (cC c k))
 |_=>none
def GR {i:Int}(b:-(2^64)<i)(a:i<2^64):XG i j=true:=j3 (.inl ⟨b,a⟩)
def Ow {j:Int}(b:-(2^64)<j)(a:j<2^64):XG i j=true:=j3 (.inr ⟨b,a⟩)
def VH (h:XG i j=true):V1 (.int i) (.int j)≈(.int (i*j)):=by
 show(if XG i j then _ else none)=_
 rw[t5 h]
def wg {j:Int}(h:0<j):vt (.int i) (.int j)≈(.int (i%j)):=by
 show(if decide (0<j) then _ else none)=_
 rw[t5 (j3 h)]
def WB {j:Int}(h:0<j)(a:j<1606938044258990275541962092341162602522202993782792835301376):vO (.int i) (.int j)≈(.int (i/j)):=by
 show(if decide (0<j/\j<1606938044258990275541962092341162602522202993782792835301376) then _ else none)=_
 rw[t5 (j3 ⟨h,a⟩)]
def zcd:∀ e d,↥e=2->z9 e≈d->zem e≈d:=by
 intro e d p h
 obtain⟨a,b,rfl⟩:=eH p
 cases a <;> try cases h
 cases b <;> try cases h
 rename_i c k
 have l:=mX ((c%2147483647+977*k+1)*48271) (show(2147483647:Int)≠0 by decide)
 have j:=Cm ((c%2147483647+977*k+1)*48271) (show(0:Int)<2147483647 by decide)
 have s:XG 977 k=true:=GR ⋯ ⋯
 have r:XG (c%2147483647+977*k+1) 48271=true:=Ow ⋯ ⋯
 obtain⟨x,f⟩:∃ x,(c%2147483647+977*k+1)*48271%2147483647=x:=⟨_,rfl⟩
 rw[f]at l j
 have n:XG x x=true:=GR (Int.lt_of_lt_of_le ⋯ l) (Int.lt_trans j ⋯)
 have q:XG 40692 (k+3)=true:=GR ⋯ ⋯
 have o:∀ x,XG x 69621=true:=λx=>Ow ⋯ ⋯
 obtain⟨y,i⟩:∃ y,x*x%2147483629=y:=⟨_,rfl⟩
 obtain⟨z,m⟩:∃ z,(y+40692*(k+3))*69621%2147483647=z:=⟨_,rfl⟩
 have g:cC c k=z/8:=by
  show((((c%2147483647+977*k+1)*48271%2147483647)*((c%2147483647+977*k+1)*48271%2147483647)%2147483629+40692*(k+3))*69621%2147483647/8)=_
  rw[f,i,m]
 rw[g]
 refine w4 (ρ:=[.v (.int c),.v (.int k),.no]) rfl ?_
 unfold VL
 refine zu (ρ':=[.v (.int c),.v (.int k),.v (.int x)]) (xG ?_) ?_
 .show(((((vt (.int c) (.int 2147483647)).bind λa=>(V1 (.int 977) (.int k)).bind λb=>yh a b).bind λa=>yh a (.int 1)).bind λa=>V1 a (.int 48271)).bind λa=>vt a (.int 2147483647))=_
  rw[wg ⋯,VH s]
  show((V1 (.int (c%2147483647+977*k+1)) (.int 48271)).bind λa=>vt a (.int 2147483647))=_
  rw[VH r,<- f]
  exact wg ⋯
 refine zu (ρ':=[.v (.int c),.v (.int k),.v (.int y)]) (xG ?_) ?_
 .show((V1 (.int x) (.int x)).bind λa=>vt a (.int 2147483629))=_
  rw[VH n,<- i]
  exact wg ⋯
 refine zu (ρ':=[.v (.int c),.v (.int k),.v (.int z)]) (xG ?_) ?_
 .show((((V1 (.int 40692) (.int (k+3))).bind λb=>yh (.int y) b).bind λa=>V1 a (.int 69621)).bind λa=>vt a (.int 2147483647))=_
  rw[VH q]
  show((V1 (.int (y+40692*(k+3))) (.int 69621)).bind λa=>vt a (.int 2147483647))=_
  rw[VH (o _),<- m]
  exact wg ⋯
 exact wz (ye (show vO (.int z) (.int 8)=_ from WB ⋯ ⋯)) rfl
def vC:T.Pr 48 1 2 z9:=by
 letI:KK:=⟨K,ad.dk⟩
 refine xZ ?_ zcd
 walk_at "p"
def RX {i j:Int}(d:0<=i)(c:i<=1000)(a:0<=j)(b:j<=60):cT [.int i,.int j]≈(ZS i (j-i).toNat):=by
 show(if zi9 i=true/\zi9 j then some (ZS i (j-i).toNat)else none)=_
 rw[t5 ⟨yq.mpr ⟨by(clear b a c;omega),by(clear b a;omega)⟩,yq.mpr ⟨by omega,by omega⟩⟩]
def RQ {j:Int}(b:0<=j)(a:j<=1000000):Wy [.int j]≈(ZS 0 j.toNat):=by
 show(if zi9 j then some (ZS 0 j.toNat)else none)=_
 rw[t5 (yq.mpr ⟨by omega,by omega⟩)]
abbrev Zu :=xn false 1 (zg yh (zc 1) (xm (aL (dB cT (za (zg yh (zc 2) (eC (.int 1))) (za (zc 0) zh))) b1 yN (X8 (za (zc 3) (za (zc 0) zh))))))
abbrev XW :=zG (xn false 1 (xm (yX zh)))
  (zG (Xm Wy (za (zc 0) zh) (xE 2) Zu)
  (yf (zc 1)))
def zdi:=aK 3 XW
def ws:x9
 |[.int n]=>if decide (0<=n/\n<=8) then some (.lst ((wo n.toNat).map zd))else none
 |_=>none
def zbn:∀ b d,↥b=1->ws b≈d->zdi b≈d:=by
 intro b d o h
 obtain⟨a,rfl⟩:=lJ o
 cases a <;> try cases h
 rename_i n
 obtain⟨g,rfl⟩:=dZ h
 have g:0<=n/\n<=8:=j8 g
 clear h o
 obtain⟨k,f⟩:∃ k:Nat,n.toNat=k:=⟨_,rfl⟩
 have m:k<=8:=by omega
 have q:n=(k:Int):=by omega
 rw[f]
 have s:Wy [.int n]≈(ZS 0 k):=by rw[RQ g.1 ∅,f]
 clear f
 refine w4 (ρ:=[.v (.int n),.no,.no]) rfl ?_
 unfold XW
 have u:xn false 1 (xm (yX zh)) [.v (.int n),.no,.no]=.nx [.v (.int n),.v (.lst []),.no]:=rfl
 refine zu u (yE (Ve (lo:=0) (c:=k) (λi ρ=>∃ l,ρ=[.v (.int n),.v (.lst ((wd k i).map zd)),l]) s ⟨.no,rfl⟩ ?_ ?_))
 .rintro i ρ v ⟨l,rfl⟩
  refine⟨_,rfl,?_⟩
  obtain⟨x,p⟩:∃ x:Int,(0:Int)+(i:Int)=x:=⟨_,rfl⟩
  rw[p]
  unfold Zu
  refine vE (ρ':=[.v (.int n),.v (.lst ((wd k (i+1)).map zd)),.v (.int x)]) (xG (d:=.lst ((wd k (i+1)).map zd)) ?_) ⟨_,rfl⟩
  have e:aL (dB cT (za (zg yh (zc 2) (eC (.int 1))) (za (zc 0) zh))) b1 yN (X8 (za (zc 3) (za (zc 0) zh))) [some (.int n),some (.lst ((wd k i).map zd)),some (.int x)]≈((jN i (k-(i+1))).map zd):=by
   have t:cT [.int (x+1),.int n]≈(ZS (x+1) (k-(i+1))):=by
    rw[RX ∅ ∅ ∅ ∅]
    have r:(n-(x+1)).toNat=k-(i+1):=by omega
    rw[r]
   unfold aL
   show(cT [.int (x+1),.int n]).bind _=_
   rw[t]
   show(if aU (ZS (x+1) (k-(i+1))).length then _ else none)=_
   rw[t5 (yV (by rw[v8];omega))]
   unfold jN
   rw[l4]
   refine wM (λj:Nat=>D.int (x+1+(j:Int))) _ (Q0g (k-(i+1))) λj _=>⟨[some (.int (x+1+(j:Int)))],rfl,rfl,?_⟩
   show some (D.tup [.int x,.int (x+1+(j:Int))])≈(D.tup [.int (i:Int),.int ((i:Int)+1+(j:Int))])
   rw[<-p,gb]
  show(((aL (dB cT (za (zg yh (zc 2) (eC (.int 1))) (za (zc 0) zh))) b1 yN (X8 (za (zc 3) (za (zc 0) zh))) [some (.int n),some (.lst ((wd k i).map zd)),some (.int x)]).map D.lst).bind λy=>yh (.lst ((wd k i).map zd)) y)=_
  rw[e]
  show yh (.lst ((wd k i).map zd)) (.lst ((jN i (k-(i+1))).map zd))=_
  rw[vz (by rw[u5,u5,Wl];have:=zfI k m i;omega),X5,r8]
 .rintro ρ ⟨l,rfl⟩
  refine wz rfl ?_
  rw[ziW]
def zaZ:T.Pr 47 1 1 ws:=by
 letI:KK:=⟨K,ad.dk⟩
 refine xZ ?_ zbn
 walk_at "p"
abbrev vb :=zG (aH (ZC (aq (zg wB (zg vt (zc 1) (eC (.int 2))) (eC (.int 0)))) (aq (zg wB (zg vt (zg lC (zg vO (zc 1) (eC (.int 2))) (zc 3)) (eC (.int 2))) (eC (.int 1))))) (dh false 2 (zc 4)) zL)
  (aH (ZC (aq (zg wB (zg vt (zc 1) (eC (.int 2))) (eC (.int 1)))) (aq (zg nO (zg vt (zi 2 z9 (za (zc 1) (za (zc 3) zh))) (eC (.int 5))) (zg yh (eC (.int 2)) (zg vt (zg vO (zc 1) (eC (.int 2))) (eC (.int 2))))))) (dh false 2 (zc 4)) zL)
abbrev v4 :=zG (cX 2 (yX zh))
  (zG (cA (WZ (za (zi 1 ws (za (zc 0) zh)) zh)) (gZ 2 (ZJ (xE 3) (ZJ (xE 4) jd))) vb)
  (dX 2 (yf (X8 (za (zc 0) (za (aF vR (za (zc 2) zh)) zh))))))
def xP:=aK 5 v4
def znH {k:Int}(h:0<=k):lC (.int a) (.int k)≈(.int (a/2^k.toNat)):=by
 show(if decide (0<=k) then some (D.int (a/2^k.toNat))else none)=_
 rw[t5 (j3 h)]
def Kc (l:ρ[1]?≈(some (.int c)))(i:ρ[3]?≈(some (.int x)))(j:0<=x) :
 (∃ b,ZC (aq (zg wB (zg vt (zc 1) (eC (.int 2))) (eC (.int 0)))) (aq (zg wB (zg vt (zg lC (zg vO (zc 1) (eC (.int 2))) (zc 3)) (eC (.int 2))) (eC (.int 1)))) ρ≈(decide (c%2=0)&&b)) /\
 ∃ b,ZC (aq (zg wB (zg vt (zc 1) (eC (.int 2))) (eC (.int 1)))) (aq (zg nO (zg vt (zi 2 z9 (za (zc 1) (za (zc 3) zh))) (eC (.int 5))) (zg yh (eC (.int 2)) (zg vt (zg vO (zc 1) (eC (.int 2))) (eC (.int 2)))))) ρ≈(decide (c%2=1)&&b):=by
 have d:zc 1 ρ≈(.int c):=by unfold zc;rw[l];rfl
 have f:zc 3 ρ≈(.int x):=by unfold zc;rw[i];rfl
 have g:vO (.int c) (.int 2)≈(.int (c/2)):=WB ⋯ ⋯
 have h:∀ k:Int,aq (zg wB (zg vt (zc 1) (eC (.int 2))) (eC (.int k))) ρ≈(decide (c%2=k)):=λk=>by
  show(((zc 1 ρ).bind λa=>vt a (.int 2)).bind λy=>wB y (.int k)).bind bf=_
  rw[d,q7,wg ⋯]
  rfl
 constructor
 .refine⟨decide (c/2/2^x.toNat%2=1),?_⟩
  have e:aq (zg wB (zg vt (zg lC (zg vO (zc 1) (eC (.int 2))) (zc 3)) (eC (.int 2))) (eC (.int 1))) ρ≈(decide (c/2/2^x.toNat%2=1)):=by
   show(((((zc 1 ρ).bind λa=>vO a (.int 2)).bind λa=>(zc 3 ρ).bind λb=>lC a b).bind λa=>vt a (.int 2)).bind λy=>wB y (.int 1)).bind bf=_
   rw[d,f,q7,g,q7,q7,znH j,q7,wg ⋯]
   rfl
  unfold ZC
  rw[h,q7,e]
  cases decide (c%2=0) <;> rfl
 .refine⟨decide (cC c x%5<2+c/2%2),?_⟩
  have m:zi 2 z9 (za (zc 1) (za (zc 3) zh)) ρ≈(.int (cC c x)):=by
   unfold zi za
   rw[d,f]
   rfl
  have e:aq (zg nO (zg vt (zi 2 z9 (za (zc 1) (za (zc 3) zh))) (eC (.int 5))) (zg yh (eC (.int 2)) (zg vt (zg vO (zc 1) (eC (.int 2))) (eC (.int 2))))) ρ≈(decide (cC c x%5<2+c/2%2)):=by
   show((((zi 2 z9 (za (zc 1) (za (zc 3) zh)) ρ).bind λa=>vt a (.int 5)).bind λa=>((((zc 1 ρ).bind λa=>vO a (.int 2)).bind λa=>vt a (.int 2)).bind λy=>yh (.int 2) y).bind λb=>nO a b)).bind bf=_
   rw[m,d,q7,q7,wg ⋯,g,q7,q7,wg ⋯]
   rfl
  unfold ZC
  rw[h,q7,e]
  cases decide (c%2=1) <;> rfl
def Td {x:Int}{a:zy}{t:aY}{N:vl}(e:0<=x)(l:(a.map zd).length<=1000)(q:N [.v (.int n),.v (.int c),.o (a.map zd),.v (.int x),.v (zd t)])(b:N [.v (.int n),.v (.int c),.o ((a++[t]).map zd),.v (.int x),.v (zd t)]) :
 (vb [.v (.int n),.v (.int c),.o (a.map zd),.v (.int x),.v (zd t)]).w N B C R:=by
 rw[r8]at b
 unfold vb
 obtain⟨⟨b1,r⟩,b2,h⟩:=Kc (ρ:=visG [.v (.int n),.v (.int c),.o (a.map zd),.v (.int x),.v (zd t)]) (c:=c) (x:=x) rfl rfl e
 obtain⟨_,b3,j⟩:=Kc (ρ:=visG [.v (.int n),.v (.int c),.o (a.map zd++[zd t]),.v (.int x),.v (zd t)]) (c:=c) (x:=x) rfl rfl e
 have g:=qi (m:=false) (i:=2) (f:=zc 4) (ρ:=[.v (.int n),.v (.int c),.o (a.map zd),.v (.int x),.v (zd t)]) (ds:=a.map zd) (d:=zd t) rfl rfl l
 refine yE (ZQ r (λk=>vE g ?_) (λ_=>vE rfl (ZQ h (λ_=>vE g b) (λ_=>vE rfl q))))
 refine ZQ j (λo=>?_) (λ_=>vE rfl b)
 have h0:c%2=0:=j8 (Bool.and_eq_true_iff.mp k).1
 have p:c%2=1:=j8 (Bool.and_eq_true_iff.mp o).1
 exact absurd (h0.symm.trans p) ⋯
def Rh {n:Int}(u:1<=n)(s:n<=8):∃ a,xP [.int n,.int c]≈(aa n a)/\a.Sublist (wo n.toNat):=by
 have key:=ux (m:=5) (g:=v4) (ds:=[.int n,.int c]) (R:=λd=>∃ a:zy,d=aa n a/\a.Sublist (wo n.toNat)) rfl ?_
 .obtain⟨d,e,a,rfl,f⟩:=key
  exact⟨a,e,f⟩
 unfold v4
 refine zu rfl ?_
 have r:ws [.int n]≈(.lst ((wo n.toNat).map zd)):=by
  show(if decide (0<=n/\n<=8) then some (D.lst ((wo n.toNat).map zd))else none)=_
  rw[t5 (j3 ⟨by omega,by omega⟩)]
 have q:=(WY n.toNat ∅).2.2
 refine yE (Xn (ds:=ZE 0 ((wo n.toNat).map zd)) (λi ρ=>∃ a k j,ρ=[.v (.int n),.v (.int c),.o (a.map zd),k,j]/\a.Sublist ((wo n.toNat).take i)) ?_ ⟨[],.no,.no,rfl,List.nil_sublist _⟩ ?_ ?_)
 .show((ws [.int n]).bind λd=>(some []:Option zl).map (d::·)).bind _=_
  rw[r]
  rfl
 .rintro i d ρ o ⟨a,k,j,rfl,f⟩
  rw[vk]at o
  obtain⟨v,h,rfl⟩:=u8.mp o
  rw[q4]at h
  obtain⟨t,l,rfl⟩:=u8.mp h
  rw[i3]
  have b:(wo n.toNat).take (i+1)=(wo n.toNat).take i++[t]:=by rw[Cd,l];rfl
  have p:↥a<=28:=k8 f.length_le (k8 (List.length_take_le _ _) (by have:=(t8.mp l).1;omega))
  refine⟨_,rfl,Td (Int.natCast_nonneg i) (by rw[u5];omega) ⟨a,_,_,rfl,?_⟩ ⟨a++[t],_,_,rfl,?_⟩⟩
  .rw[b];exact f.trans (List.sublist_append_left _ _)
  .rw[b];exact f.append (List.Sublist.refl _)
 .rintro ρ ⟨a,k,j,rfl,f⟩
  exact gw rfl (wz rfl ⟨a,rfl,f.trans (CG _ _)⟩)
def Zq:T.Pr 49 2 2 xP:=by
 have:=zaZ T
 have:=vC T
 walk_at "p"
end
abbrev Xi (r:x9) :=aH (xF (aq (zi 2 r (za (zc 2) (za (zc 3) zh))))) (yf (eC (.bl false))) zL
abbrev xI (r:x9) :=zG (aH (aq (zg gP (zc 1) (eC .non))) (yf (zg gP (zc 0) (eC .non))) zL)
  (zG (aH (aq (aZ (wZ .bool) (zc 1))) (yf (cz (aZ (wZ .bool) (zc 0)) (zg wB (zc 0) (zc 1)))) zL)
  (zG (aH (aq (aZ (wZ .int) (zc 1))) (yf (cz (aZ (wZ .int) (zc 0)) (cz (Ec (aZ (wZ .bool) (zc 0))) (zg wB (zc 0) (zc 1))))) zL)
  (zG (aH (aq (aZ (wZ .str) (zc 1))) (yf (cz (aZ (wZ .str) (zc 0)) (zg wB (zc 0) (zc 1)))) zL)
  (zG (aH (dg (aq (zg bW (aZ (wZ .list) (zc 1)) (aZ (wZ .list) (zc 0)))) (aq (zg bW (aZ (wZ .tuple) (zc 1)) (aZ (wZ .tuple) (zc 0))))) (yf (eC (.bl false))) zL)
  (zG (aH (aq (zg bW (aF Xr (za (zc 0) zh)) (aF Xr (za (zc 1) zh)))) (yf (eC (.bl false))) zL)
  (zG (cA (K7 (za (zc 0) (za (zc 1) zh))) (gZ 2 (ZJ (xE 2) (ZJ (xE 3) jd))) (Xi r))
  (yf (eC (.bl true)))))))))
def ZL:x9:=oM 4 xI 2
def zcu (T:Txt P w K mg base ad):T.Pr 52 3 2 ZL:=by
 letI:KK:=⟨K,ad.dk⟩
 have R:∀ n,wt P w K mg base aV (1+n) (ad.f 52) (ad.e 52) (Rw 52).ps (cH 2 (oM 4 xI n)):=by
  refine Uy (P:=P) (w:=w) (mg:=mg) (base:=base) (k0:=1) (g:=xI) (T.d 52).fn (sc 52) λk r a b A outer s H E c=>?_
  unfold xI Xi
  have a:T.Pr 52 (1+k) 2 r:=a
  apply zk <;> walk_at "s"
 exact R 2
section
variable {P:zO}{w:Q0k}{K:zA}{mg:wA}{base:Heap}{ad:cJ}(T:Txt P w K mg base ad)
def Ov {k:Nat}(ok:yd m b):k∈bL m b a↔bZ b a (k:Int):=by
 unfold bL
 rw[eU,k7,p4]
 unfold Yz bZ
 constructor
 .rintro⟨_,h⟩
  by_cases c:(k:Int)<a
  .rw[t5 c,j5 ∅]at h;exact .inr h
  .rw[j5 c]at h
   by_cases d:(k:Int)>a
   .rw[t5 d]at h;exact .inl h
   .rw[j5 d]at h
    have:a=(k:Int):=by omega
    rw[<-this]
    exact .inl h
 .rintro(h|h)
  .have:=ok.rng _ h
   simp only at this
   rw[j5 ∅,t5 ∅]
   exact⟨by omega,h⟩
  .have:=ok.rng _ h
   simp only at this
   rw[t5 ∅,j5 ∅]
   exact⟨by omega,h⟩
structure VQ (m:Int) (ts:zy) (p:Int) (L:Nat) (fs:vJ) (rim:zr):Prop where
 len:↥fs=m.toNat
 sound:∀ v k,0<=v->v<m->bj fs v≈k->∃ j:Nat,k=(j:Int)/\j<=L/\bI ts p v j
 full:∀ v (j:Nat),j<=L->bI ts p v j->bj fs v≈(j:Int)
 rim:∀ v,v∈rim↔bI ts p v L
structure V4 (m:Int) (ts:zy) (p:Int) (L:Nat) (fs:vJ) (fu:zr) (S:Int->Prop):Prop where
 len:↥fs=m.toNat
 sound:∀ v k,0<=v->v<m->bj fs v≈k->(∃ j:Nat,k=(j:Int)/\j<=L/\bI ts p v j)\/v∈fu
 full:∀ v (j:Nat),j<=L->bI ts p v j->bj fs v≈(j:Int)
 fur:∀ v∈fu,bI ts p v (L+1)/\bj fs v≈((L+1:Nat):Int)
 done:∀ v,S v->bj fs v≠none
def VQ.mid (h:VQ m d p L c a){S:Int->Prop}(f:∀ v,¬ S v):V4 m d p L c [] S :=
 ⟨h.len,λv k g i e=>.inl (h.sound v k g i e),h.full,λv b=>(by cases b),λv b=>absurd b (f v)⟩
def V4.imp {S S':Int->Prop}(h:V4 m b p L a c S)(d:∀ v,S' v->S v\/bj a v≠none):V4 m b p L a c S' :=
 ⟨h.len,h.sound,h.full,h.fur,λv e=>(d v e).elim (h.done v) id⟩
def V4.add {l:vJ}{S:Int->Prop}{b:Int}(ok:yd m n)(h:V4 m n p L l A S)(E:bI n p a L)(q:bZ n a b)(o:bj l b=none){x:Int}(F:x=((L+1:Nat):Int)) :
 V4 m n p L (l.set b.toNat (some x)) (A++[b]) (λv=>S v\/v=b):=by
 subst F
 obtain⟨_,t,b1⟩:=q.rng ok
 have w:=h.len
 have D:=Qu t b1 w
 have G:bI n p b (L+1):=⟨.step E.1 q,λi r=>by
  obtain⟨j,s⟩:=Lr r
  by_cases c:j<=L
  .rw[h.full b j c s]at o;cases o
  .have:=s.2 _ r;omega⟩
 have f:∀ v,0<=v->bj (l.set b.toNat (some ((L+1:Nat):Int))) v=if v=b then some ((L+1:Nat):Int)else bj l v:=λv g=>Ha t D g
 have H:∀ v,bj l v≠none->bj (l.set b.toNat (some ((L+1:Nat):Int))) v≠none:=λv d=>by
  by_cases g:0<=v
  .rw[f v g]
   split
   .intro z;cases z
   .exact d
  .unfold bj at d ⊢
   rw[fY]
   split
   .split
    .intro z;cases z
    .rename_i J M
     omega
   .exact d
 refine⟨by rw[qX];exact w,λv k g I e=>?_,λv j s d=>?_,λv d=>?_,λv d=>?_⟩
 .rw[f v g]at e
  by_cases c:v=b
  .exact .inr (by rw[c];simp)
  .rw[j5 c]at e
   exact(h.sound v k g I e).imp id λz=>o0.mpr (.inl z)
 .have e:=h.full v j s d
  have:v≠b:=λz=>by rw[z,o]at e;cases e
  by_cases g:0<=v
  .rw[f v g,j5 this];exact e
  .unfold bj at e ⊢
   rw[fY]
   split
   .rename_i c
    have B:v.toNat=0:=by omega
    rw[B]at c e
    unfold bj at o
    rw[c]at o
    rw[o]at e
    cases e
   .exact e
 .rcases o0.mp d with d|d
  .obtain⟨y,C⟩:=h.fur v d
   refine⟨y,?_⟩
   have g:0<=v:=by
    obtain⟨K,_,u⟩:=y.1.inv
    exact(u.rng ok).2.1
   rw[f v g]
   split
   .rfl
   .exact C
  .cases t7.mp d
   exact⟨G,by rw[f _ t,t5 rfl]⟩
 .rcases d with d|rfl
  .exact H v (h.done v d)
  .rw[f _ t,t5 rfl]
   intro z;cases z
def V4.end {f:zy}{t:zr}{S:Int->Prop}(ok:yd m f)(h:V4 m f p L q t S)(A:∀ a b,bI f p a L->bZ f a b->S b):VQ m f p (L+1) q t:=by
 have key:∀ v,bI f p v (L+1)->v∈t:=λv d=>by
  obtain⟨a,y,g⟩:=d.1.inv
  have o:bI f p a L:=⟨y,λi r=>by have:=d.2 _ (.step r g);omega⟩
  have x:=(g.rng ok).2
  have n:=h.done v (A a v o g)
  cases e:bj q v with
  |none=>exact absurd e n
  |some k =>
   rcases h.sound v k x.1 x.2 e with ⟨j,_,u,l⟩|s
   .have:=l.uniq d;omega
   .exact s
 refine⟨h.len,λv k z C e=>?_,λv j u d=>?_,λv=>⟨λd=>(h.fur v d).1,key v⟩⟩
 .rcases h.sound v k z C e with ⟨j,B,u,l⟩|s
  .exact⟨j,B,by omega,l⟩
  .obtain⟨l,w⟩:=h.fur v s
   rw[e]at w
   cases w
   exact⟨L+1,rfl,t6 _,l⟩
 .by_cases c:j<=L
  .exact h.full v j c d
  .obtain rfl:j=L+1:=by omega
   exact(h.fur v (key v d)).2
def zfW (L:Nat):∀ (k:Nat) (v:Int),bI e p v k->L<=k->∃ u,bI e p u L:=by
 intro k
 induction k with
 |zero=>intro v d f;exact⟨v,by rwa[show L=0 by omega]⟩
 |succ k h =>
  intro v d f
  by_cases c:L=k+1
  .exact⟨v,by rwa[c]⟩
  .obtain⟨a,g,b⟩:=d.1.inv
   exact h a ⟨g,λi r=>by have:=d.2 _ (.step r b);omega⟩ ∅
def VQ.end (h:VQ m d p L b []):b=dz m d p:=by
 refine zoU (by rw[h.len,Zz]) λv f o=>?_
 have g:v<m:=by have:=h.len;omega
 rw[Hm f g]
 rcases XQ d p v with ⟨k,e,a⟩|⟨e,a⟩
 .rw[e]
  by_cases c:k<=L
  .exact h.full v k c a
  .obtain⟨u,n⟩:=zfW L k v a ∅
   have:=(h.rim u).mpr n
   cases this
 .rw[e]
  cases i:bj b v with
  |none=>rfl
  |some k =>
   obtain⟨j,_,_,l⟩:=h.sound v k f g i
   exact absurd l.1 (a j)
def VQ.start {m:Int}{p:Int}(a:0<=p/\p<m):VQ m b p 0 ((Q0a m.toNat none).set p.toNat (some 0)) [p]:=by
 have d:p<((Q0a m.toNat (none:yl)).length:Int):=by rw[jt];omega
 have l:∀ v,bj (Q0a m.toNat (none:yl)) v=none:=λv=>by
  unfold bj
  rw[p8]
  split <;> rfl
 have f:∀ v,bI b p v 0->v=p:=λv h=>by
  have:=h.1
  cases this
  rfl
 have g:bI b p p 0:=⟨.zero,λ_ _=>cO _⟩
 refine⟨by simp,λv k i q e=>?_,λv j o n=>?_,λv=>⟨λh=>?_,λh=>?_⟩⟩
 .rw[Ha a.1 d i,l]at e
  by_cases c:v=p
  .rw[t5 c]at e;cases e
   exact⟨0,rfl,t6 _,by rw[c];exact g⟩
  .rw[j5 c]at e;cases e
 .obtain rfl:j=0:=by omega
  cases f v n
  rw[Ha a.1 d a.1,t5 rfl]
  rfl
 .cases t7.mp h
  exact g
 .rw[f v h]
  exact t7.mpr rfl
def cN (a:vJ):Nat:=a.countP Option.isNone
def QL:∀ {fs:vJ} {k:Nat} {x:Int},k<↥fs->fs[k]?≈none->cN (fs.set k (some x))+1=cN fs
 |[],k,x,h,_=>by simp at h
 |f::fs,0,x,_,h=>by
  have h:some f≈none:=h
  cases h
  simp[cN]
 |f::fs,k+1,x,h,h2=>by
  have a:=QL (fs:=fs) (k:=k) (x:=x) (by simpa using h) (by simpa using h2)
  unfold cN at a ⊢
  rw[List.set_cons_succ,By,By]
  omega
def Dz:D->Bool
 |.non=>true
 |_=>false
def zjT (a:vJ):(a.map wE).countP Dz=cN a:=by
 unfold cN
 rw[List.countP_map]
 congr 1
 funext o
 cases o <;> rfl
abbrev Ya :=aH (aq (zg gP (zg aB (zc 2) (zc 6)) (eC .non))) (zG (gY true 2 (zc 6) (zg yh (zg aB (zc 2) (zc 5)) (eC (.int 1))))
  (dh false 4 (zc 6))) zL
abbrev v9 :=cA (bc (zi 2 yc (za (zc 0) (za (zc 5) zh)))) (xE 6) Ya
abbrev Yn :=zG (cX 4 (yX zh))
  (zG (cA (bc (zc 3)) (xE 5) v9)
  (dX 4 (xn false 3 (zc 4))))
abbrev Vl :=zG (cX 2 (sU jf (xm (yX (za (eC .non) zh))) (zg aB (zc 0) (eC (.int 0)))))
  (zG (gY false 2 (zc 1) (eC (.int 0)))
  (zG (xn false 3 (xm (yX (za (zc 1) zh))))
  (zG (Yu (aq (zg dH (aF Xr (za (zc 3) zh)) (eC (.int 0)))) Yn 1000)
  (dX 2 (yf (zc 2))))))
def w6:=aK 7 Vl
def SJ:SE->Nat
 |[_,_,.o ds,.v (.lst rs),_,_,_]=>2*ds.countP Dz+(if rs.isEmpty then 0 else 1)
 |_=>0
def FJ (a b e g f:Sl)(c:vJ)(d:zl):SJ [a,b,.o (c.map wE),.v (.lst d),e,g,f]=2*cN c+(if d.isEmpty then 0 else 1):=by
 show 2*(c.map wE).countP Dz+_=_
 rw[zjT]
def Ur {x:Int}{b:vJ}{e:zr}{N:vl}(i:0<=x)(k:x<((b.map wE).length:Int))(ex:L2.atI (b.map wE) x≈(wE (bj b x)))(j:L2.atI (b.map wE) a≈(.int L))(g:(e.map D.int).length<=1000)(m:bj b x=none->N [.v W,.v (.int p),.o ((b.set x.toNat (some (L+1))).map wE),.v h,.o ((e++[x]).map .int),.v (.int a),.v (.int x)])(l:bj b x≠none->N [.v W,.v (.int p),.o (b.map wE),.v h,.o (e.map .int),.v (.int a),.v (.int x)]) :
 (Ya [.v W,.v (.int p),.o (b.map wE),.v h,.o (e.map .int),.v (.int a),.v (.int x)]).w N B C R:=by
 unfold Ya
 cases f:bj b x with
 |none =>
  rw[f]at ex
  refine ZQ (c:=true) (by show(((L2.atI (b.map wE) x).bind λd=>gP d .non).bind bf)=_;rw[ex];rfl) (λ_=>?_) (λz=>by cases z)
  refine yE (uL (b.map wE) (.int (L+1)) x ?_ rfl rfl i k ?_)
  .show((((L2.atI (b.map wE) a).bind λx=>yh x (.int 1))).bind λd=>if bA d then some d else none)=_
   rw[j]
   rfl
  have q:=m f
  rw[r8,Br]at q
  exact vE (qi (ds:=e.map .int) (d:=.int x) rfl rfl g) q
 |some kx =>
  rw[f]at ex
  refine ZQ (c:=false) (by show(((L2.atI (b.map wE) x).bind λd=>gP d .non).bind bf)=_;rw[ex];rfl) (λz=>by cases z) (λ_=>vE rfl (l λz=>?_))
  rw[f]at z
  cases z
structure V3 (m:Int) (ts:zy) (p:Int) (L c:Nat) (S:Int->Prop) (gs:vJ) (fu:zr):Prop where
 mid:V4 m ts p L gs fu S
 cnt:↥fu+cN gs=c
def V3.imp {S S':Int->Prop}(h:V3 m b p L c S a d)(k:∀ v,S' v->S v\/bj a v≠none):V3 m b p L c S' a d:=⟨h.mid.imp k,h.cnt⟩
def V3.put {x:Int}{S S':Int->Prop}{b:vJ}{g:zr}(ok:yd m d)(h:V3 m d p L c S b g)(j:bI d p a L)(i:bZ d a x)(q:0<=x/\x<m)(f:bj b x=none)(k:∀ v,S' v->S v\/v=x):V3 m d p L c S' (b.set x.toNat (some ((L:Int)+1))) (g++[x]):=by
 have o:=h.mid.len
 have e:x.toNat<↥b:=by omega
 have l:b[x.toNat]?≈none:=by
  unfold bj at f
  rw[j7 e]at f ⊢
  exact bJ some f
 have:=QL (fs:=b) (k:=x.toNat) (x:=(L:Int)+1) e l
 refine⟨(h.mid.add ok j i f rfl).imp λv n=>.inl ((k v n).imp id id),?_⟩
 rw[j9,Q1X,<- h.cnt]
 omega
def Tp {f:zy}{p:Int}{c i:Nat}{o:zr}{g:vJ}{l:zr}{w:Sl}{N:vl}(ok:yd m f)(P:0<=p/\p<m)(S:c<=1000)(y:bI f p a L)(J:o[i]?≈a)(h:V3 m f p L c (λv=>∃ a∈o.take i,bZ f a v) g l)(q:∀ g l w,V3 m f p L c (λv=>∃ a∈o.take (i+1),bZ f a v) g l->N [.v (aa m f),.v (.int p),.o (g.map wE),.v H,.o (l.map .int),.v (.int a),w]) :
 (v9 [.v (aa m f),.v (.int p),.o (g.map wE),.v H,.o (l.map .int),.v (.int a),w]).w N B C R:=by
 have u:=y.1.rng ok P
 unfold v9
 refine Xn (ds:=(bL m f a).map Xs) (λj ρ=>∃ (g:vJ) (l:zr) (w:Sl),ρ=[.v (aa m f),.v (.int p),.o (g.map wE),.v H,.o (l.map .int),.v (.int a),w]/\V3 m f p L c (λv=>(∃ a∈o.take i,bZ f a v)\/∃ k∈(bL m f a).take j,v=(k:Int)) g l) ?_ ⟨g,l,_,rfl,h.imp (λv s=>.inl (s.elim id λz=>by obtain⟨k,G,_⟩:=z;cases G))⟩ ?_ ?_
 .have Q:yc [aa m f,.int a]≈(.lst ((bL m f a).map Xs)):=by
   show(if xM (aa m f) then some (D.lst ((bL (ir (aa m f)) (jU (aa m f)) a).map Xs))else none)=_
   rw[t5 ((yu _).mpr ⟨_,_,rfl,ok⟩),xr,xQ]
  show(yc [aa m f,.int a]).bind wW=_
  rw[Q]
  rfl
 .rintro j d ρ O ⟨g,l,w,rfl,x⟩
  rw[q4]at O
  obtain⟨k,G,rfl⟩:=u8.mp O
  have t:bZ f a (k:Int):=(Ov ok).mp (k6 G)
  have r:(bL m f a).take (j+1)=(bL m f a).take j++[k]:=by rw[Cd,G];rfl
  have n:=(t.rng ok).2
  have I:=x.mid.len
  have M:=An (fs:=g) (i:=a) u.1 u.2 I
  rw[x.mid.full a L (t6 _) y]at M
  have step:∀ v,((∃ a∈o.take i,bZ f a v)\/∃ k∈(bL m f a).take (j+1),v=(k:Int))->((∃ a∈o.take i,bZ f a v)\/∃ k∈(bL m f a).take j,v=(k:Int))\/v=(k:Int):=λv s=>by
   rcases s with s|⟨q,F,e⟩
   .exact .inl (.inl s)
   .rw[r]at F
    rcases o0.mp F with F|F
    .exact .inl (.inr ⟨q,F,e⟩)
    .cases t7.mp F
     exact .inr e
  refine⟨[.v (aa m f),.v (.int p),.o (g.map wE),.v H,.o (l.map .int),.v (.int a),.v (.int (k:Int))],by unfold Xs;rw[gb];rfl,?_⟩
  refine Ur n.1 (zh6 n.1 n.2 I) (An n.1 n.2 I) M (by rw[u5];have:=x.cnt;omega) (λK=>?_) (λK=>?_)
  .exact⟨_,_,_,rfl,x.put ok y t n K step⟩
  .exact⟨g,l,_,rfl,x.imp λv s=>(step v s).imp id λe=>by rw[e];exact K⟩
 .rintro ρ ⟨g,l,w,rfl,x⟩
  rw[u5,iK]at x
  refine q g l w (x.imp λv s=>.inl ?_)
  obtain⟨b,E,A⟩:=s
  rw[Cd,J]at E
  rcases o0.mp E with E|E
  .exact .inl ⟨b,E,A⟩
  .cases t7.mp E
   obtain⟨k,rfl⟩:=i9 (A.rng ok).2.1
   exact .inr ⟨k,(Ov ok).mpr A,rfl⟩
def Uj {g:zy}{p:Int}{c:zr}{l:vJ}{t k:Sl}{N:vl}(ok:yd m g)(w:0<=p/\p<m)(r:VQ m g p L l c)(q:∀ f e t k j,VQ m g p (L+1) f e->↥e+cN f=cN l->N [.v (aa m g),.v (.int p),.o (f.map wE),.v (.lst (e.map .int)),t,k,j]) :
 (Yn [.v (aa m g),.v (.int p),.o (l.map wE),.v (.lst (c.map .int)),t,k,j]).w N B C R:=by
 have x:cN l<=1000:=k8 Im (by rw[r.len];have:=ok.hi;omega)
 unfold Yn
 refine zu (ρ':=[.v (aa m g),.v (.int p),.o (l.map wE),.v (.lst (c.map .int)),.o (([]:zr).map .int),k,j]) rfl ?_
 refine yE (Xn (ds:=c.map .int) (λi ρ=>∃ (f:vJ) (e:zr) (k j:Sl),ρ=[.v (aa m g),.v (.int p),.o (f.map wE),.v (.lst (c.map .int)),.o (e.map .int),k,j]/\V3 m g p L (cN l) (λv=>∃ a∈c.take i,bZ g a v) f e) rfl ⟨l,[],_,_,rfl,r.mid (λv z=>by obtain⟨a,n,_⟩:=z;cases n),i3 _⟩ ?_ ?_)
 .rintro i d ρ u ⟨f,e,k,j,rfl,o⟩
  rw[q4]at u
  obtain⟨a,n,rfl⟩:=u8.mp u
  exact⟨[.v (aa m g),.v (.int p),.o (f.map wE),.v (.lst (c.map .int)),.o (e.map .int),.v (.int a),j],rfl,Tp ok w x ((r.rim a).mp (k6 n)) n o λf e j h=>⟨f,e,_,_,rfl,h⟩⟩
 .rintro ρ ⟨f,e,k,j,rfl,o⟩
  rw[u5,iK]at o
  refine gw (ρ':=[.v (aa m g),.v (.int p),.o (f.map wE),.v (.lst (c.map .int)),.v (.lst (e.map .int)),k,j]) rfl ?_
  exact vE (ρ':=[.v (aa m g),.v (.int p),.o (f.map wE),.v (.lst (e.map .int)),.v (.lst (e.map .int)),k,j]) rfl (q f e _ _ _ (o.mid.end ok λa b n s=>⟨a,(r.rim a).mpr n,s⟩) o.cnt)
def X3 {p:Int}(ok:yd m b)(q:0<=p/\p<m):w6 [aa m b,.int p]≈(.lst ((dz m b p).map wE)):=by
 have l:=ok.lo
 have n:=ok.hi
 refine w4 (ρ:=[.v (aa m b),.v (.int p),.no,.no,.no,.no,.no]) rfl ?_
 unfold Vl
 refine zu (ρ':=[.v (aa m b),.v (.int p),.o ((Q0a m.toNat none).map wE),.no,.no,.no,.no]) ?_ ?_
 .have e:=Um (d:=.non) l n
  refine Gw (ds:=(Q0a m.toNat none).map wE) ?_
  rw[List.map_replicate]
  exact e
 refine yE (uL _ (.int 0) p rfl rfl rfl q.1 (by rw[u5,jt];omega) ?_)
 rw[show((Q0a m.toNat (none:yl)).map wE).set p.toNat (.int 0)=((Q0a m.toNat none).set p.toNat (some 0)).map wE by rw[Br];rfl]
 refine zu (ρ':=[.v (aa m b),.v (.int p),.o (((Q0a m.toNat none).set p.toNat (some 0)).map wE),.v (.lst ([p].map .int)),.no,.no,.no]) rfl ?_
 refine yE (W6 (fun ρ=>∃ (L:Nat) (o:vJ) (a:zr) (i g j:Sl),ρ=[.v (aa m b),.v (.int p),.o (o.map wE),.v (.lst (a.map .int)),i,g,j]/\VQ m b p L o a) SJ ?_ 1000 _ ⟨0,_,[p],_,_,_,rfl,VQ.start q⟩ ?_)
 .rintro ρ ⟨L,o,a,i,g,j,rfl,r⟩
  refine⟨decide ((0:Int)<((a.map D.int).length:Int)),rfl,λz=>?_,λz=>?_⟩
  .refine Uj ok q r λc k i g j h s=>⟨⟨L+1,c,k,_,_,_,rfl,h⟩,?_⟩
   rw[FJ,FJ,<- s]
   cases a with
   |nil=>cases z
   |cons _ _ =>
    cases k with
    |nil=>show 2*cN c+0<2*(0+cN c)+1;omega
    |cons f k=>show 2*cN c+1<2*((↥k+1)+cN c)+1;omega
  .cases a with
   |cons _ _ =>
    have:=of_decide_eq_false z
    rw[n0,g5]at this
    omega
   |nil =>
    rw[r.end]
    exact gw (ρ':=[.v (aa m b),.v (.int p),.v (.lst ((dz m b p).map wE)),.v (.lst []),i,g,j]) rfl (wz rfl rfl)
 .rw[FJ]
  have:cN ((Q0a m.toNat (none:yl)).set p.toNat (some 0))<=_:=Im
  rw[qX,jt]at this
  show 2*cN _+1<1000
  omega
def Wf:T.Pr 15 3 2 w6:=by
 have:=ZX T
 walk_at "p"
end
def wf.cat {k:Nat}(h:wf ts p k a):∀ {j:Nat},wf ts a j b->wf ts p (k+j) b:=by
 intro j d
 induction d with
 |zero=>exact h
 |step _ c e=>exact .step e c
def wf.back {k:Nat}(h:wf c p k v):wf c v k p:=by
 induction h with
 |zero=>exact .zero
 | @step k a b _ d e =>
  have:=(wf.step (ts:=c) (p:=b) .zero d.symm).cat e
  rwa[show 0+1+k=k+1 by omega]at this
section
variable {P:zO}{w:Q0k}{K:zA}{mg:wA}{base:Heap}{ad:cJ}(T:Txt P w K mg base ad)
def WP:∀ (N:Nat) (l:Yy),l.Nodup->(∀ x∈l,x<N)->↥l<=N
 |0,l,_,h=>by
  cases l with
  |nil=>exact t6 _
  |cons a r=>exact absurd (h a (.head _)) (Nat.not_lt_zero _)
 |N+1,l,hn,h=>by
  by_cases d:N∈l
  .have f:=WP N (l.erase N) (hn.erase N) λx b=>by
    have c:=(hn.mem_erase_iff).mp b
    exact qO (i4 (h x c.2)) c.1
   rw[List.length_erase_of_mem d]at f
   omega
  .exact Ib (WP N l hn λx b=>qO (i4 (h x b)) λe=>d (e ▸ b))
def code (B:Nat):zr->Nat
 |[]=>0
 |v::r=>v.toNat+B*code B r
def Oq {B:Nat}:∀ {x:zr},(∀ v∈x,0<=v/\v<(B:Int))->code B x<B^↥x
 |[],_=>Q1J
 |v::r,h=>by
  have b:=Oq (x:=r) λw hw=>h w (.tail _ hw)
  have d:=h v (.head _)
  show v.toNat+B*code B r<B^(↥r+1)
  have c:v.toNat<B:=by omega
  have a:B*(code B r+1)<=B*B^↥r:=Nat.mul_le_mul_left B b
  rw[Nat.mul_succ]at a
  rw[Nat.pow_succ,qz (B^↥r) B]
  exact q5 (by rw[Nat.add_comm];exact Nat.add_lt_add_left c _) a
def Qk {B:Nat}:∀ {x y:zr},↥x=↥y->(∀ v∈x,0<=v/\v<(B:Int))->(∀ v∈y,0<=v/\v<(B:Int))->code B x=code B y->x=y
 |[],[],_,_,_,_=>rfl
 |[],_::_,h,_,_,_=>by cases h
 |_::_,[],h,_,_,_=>by cases h
 |v::r,w::q,hl,hx,hy,e=>by
  have g:=hx v (.head _)
  have f:=hy w (.head _)
  have e:v.toNat+B*code B r=w.toNat+B*code B q:=e
  have d:0<B:=by omega
  have c:v.toNat=w.toNat:=by
   have:=bJ (· % B) e
   simp only[Nat.add_mul_mod_self_left]at this
   rwa[Nat.mod_eq_of_lt ∅,Nat.mod_eq_of_lt ∅]at this
  have b:code B r=code B q:=by
   rw[c]at e
   exact Nat.eq_of_mul_eq_mul_left d (Cq e)
  rw[Qk (by simpa using hl) (λz a=>hx z (.tail _ a)) (λz a=>hy z (.tail _ a)) b]
  congr 1
  omega
def zjV {B m:Nat}{l:ZG}(d:l.Nodup)(h:∀ x∈l,↥x=m/\∀ v∈x,0<=v/\v<(B:Int)):↥l<=B^m:=by
 have g:=WP (B^m) (l.map (code B)) ?_ ?_
 .rwa[u5]at g
 .unfold List.Nodup at d ⊢
  rw[CJ]
  refine Sd (λ{a b} ha hb hab e=>hab ?_) d
  exact Qk (by rw[(h a ha).1,(h b hb).1]) (h a ha).2 (h b hb).2 e
 .intro x f
  obtain⟨y,c,rfl⟩:=g9.mp f
  have:=Oq (h y c).2
  rwa[(h y c).1]at this
abbrev Hl:=zr
def hD (h:Hl):D:=.tup (h.map .int)
def hK (h:Hl):List aJ:=h.map Q04
def FQ:∀ {a b:Hl},hK a=hK b->a=b
 |[],[],_=>rfl
 |[],_::_,h=>by cases h
 |_::_,[],h=>by cases h
 |a::r,b::q,h=>by
  injection h with h1 h2
  injection h1 with h1
  rw[h1,FQ h2]
def XV (h:Hl):eG (hD h)≈(hK h):=by
 show mj (h.map .int)≈(h.map Q04)
 induction h with
 |nil=>rfl
 |cons a r b =>
  show(some (Q04 a)).bind (λk=>(mj (r.map .int)).map (k::·))=_
  rw[b]
  rfl
def Rz (h:Hl):pP true (hK h)=hD h:=by
 show D.tup ((h.map Q04).map sH)=_
 rw[l4]
 rfl
def bU (h:Hl)(i x:Int):Hl:=h.set i.toNat x
def aC (h:Hl)(s:aY):Hl:=bU (bU h s.1 (aD h s.1-2)) s.2 (aD (bU h s.1 (aD h s.1-2)) s.2+1)
def Xj (h:Hl)(i x:Int):(bU h i x).length=↥h:=by unfold bU;exact qX
def zhQ (h:Hl)(s:aY):(aC h s).length=↥h:=by unfold aC;rw[Xj,Xj]
def zj1 {h:Hl}{i j:Int}(b:0<=i)(a:i<↥h)(c:0<=j):aD (bU h i x) j=if j=i then x else aD h j:=by
 unfold aD bU
 rw[p5,fY,p5]
 by_cases e:j=i
 .subst e
  rw[t5 rfl,t5 ∅,t5 rfl]
  rfl
 .rw[j5 ∅,j5 e]
def HB {h:Hl}{i:Int}(b:0<=i)(a:i<↥h):(bU h i x).sum=h.sum-aD h i+x:=by
 unfold bU
 rw[Pu (h:=by omega)]
 unfold aD
 rw[Dl.getD_at ∅]
def Hq {v:Int}(a:v∈bU h i x):v=x\/v∈h:=by
 unfold bU at a
 rcases List.mem_or_eq_of_mem_set a with e|e
 .exact .inr e
 .exact .inl e
structure vX (n:Nat) (s:aY):Prop where
 a0:0<=s.1
 a1:s.1<(n:Int)
 b0:0<=s.2
 b1:s.2<(n:Int)
 ne:s.1≠s.2
def Rk {h:Hl}(a:vX ↥h s):(aC h s).sum=h.sum-1:=by
 unfold aC
 rw[HB a.b0 (by rw[Xj];exact a.b1),HB a.a0 a.a1]
 omega
def Pz {h:Hl}{i:Int}(b:0<=i)(a:i<↥h):aD h i∈h:=by
 unfold aD
 exact Dl.getD_mem ∅
def zlh {h:Hl}(a:vX ↥h s)(c:∀ v∈h,0<=v)(d:2<=aD h s.1):∀ v∈aC h s,0<=v:=by
 intro v b
 unfold aC at b
 have e:aD (bU h s.1 (aD h s.1-2)) s.2=aD h s.2:=by
  rw[zj1 a.a0 a.a1 a.b0,j5 (λe=>a.ne e.symm)]
 rcases Hq b with rfl|b
 .rw[e]
  have:=c _ (Pz a.b0 a.b1)
  omega
 .rcases Hq b with rfl|b
  .omega
  .exact c v b
abbrev Q3 :=zG (cX 2 (gK lY (za (zc 0) zh)))
  (zG (gY true 2 (zg aB (zc 1) (eC (.int 0))) (zg jc (zg aB (zc 2) (zg aB (zc 1) (eC (.int 0)))) (eC (.int 2))))
  (zG (gY true 2 (zg aB (zc 1) (eC (.int 1))) (zg yh (zg aB (zc 2) (zg aB (zc 1) (eC (.int 1)))) (eC (.int 1))))
  (dX 2 (yf (aF vR (za (zc 2) zh))))))
def YU:=aK 3 Q3
def RV {h:Hl}(n:vX ↥h s):YU [hD h,zd s]≈(hD (aC h s)):=by
 obtain⟨a,b⟩:=s
 obtain⟨e,f,c,b1,m⟩:=n
 dsimp only at e f c b1 m
 refine w4 (ρ:=[.v (hD h),.v (zd (a,b)),.no]) rfl ?_
 unfold Q3
 refine zu (ρ':=[.v (hD h),.v (zd (a,b)),.o (h.map .int)]) rfl ?_
 have j:=wR (ns:=h) e f
 obtain⟨g,i⟩:∃ g,bU h a (aD h a-2)=g:=⟨_,rfl⟩
 have gl:↥g=↥h:=by rw[<-i,Xj]
 have k:=wR (ns:=g) c (by rw[gl];exact b1)
 have l:aC h (a,b)=bU g b (aD g b+1):=by unfold aC;rw[i]
 rw[l]
 refine yE (uL (h.map .int) (.int (aD h a-2)) a ?_ rfl rfl e (by rw[u5];exact f) ?_)
 .show(Q1k ((atI (h.map D.int) a).bind λx=>jc x (.int 2)) λd=>if bA d then some d else none)=_
  rw[j]
  rfl
 rw[show(h.map D.int).set a.toNat (.int (aD h a-2))=g.map .int by rw[<-i];unfold bU;rw[Br]]
 refine yE (uL (g.map .int) (.int (aD g b+1)) b ?_ rfl rfl c (by rw[u5,gl];exact b1) ?_)
 .show(Q1k ((atI (g.map D.int) b).bind λx=>yh x (.int 1)) λd=>if bA d then some d else none)=_
  rw[k]
  rfl
 rw[show(g.map D.int).set b.toNat (.int (aD g b+1))=(bU g b (aD g b+1)).map .int by unfold bU;rw[Br]]
 exact gw rfl (wz rfl rfl)
def R1:T.Pr 23 1 2 YU:=by
 walk_at "p"
inductive iY (ss:zy) (h0:Hl):Hl->Prop
 |zero:iY ss h0 h0
 |step {g:Hl} {s:aY}:iY ss h0 g->s∈ss->2<=aD g s.1->iY ss h0 (aC g s)
abbrev Fd:=List (Hl × Option (Hl × aY))
def jb:Option (Hl × aY)->D
 |none=>.non
 |some p=>.tup [hD p.1,zd p.2]
def bB (f:Fd):List (List aJ):=f.map λe=>hK e.1
def bN (f:Fd):zl:=f.map λe=>jb e.2
def cM:Fd->Hl->Option (Option (Hl × aY))
 |[],_=>none
 |e::f,g=>if e.1=g then some e.2 else cM f g
def Hf (g:Hl):∀ f:Fd,ZN (bB f) (bN f) (hK g)=(cM f g).map jb
 |[]=>rfl
 |e::f=>by
  refine Xa.trans ?_
  show(if hK e.1=hK g then some (jb e.2)else ZN (bB f) (bN f) (hK g))=(if e.1=g then some e.2 else cM f g).map jb
  by_cases h:e.1=g
  .rw[t5 h,t5 (by rw[h])];rfl
  .rw[j5 h,j5 (λz=>h (FQ z)),Hf g f]
def bC (f:Fd)(g:Hl):Prop:=(cM f g).isSome=true
def xB {g:Hl}:∀ {f:Fd},bC f g↔∃ e∈f,e.1=g
 |[]=>⟨λh=>(by cases h),λ⟨_,h,_⟩=>(by cases h)⟩
 |e::f=>by
  have c:=xB (g:=g) (f:=f)
  unfold bC at c ⊢
  show(if e.1=g then some e.2 else cM f g).isSome=true↔_
  by_cases h:e.1=g
  .rw[t5 h]
   exact⟨λ_=>⟨e,.head _,h⟩,λ_=>rfl⟩
  .rw[j5 h,c]
   constructor
   .rintro⟨x,a,b⟩
    exact⟨x,.tail _ a,b⟩
   .rintro⟨x,a,b⟩
    rcases t9.mp a with rfl|a
    .exact absurd b h
    .exact⟨x,a,b⟩
def PP {g:Hl}:∀ {f:Fd},cM (f++[e]) g=if (cM f g).isSome then cM f g else if e.1=g then some e.2 else none
 |[]=>rfl
 |x::f=>by
  have a:=PP (e:=e) (g:=g) (f:=f)
  show(if x.1=g then some x.2 else cM (f++[e]) g)=if (if x.1=g then some x.2 else cM f g).isSome then (if x.1=g then some x.2 else cM f g)else _
  by_cases h:x.1=g
  .rw[t5 h,t5 h];rfl
  .rw[j5 h,j5 h,a]
def bC.app {f:Fd}{g:Hl}(h:bC f g)(e:Hl × Option (Hl × aY)):bC (f++[e]) g:=by
 obtain⟨x,a,b⟩:=xB.mp h
 exact xB.mpr ⟨x,o0.mpr (.inl a),b⟩
def NK (f:Fd)(e:Hl × Option (Hl × aY)):bC (f++[e]) e.1:=xB.mpr ⟨e,o0.mpr (.inr (.head _)),rfl⟩
def zdS {f:Fd}{g:Hl}(h:bC (f++[e]) g):bC f g\/g=e.1:=by
 obtain⟨x,a,b⟩:=xB.mp h
 rcases o0.mp a with a|a
 .exact .inl (xB.mpr ⟨x,a,b⟩)
 .cases t7.mp a
  exact .inr b.symm
structure dC (ss:zy) (h0:Hl) (f:Fd):Prop where
 nd:(f.map (·.1)).Nodup
 beh:∀ e∈f,iY ss h0 e.1
 prv:∀ e∈f,(e.2=none/\e.1=h0)\/∃ p s,e.2≈(p,s)/\s∈ss/\2<=aD p s.1/\e.1=aC p s/\bC f p
 root:cM f h0≈none
def dC.start (b:zy)(h0:Hl):dC b h0 [(h0,none)]:=by
 refine⟨by simp,λe a=>?_,λe a=>?_,?_⟩
 .cases t7.mp a;exact .zero
 .cases t7.mp a;exact .inl ⟨rfl,rfl⟩
 .show(if h0=h0 then _ else _)=_
  rw[t5 rfl]
def dC.add {g:zy}{h0:Hl}{f:Fd}(h:dC g h0 f)(k:bC f p)(i:s∈g)(j:2<=aD p s.1)(o:¬ bC f (aC p s)):dC g h0 (f++[(aC p s,some (p,s))]):=by
 refine⟨?_,λe c=>?_,λe c=>?_,?_⟩
 .rw[r8]
  refine CK.mpr ⟨h.nd,by simp,λa n b w e=>?_⟩
  cases t7.mp w
  obtain⟨x,d,c⟩:=g9.mp n
  exact o (xB.mpr ⟨x,d,c.trans e⟩)
 .rcases o0.mp c with c|c
  .exact h.beh e c
  .cases t7.mp c
   obtain⟨x,d,rfl⟩:=xB.mp k
   exact .step (h.beh x d) i j
 .rcases o0.mp c with c|c
  .rcases h.prv e c with z|⟨q,t,u,m,r,l,v⟩
   .exact .inl z
   .exact .inr ⟨q,t,u,m,r,l,v.app _⟩
  .cases t7.mp c
   exact .inr ⟨p,s,rfl,i,j,rfl,k.app _⟩
 .rw[PP,h.root]
  rfl
structure aW (n:Nat) (S:Int) (g:Hl):Prop where
 len:↥g=n
 nn:∀ v∈g,0<=v
 sum:g.sum<=S
def iY.ok {h0 g:Hl}(i:∀ s∈d,vX n s)(h:aW n h0.sum h0)(b:iY d h0 g):aW n h0.sum g:=by
 induction b with
 |zero=>exact h
 |step b c f a =>
  have e:=i _ c
  rw[<-a.len]at e
  refine⟨by rw[zhQ];exact a.len,zlh e a.nn f,?_⟩
  rw[Rk e]
  have:=a.sum
  omega
def dC.count {h0:Hl}{f:Fd}(d:∀ s∈a,vX n s)(h:aW n h0.sum h0)(ok:dC a h0 f):↥f<=(h0.sum.toNat+1)^n:=by
 have e:=zjV (B:=h0.sum.toNat+1) (m:=n) ok.nd λx g=>by
  obtain⟨y,i,rfl⟩:=g9.mp g
  have b:=(ok.beh y i).ok d h
  refine⟨b.len,λv c=>⟨b.nn v c,?_⟩⟩
  have k:=Y7 b.nn c
  have j:=b.sum
  omega
 rwa[u5]at e
def J9 (a:zy)(f:Fd)(g:Hl):Prop:=∀ s∈a,2<=aD g s.1->bC f (aC g s)
structure VX (ss:zy) (h0:Hl) (L:Int) (f:Fd) (fu todo:List Hl):Prop where
 ok:dC ss h0 f
 fur:∀ g∈fu,bC f g/\g.sum=L-1
 rim:∀ g∈todo,bC f g/\g.sum=L
 all:∀ g,bC f g->J9 ss f g\/g∈todo\/g∈fu
 len:↥fu<↥f
def VX.start (b:zy)(h0:Hl):VX b h0 h0.sum [(h0,none)] [] [h0]:=by
 refine⟨dC.start b h0,λg a=>(by cases a),λg a=>?_,λg a=>.inr (.inl ?_),Q1J⟩
 .cases t7.mp a
  exact⟨xB.mpr ⟨_,.head _,rfl⟩,rfl⟩
 .obtain⟨x,c,rfl⟩:=xB.mp a
  cases t7.mp c
  exact .head _
def VX.add {h0 p:Hl}{f:Fd}(j:∀ s∈c,vX n s)(d:aW n h0.sum h0)(h:VX c h0 L f m b)(l:bC f p)(r:p.sum=L)(k:s∈c)(v:2<=aD p s.1)(q:¬ bC f (aC p s)) :
 VX c h0 L (f++[(aC p s,some (p,s))]) (m++[aC p s]) b:=by
 refine⟨h.ok.add l k v q,λg a=>?_,λg a=>⟨(h.rim g a).1.app _,(h.rim g a).2⟩,λg a=>?_,by rw[j9,j9];exact Nat.succ_lt_succ h.len⟩
 .rcases o0.mp a with a|a
  .exact⟨(h.fur g a).1.app _,(h.fur g a).2⟩
  .cases t7.mp a
   obtain⟨x,u,rfl⟩:=xB.mp l
   have e:=j s k
   rw[<-((h.ok.beh x u).ok j d).len]at e
   exact⟨NK f (aC x.1 s,some (x.1,s)),by rw[Rk e,r]⟩
 .rcases zdS a with a|rfl
  .rcases h.all g a with z|z|z
   .exact .inl λt o i=>(z t o i).app _
   .exact .inr (.inl z)
   .exact .inr (.inr (o0.mpr (.inl z)))
  .exact .inr (.inr (o0.mpr (.inr (.head _))))
def VX.done {h0:Hl}{f:Fd}(h:VX b h0 L f d (p::a))(e:J9 b f p):VX b h0 L f d a:=by
 refine⟨h.ok,h.fur,λg c=>h.rim g (.tail _ c),λg c=>?_,h.len⟩
 rcases h.all g c with z|z|z
 .exact .inl z
 .rcases t9.mp z with rfl|z
  .exact .inl e
  .exact .inr (.inl z)
 .exact .inr (.inr z)
def VX.turn {h0:Hl}{f:Fd}(h:VX b h0 L f c []):VX b h0 (L-1) f [] c:=by
 refine⟨h.ok,λg a=>(by cases a),h.fur,λg a=>?_,l6 (cO _) h.len⟩
 rcases h.all g a with z|z|z
 .exact .inl z
 .cases z
 .exact .inr (.inl z)
structure oH (ss:zy) (h0:Hl) (f:Fd):Prop where
 ok:dC ss h0 f
 iff:∀ g,bC f g↔iY ss h0 g
def VX.fin {h0:Hl}{f:Fd}(h:VX c h0 L f [] []):oH c h0 f:=by
 refine⟨h.ok,λg=>⟨λa=>?_,λa=>?_⟩⟩
 .obtain⟨x,e,rfl⟩:=xB.mp a
  exact h.ok.beh x e
 .induction a with
  |zero=>unfold bC;rw[h.ok.root];rfl
  |step b j d i =>
   rcases h.all _ i with z|z|z
   .exact z _ j d
   .cases z
   .cases z
def Ox {i:Nat}{f:zW}{ρ:SE}{ds:zl}(c:bF m f ρ≈d)(b:ρ[i]?≈(.o ds))(g:↥ds<sizeLine)(e:ρ.set i (.o (ds++[d]))=a):dh m i f ρ=.nx a:=by
 unfold dh
 rw[c,b]
 show(match (if decide (↥ds<sizeLine) then some (ρ.set i (.o (ds++[d])))else none)with|some a=>aP.nx a|none=>aP.no)=_
 rw[t5 (j3 g),e]
def zlT {i:Nat}{c:zW}{ρ:SE}{f:Fd}{g:Hl}(p:bF m b ρ≈(jb o))(n:c (visG ρ)≈(hD g))(l:ρ[i]?≈(.m true (bB f) (bN f)))(d:(cM f g).isSome=false)(j:↥f<sizeLine)(q:ρ.set i (.m true (bB (f++[(g,o)])) (bN (f++[(g,o)])))=a):VE m i c b ρ=.nx a:=by
 have e:fC ρ i (hD g) (jb o)≈a:=by
  unfold fC
  rw[l]
  show(eG (hD g)).bind (λk=>if decide ((bB f).length<sizeLine) then some (ρ.set i (.m true (iy (bB f) (bN f) k) (iC (bB f) (bN f) k (jb o))))else none)=_
  have h:(ZN (bB f) (bN f) (hK g)).isSome=false:=by rw[Hf,nG];exact d
  rw[XV,q7,t5 (j3 (by unfold bB;rw[u5];exact j))]
  unfold iy iC
  rw[h,j5 u7,j5 u7,<- q]
  unfold bB bN
  rw[r8,r8]
  rfl
 unfold VE
 rw[p,n]
 show(match fC ρ i (hD g) (jb o)with|some a=>aP.nx a|none=>aP.no)=_
 rw[e]
def zqn {f:Fd}{g:Hl}:ik true (hD g) (.dct z true (bB f) (bN f))≈(.bl (!(cM f g).isSome)):=by
 show(eG (hD g)).map (λk=>D.bl (true != (ZN (bB f) (bN f) k).isSome))=_
 rw[XV]
 show some (D.bl (true != (ZN (bB f) (bN f) (hK g)).isSome))=_
 rw[Hf,nG]
 cases (cM f g).isSome <;> rfl
def vS {m:Int}(ok:yd m a):∀ s∈yj m a,vX m.toNat s:=λs g=>by
 obtain⟨⟨d,h⟩,⟨c,b1⟩,f⟩:=RM.mp g
 refine⟨d,by omega,c,by omega,λe=>?_⟩
 have b:=(ok.rng _ f).2.1
 rw[show Yz s.1 s.2=(s.2,s.2) by unfold Yz;rw[e,j5 (Int.lt_irrefl _)]]at b
 exact absurd b (Int.lt_irrefl _)
def dC.each {m:Int}{h0:Hl}{f:Fd}(ok:yd m a)(d:(↥h0:Int)=m)(b:∀ v∈h0,0<=v)(h:dC (yj m a) h0 f):∀ e∈f,aW m.toNat h0.sum e.1:=λe c=>(h.beh e c).ok (vS ok) ⟨by omega,b,fH _⟩
def dC.small {m:Int}{h0:Hl}{f:Fd}(ok:yd m a)(d:(↥h0:Int)=m)(b:∀ v∈h0,0<=v)(c:(h0.sum.toNat+1)^m.toNat<sizeLine)(h:dC (yj m a) h0 f):↥f<sizeLine:=l6 (h.count (vS ok) ⟨by omega,b,fH _⟩) c
abbrev xv :=zG (xn false 8 (zi 2 YU (za (zc 6) (za (zc 7) zh))))
  (aH (aq (zg (ik true) (zc 8) (zc 3))) (zG (VE false 3 (zc 8) (X8 (za (zc 6) (za (zc 7) zh))))
  (dh false 5 (zc 8))) zL)
abbrev xx :=cA (bc (xm (aL (bc (zc 2)) b1 (aq (zg eE (zg aB (zc 7) (zg aB (zc 0) (eC (.int 0)))) (eC (.int 2)))) (zc 0)))) (xE 7) xv
abbrev yT :=zG (cX 5 (yX zh))
  (zG (cA (bc (zc 4)) (xE 6) xx)
  (dX 5 (xn false 4 (zc 5))))
abbrev xo :=zG (xn false 2 (zi 1 ya (za (zc 0) zh)))
  (zG (uF 3 (zc 1) (eC .non))
  (zG (xn false 4 (xm (yX (za (zc 1) zh))))
  (zG (Yu (aq (zg dH (aF Xr (za (zc 4) zh)) (eC (.int 0)))) yT 20)
  (oN 3 (yf (zc 3))))))
def yA:=aK 9 xo
section
variable {N B C:vl}{R:D->Prop}{W:D}{rm:D}{h0:Hl}{ss:zy}{n:Nat}{L:Int}
abbrev fM (W:D)(h0:Hl)(ss:zy)(f:Fd)(rm:D)(c:List Hl)(a b d:Sl):SE:=[.v W,.v (hD h0),.v (.lst (ss.map zd)),.m true (bB f) (bN f),.v rm,.o (c.map hD),a,b,d]
def TQ {a:Hl}{f:Fd}{b:List Hl}(l:vX ↥a s)(k:↥f<sizeLine)(h:↥b<sizeLine)(j:bC f (aC a s)->N (fM W h0 ss f rm b (.v (hD a)) (.v (zd s)) (.v (hD (aC a s)))))(i:¬ bC f (aC a s)->N (fM W h0 ss (f++[(aC a s,some (a,s))]) rm (b++[aC a s]) (.v (hD a)) (.v (zd s)) (.v (hD (aC a s))))) :
 (xv (fM W h0 ss f rm b (.v (hD a)) (.v (zd s)) m)).w N B C R:=by
 unfold xv
 refine zu (xG (d:=hD (aC a s)) (RV l)) ?_
 refine ZQ (c:=!(cM f (aC a s)).isSome) ?_ (λe=>?_) (λe=>?_)
 .show((ik true (hD (aC a s)) (.dct false true (bB f) (bN f))).bind bf)=_
  rw[zqn]
  rfl
 .have e:(cM f (aC a s)).isSome=false:=by simpa using e
  refine zu (zlT (f:=f) (g:=aC a s) (o:=some (a,s)) rfl rfl rfl e k rfl) ?_
  refine vE (Ox (ds:=b.map hD) (d:=hD (aC a s)) rfl rfl (by rw[u5];exact h) rfl) ?_
  have q:=i (λz=>by unfold bC at z;rw[e]at z;cases z)
  rw[fM,r8]at q
  exact q
 .have e:(cM f (aC a s)).isSome=true:=by simpa using e
  exact vE rfl (j e)
def oG (ss:zy)(a:Hl):zy:=ss.filter λs=>decide (2<=aD a s.1)
def Uq {f:Fd}{rest:List Hl}{k:Sl}(A:∀ s∈ss,vX n s)(J:↥ss<=1000)(u:aW n h0.sum h0)(P:(h0.sum.toNat+1)^n<sizeLine)(h:VX ss h0 L f b (a::rest)) :
 (xx (fM W h0 ss f rm b (.v (hD a)) k c)).w (λO=>∃ r E S k c,O=fM W h0 ss r rm E S k c/\VX ss h0 L r E rest) B C R:=by
 unfold xx
 have F:=h.rim a (.head _)
 have y:↥a=n:=by
  obtain⟨x,Q,rfl⟩:=xB.mp F.1
  exact((h.ok.beh x Q).ok A u).len
 refine Xn (ds:=(oG ss a).map zd) (λj ρ=>∃ f b k c,ρ=fM W h0 ss f rm b (.v (hD a)) k c/\VX ss h0 L f b (a::rest)/\∀ s∈(oG ss a).take j,bC f (aC a s)) ?_ ⟨f,b,k,c,rfl,h,λs m=>(by rw[Ie]at m;cases m)⟩ ?_ ?_
 .have e:aL (bc (zc 2)) b1 (aq (zg eE (zg aB (zc 7) (zg aB (zc 0) (eC (.int 0)))) (eC (.int 2)))) (zc 0) (visF (fM W h0 ss f rm b (.v (hD a)) k c))≈((oG ss a).map zd):=by
   unfold aL
   show(if aU (ss.map zd).length then _ else none)=_
   rw[t5 (yV (by rw[u5];exact J))]
   refine xJ zd (λs=>decide (2<=aD a s.1)) zd ss λs m=>⟨[some (zd s)],rfl,?_,λ_=>rfl⟩
   have z:=A s m
   show(Q1k ((atI (a.map D.int) s.1).bind λx=>eE x (.int 2)) bf)=_
   rw[wR z.a0 (by rw[y];exact z.a1)]
   rfl
  show((aL _ _ _ _ _).map D.lst).bind wW=_
  rw[e]
  rfl
 .rintro i d ρ M ⟨f,b,k,c,rfl,p,G⟩
  rw[q4]at M
  obtain⟨s,m,rfl⟩:=u8.mp M
  have w:s∈oG ss a:=k6 m
  have v:=eU.mp w
  have H:2<=aD a s.1:=j8 v.2
  refine⟨fM W h0 ss f rm b (.v (hD a)) (.v (zd s)) c,rfl,?_⟩
  have z:=A s v.1
  rw[<-y]at z
  have o:=l6 (p.ok.count A u) P
  have l:∀ r:Fd,(∀ g,bC f g->bC r g)->bC r (aC a s)->∀ t∈(oG ss a).take (i+1),bC r (aC a t):=λr N I t l=>by
   rw[qL,m]at l
   rcases o0.mp l with l|l
   .exact N _ (G t l)
   .cases t7.mp l
    exact I
  refine TQ z o (Nat.lt_trans p.len o) (λq=>⟨f,b,_,_,rfl,p,l f (λg K=>K) q⟩) λq=>⟨_,_,_,_,rfl,p.add A u (p.rim a (.head _)).1 (p.rim a (.head _)).2 v.1 H q,l _ (λg K=>K.app _) (NK f (aC a s,some (a,s)))⟩
 .rintro ρ ⟨f,b,k,c,rfl,p,G⟩
  rw[u5,iK]at G
  exact⟨f,b,_,k,c,rfl,p.done λs m H=>G s (eU.mpr ⟨m,j3 H⟩)⟩
abbrev iU (W:D)(h0:Hl)(ss:zy)(f:Fd)(a:List Hl)(c b d e:Sl):SE:=[.v W,.v (hD h0),.v (.lst (ss.map zd)),.m true (bB f) (bN f),.v (.lst (a.map hD)),c,b,d,e]
def T9 {f:Fd}(x:∀ s∈ss,vX n s)(o:↥ss<=1000)(r:aW n h0.sum h0)(y:(h0.sum.toNat+1)^n<sizeLine)(h:VX ss h0 L f [] a) :
 (yT (iU W h0 ss f a p e c b)).w (λm=>∃ t j p e c b,m=iU W h0 ss t j p e c b/\VX ss h0 (L-1) t [] j) B C R:=by
 unfold yT
 refine zu (ρ':=fM W h0 ss f (.lst (a.map hD)) [] e c b) rfl ?_
 refine yE (Xn (ds:=a.map hD) (λi ρ=>∃ f g e c b,ρ=fM W h0 ss f (.lst (a.map hD)) g e c b/\VX ss h0 L f g (a.drop i)) rfl ⟨f,[],e,c,b,rfl,h⟩ ?_ ?_)
 .rintro i d ρ u ⟨f,g,e,c,b,rfl,k⟩
  rw[q4]at u
  obtain⟨q,l,rfl⟩:=u8.mp u
  refine⟨fM W h0 ss f (.lst (a.map hD)) g (.v (hD q)) c b,rfl,?_⟩
  obtain⟨v,w⟩:=t8.mp l
  rw[CQ v,w]at k
  exact Uq x o r y k
 .rintro ρ ⟨f,g,e,c,b,rfl,k⟩
  rw[u5,Bx]at k
  refine gw (ρ':=[.v W,.v (hD h0),.v (.lst (ss.map zd)),.m true (bB f) (bN f),.v (.lst (a.map hD)),.v (.lst (g.map hD)),e,c,b]) rfl ?_
  exact vE (ρ':=iU W h0 ss f g (.v (.lst (g.map hD))) e c b) rfl ⟨f,g,_,_,_,_,rfl,k.turn⟩
def Eo:SE->Nat
 |[_,_,_,_,.v (.lst (.tup ds::_)),_,_,_,_]=>(((dR ds).getD []).sum+1).toNat
 |_=>0
def XT {f:Fd}{g:Hl}:Eo (iU W h0 ss f (g::a) c b e d)=(g.sum+1).toNat:=by
 show(((dR (g.map .int)).getD []).sum+1).toNat=_
 rw[Xe]
 rfl
def Rf {f:Fd}:Eo (iU W h0 ss f [] b a d c)=0:=rfl
def Tg {f:Fd}{k:Sl}(t:∀ s∈ss,vX n s)(r:↥ss<=1000)(l:aW n h0.sum h0)(y:(h0.sum.toNat+1)^n<sizeLine)(D:h0.sum<=18)(h:VX ss h0 h0.sum f [] a) :
 (Yu (aq (zg dH (aF Xr (za (zc 4) zh)) (eC (.int 0)))) yT 20 (iU W h0 ss f a e j k i)).w (λw=>∃ p e j k i,w=iU W h0 ss p [] e j k i/\oH ss h0 p) B C R:=by
 have u:∀ {f:Fd} {g:Hl},dC ss h0 f->bC f g->0<=g.sum/\g.sum<=h0.sum:=λ{f g} ok o=>by
  obtain⟨x,z,rfl⟩:=xB.mp o
  have b:=(ok.beh x z).ok t l
  exact⟨pZ b.nn,b.sum⟩
 refine W6 (fun ρ=>∃ L f a e j k i,ρ=iU W h0 ss f a e j k i/\VX ss h0 L f [] a) Eo ?_ 20 _ ⟨_,f,a,e,j,k,i,rfl,h⟩ ?_
 .rintro ρ ⟨L,f,a,e,j,k,i,rfl,q⟩
  refine⟨decide ((0:Int)<((a.map hD).length:Int)),rfl,λc=>?_,λc=>?_⟩
  .cases a with
   |nil=>cases c
   |cons g a =>
    have o:=q.rim g (.head _)
    refine Lx (T9 t r l y q) ?_ (λ_ h=>h) (λ_ h=>h) (λ_ h=>h)
    .rintro ρ ⟨p,d,e,j,k,i,rfl,m⟩
     refine⟨⟨_,p,d,e,j,k,i,rfl,m⟩,?_⟩
     rw[XT,o.2]
     have v:=(u q.ok o.1).1
     rw[o.2]at v
     cases d with
     |nil=>rw[Rf];omega
     |cons A d =>
      rw[XT,(m.rim A (.head _)).2]
      omega
  .cases a with
   |nil=>exact⟨f,e,j,k,i,rfl,q.fin⟩
   |cons g a =>
    exfalso
    have:=of_decide_eq_false c
    rw[n0,g5]at this
    omega
 .cases a with
  |nil=>rw[Rf];decide
  |cons g a =>
   rw[XT]
   have:=(u h.ok (h.rim g (.head _)).1).2
   omega
end
def YO {m:Int}{h0:Hl}(ok:yd m a)(r:(↥h0:Int)=m)(j:∀ v∈h0,0<=v)(o:h0.sum<=18)(n:(h0.sum.toNat+1)^m.toNat<sizeLine) :
 ∃ f,yA [aa m a,hD h0]≈(.dct true true (bB f) (bN f))/\oH (yj m a) h0 f:=by
 have l:=vS ok
 have b:(yj m a).length<=1000:=by
  have w:=wn ok m.toNat
  have:=ok.hi
  unfold yj
  omega
 have i:aW m.toNat h0.sum h0:=⟨by omega,j,fH _⟩
 have hw:=(yu (aa m a)).mpr ⟨m,a,rfl,ok⟩
 have p:ya [aa m a]≈(.lst ((yj m a).map zd)):=by
  simp only[ya]
  rw[t5 hw,xr,xQ]
 obtain⟨d,e,f,rfl,c⟩:=ux (m:=9) (g:=xo) (ds:=[aa m a,hD h0]) (R:=λd=>∃ f,d=.dct true true (bB f) (bN f)/\oH (yj m a) h0 f) rfl (by
  unfold xo
  refine zu (xG (d:=.lst ((yj m a).map zd)) p) ?_
  refine zu (ρ':=[.v (aa m a),.v (hD h0),.v (.lst ((yj m a).map zd)),.m true (bB [(h0,none)]) (bN [(h0,none)]),.no,.no,.no,.no,.no]) ?_ ?_
  .unfold uF
   show(match ((eG (hD h0)).map λk=>Sl.m true [k] [D.non])with|some s=>aP.nx _|none=>aP.no)=_
   rw[XV]
   rfl
  refine zu (ρ':=iU (aa m a) h0 (yj m a) [(h0,none)] [h0] .no .no .no .no) rfl ?_
  refine yE (Lx (Tg l b i n o (VX.start (yj m a) h0)) ?_ (λ_ h=>h) (λ_ h=>h) (λ_ h=>h))
  rintro ρ ⟨f,q,u,x,t,rfl,c⟩
  exact wz (d:=.dct true true (bB f) (bN f)) rfl ⟨f,rfl,c⟩)
 exact⟨f,e,c⟩
def YF:T.Pr 24 4 2 yA:=by
 letI:KK:=⟨K,ad.dk⟩
 have G_all_steps:=YV T
 have G_stepped:=R1 T
 refine Zh (N:=(Rw 24).N) (ps:=(Rw 24).ps) (T.d 24).fn (sc 24) (g:=xo) λd A outer s H E c=>?_
 unfold xo yT xx xv
 exact(zk (yJ (m:=false) (i:=2) (sc 24).nd rfl (Q0n rfl) (zq G_all_steps c rfl (T.d 21) (zb (ak 0) ze)))
  (zk (zns (i:=3) c (sc 24).nd rfl (Q0n rfl) (ak 1) (Wo Wh))
  (zk (yJ (m:=false) (i:=4) (sc 24).nd rfl (Q0n rfl) (vp (Yr (zb (ak 1) ze))))
  (zk (Qi 20 gF (zQ lX yG (z5 _) (yF ww Vw rfl (T.z "len" ⋯) XZ (zb (ak 4) ze)) (zz zE)) (zk (FZ (i:=5) (sc 24).nd rfl (Q0n rfl) (Yr ze))
  (zk (VG gF rfl (xY (ak 4)) (wI (zT (i:=6) (sc 24).nd rfl (Q2L rfl))) (zv (VG gF rfl (xY (vp (Fx (L:=["step"]) (M:=["web","heap","steps","found","rim","further","now","·step","then"]) rfl (wy (by rfl) (by rfl) (by rfl) (by with_unfolding_all rfl) (by rfl) (by rfl) (by kernel_rfl) (all_cons rfl yI)) (xY (ak 2)) dI dF (λ_ _ _ _=>(zT (i:=0) Tw rfl (Q0n rfl) (.inr rfl))) (λ_ _ _ _=>(zQ Fe yG (z5 _) (xl (ak 7) (xl (ak 0) (zz zE) (λ_ _=>rfl)) (λ_ _=>rfl)) (zz zE))) (λ_ _ _ _=>(ak 0))))) (wI (zT (i:=7) (sc 24).nd rfl (Q0n rfl))) (zk (yJ (m:=false) (i:=8) (sc 24).nd rfl (Q0n rfl) (zq G_stepped c rfl (T.d 23) (zb (ak 6) (zb (ak 7) ze))))
  (zv (xq (zQ (Rb c) Gu (by with_unfolding_all rfl) (ak 8) (ak 3)) (zk (Pb (m:=false) c (Vb (zb (ak 6) (zb (ak 7) ze))) (pv 3) (ak 8))
  (zv (Fo (m:=false) (pv 5) (ak 8) (λa b=>Z5 kj Dd Dc Xq a b)))) zY))))))
  (Ad 5 (zv (yJ (m:=false) (i:=4) (sc 24).nd rfl (Q0n rfl) (ak 5)))))))
  (Gh 3 (zv (z4 (ak 3))))))))
def zlz {α:Type}(f:α->Bool)(l:List α):oE [.lst (l.map λx=>.bl (f x))]≈(.bl (l.any f)):=by
 have:gA (l.map λx=>D.bl (f x))≈(l.map f):=by
  have:=QK (l.map f)
  rwa[l4]at this
 show((gA (l.map λx=>D.bl (f x))).bind λa=>some (D.bl (a.any id)))=_
 rw[this]
 show some (D.bl ((l.map f).any id))=_
 rw[Q2J]
 rfl
def Rn (ns:zr):ji [.tup (ns.map .int)]≈(.int ns.sum):=by
 show((dR (ns.map .int)).bind λns=>some (D.int ns.sum))=_
 rw[Xe]
 rfl
def Qw {m:Nat}{p:x9}{f:yL}{ds:zl}(h:f ρ≈ds)(a:↥ds=m):zi m p f ρ=p ds:=by
 unfold zi
 rw[h,q7,t5 a]
def Rj (f:Fd):mJ (.dct true true (bB f) (bN f))≈(f.map λe=>hD e.1):=by
 show some ((bB f).map (pP true))=_
 unfold bB
 rw[l4]
 congr 1
 exact qQ λe _=>Rz e.1
abbrev vW :=aH (aq (zg dH (zc 0) (zc 1))) bV zL
def yH:=aK 2 vW
def YT {a b:Int}(h:a<=b):yH [.int a,.int b]≈.non:=by
 refine w4 (ρ:=[.v (.int a),.v (.int b)]) rfl ?_
 unfold vW
 refine ZQ (c:=false) ?_ (λz=>by cases z) (λ_=>vE rfl rfl)
 show some (decide (b<a))=_
 rw[r0 (Int.not_lt.mpr h)]
def xW:T.Pr 3 1 2 yH:=by
 walk_at "q"
def Hk (ok:yd m a):zK [aa m a]≈.non:=by
 have hw:xM (aa m a)=true:=(yu _).mpr ⟨_,_,rfl,ok⟩
 simp only[zK]
 rw[t5 hw]
def Rq {h:Hl}(ok:yd m a)(c:(↥h:Int)=m)(d:∀ v∈h,0<=v)(b:h.sum<=300):z3 [aa m a,hD h]≈.non:=by
 show(if (bu (.tup (h.map .int))&&decide (m<=1000)&&xC m (.tup (h.map .int))) then some D.non else none)=_
 rw[WS,ZU ok,Zb c d b]
 rfl
def tM (f:Fd)(p:Int):Bool:=f.any λe=>decide (0<aD e.1 p)
abbrev Xb :=zG (Zv (zi 1 zK (za (zc 0) zh)))
  (zG (Zv (zi 2 z3 (za (zc 0) (za (zc 1) zh))))
  (zG (Zv (zi 2 yH (za (aF ji (za (zc 1) zh)) (za (eC (.int 12)) zh))))
  (zG (xn false 2 (zi 2 yA (za (zc 0) (za (zc 1) zh))))
  (yf (xm (aL (dB Wy (za (zg aB (zc 0) (eC (.int 0))) zh)) b1 (aq (aF oE (za (xm (aL (jj (zc 3)) b1 yN (zg dH (zg aB (zc 0) (zc 1)) (eC (.int 0))))) zh))) (zc 0)))))))
def wq:=aK 3 Xb
def zgt {m:Int}{h0:Hl}(ok:yd m a)(h:(↥h0:Int)=m)(b:∀ v∈h0,0<=v)(s:h0.sum<=12)(n:(h0.sum.toNat+1)^m.toNat<sizeLine) :
 ∃ f,wq [aa m a,hD h0]≈(.lst (((Q0g m.toNat).filter λk:Nat=>tM f (k:Int)).map Xs))/\oH (yj m a) h0 f:=by
 obtain⟨f,e,j⟩:=YO ok h b ∅ n
 refine⟨f,?_,j⟩
 have l:=j.ok.small ok h b n
 have i:=j.ok.each ok h b
 refine w4 (ρ:=[.v (aa m a),.v (hD h0),.no]) rfl ?_
 unfold Xb
 refine zu (yp (Hk ok)) ?_
 refine zu (yp (Rq ok h b ∅)) ?_
 refine zu (yp (d:=.non) ?_) ?_
 .refine(Qw (ds:=[.int h0.sum,.int 12]) ?_ rfl).trans (YT s)
  show(ji [.tup (h0.map .int)]).bind (λd=>(some [D.int 12]).map (d::·))=_
  rw[Rn]
  rfl
 refine zu (xG (d:=.dct true true (bB f) (bN f)) e) ?_
 refine wz (ye (d:=.lst (((Q0g m.toNat).filter λk:Nat=>tM f (k:Int)).map Xs)) (zp9 ?_)) rfl
 unfold aL
 show((Wy [.int m]).bind λg=>if aU ↥g then _ else none)=_
 rw[Y1 ok]
 show(if aU (ZS 0 m.toNat).length then _ else none)=_
 rw[t5 (yV (by rw[v8];have:=ok.hi;omega))]
 refine xJ (c:=Xs) (p:=λk=>tM f (k:Int)) (y:=Xs) (Q0g m.toNat) λk q=>⟨[some (Xs k)],rfl,?_,λ_=>rfl⟩
 have o:aL (jj (zc 3)) b1 yN (zg dH (zg aB (zc 0) (zc 1)) (eC (.int 0))) [some (Xs k),some (aa m a),some (hD h0),some (.dct true true (bB f) (bN f))]≈(f.map λe=>.bl (decide (0<aD e.1 (k:Int)))):=by
  unfold aL
  show((mJ (.dct true true (bB f) (bN f))).bind λg=>if aU ↥g then _ else none)=_
  rw[Rj,q7,t5 (show aU (f.map λe=>hD e.1).length=true from j3 (by rw[u5];exact i7 l))]
  refine wM (λe:Hl × Option (Hl × aY)=>hD e.1) _ f λe r=>⟨[some (hD e.1)],rfl,rfl,?_⟩
  have t:=(i e r).len
  rw[p4]at q
  show((atI (e.1.map D.int) (0+(k:Int))).bind λx=>dH x (.int 0))=_
  rw[gb,wR ∅ ∅]
  rfl
 show(Q1k (Q1k ((Option.map D.lst (aL (jj (zc 3)) b1 yN (zg dH (zg aB (zc 0) (zc 1)) (eC (.int 0))) [some (Xs k),some (aa m a),some (hD h0),some (.dct true true (bB f) (bN f))])).bind λd=>some [d]) oE) bf)=_
 rw[o]
 show(Q1k (oE [.lst (f.map λe=>.bl (decide (0<aD e.1 (k:Int))))]) bf)=_
 rw[zlz]
 rfl
def XI:T.Pr 26 8 2 wq:=by
 letI:KK:=⟨K,ad.dk⟩
 have G_must_be_at_most:=xW T
 have G_must_be_web:=yB T
 have G_must_be_heap:=xN T
 have G_heaps_behind:=YF T
 refine Zh (N:=(Rw 26).N) (ps:=(Rw 26).ps) (T.d 26).fn (sc 26) (g:=Xb) λb A outer s H E a=>?_
 unfold Xb
 exact(zk (XF (zq G_must_be_web a rfl (T.d 10) (zb (ak 0) ze)))
  (zk (XF (zq G_must_be_heap a rfl (T.d 20) (zb (ak 0) (zb (ak 1) ze))))
  (zk (XF (zq G_must_be_at_most a rfl (T.d 3) (zb (yF (Rp rfl) O4 rfl (T.z "sum" ⋯) Mh (zb (ak 1) ze)) (zb (zz (yD (v:=.int 12) rfl T.g_MOST_SEARCHED ⟨_,rfl⟩)) ze))))
  (zk (yJ (m:=false) (i:=2) (sc 26).nd rfl (Q2L rfl) (zq G_heaps_behind a rfl (T.d 24) (zb (ak 0) (zb (ak 1) ze))))
  (zv (z4 (vp (zoW (x0:="place") (M:=["web","heap","found"]) rfl (zpg (by rfl) (by rfl) (by rfl) (by with_unfolding_all rfl) (λ_=>rfl) (λ_=>rfl) (by rfl) (by rfl) (by kernel_rfl) (all_cons rfl yI)) (Ri rfl (T.z "range" ⋯) (zb (xl (ak 0) (zz zE) (λ_ _=>rfl)) ze)) dI dF (λ_ _ _ _=>(zT (i:=0) Uo rfl (Q2L rfl) (.inl rfl))) (λ_ _ _ _=>(mD (yF (zhS rfl) zob rfl (T.z "any" ⋯) zqw (zb (vp (Yt (L:=["other"]) (M:=["place","web","heap","found"]) rfl (wy (by rfl) (by rfl) (by rfl) (by with_unfolding_all rfl) (by rfl) (by rfl) (by kernel_rfl) (all_cons rfl yI)) (Ph (ak 3)) dI dF (λ_ _ _ _=>(zT (i:=0) TY rfl (Q0n rfl) (.inr rfl))) (λ_ _ _ _=>(Vr lX yG (z5 _) (xl (ak 0) (ak 1) (λ_ _=>rfl)) (zz zE))))) ze)))) (λ_ _ _ _=>(ak 0))))))))))
def FN {t:vL}{g:zM}(e:t (visG ρ)≈false):aH t g zL ρ=.nx ρ:=by
 unfold aH
 rw[e]
 rfl
def GC {g h:zM}(e:g ρ=.nx ρ')(a:h ρ'=c):zG g h ρ=c:=by
 unfold zG
 rw[e]
 exact a
def Pg:∀ {ns:zr},ns≠[]->maxL ns∈ns/\∀ x∈ns,x<=maxL ns:=by
 intro ns h
 obtain⟨M,d,b⟩:∃ M∈ns,∀ x∈ns,x<=M:=by
  induction ns with
  |nil=>exact absurd rfl h
  |cons n ns g =>
   by_cases c:ns=[]
   .subst c
    exact⟨n,t7.mpr rfl,λx a=>by rw[t7.mp a];exact fH _⟩
   .obtain⟨M,d,b⟩:=g c
    rcases Int.le_total n M with f|f
    .exact⟨M,r6 _ d,λx a=>(t9.mp a).elim (λe=>e ▸ f) (b x)⟩
    .exact⟨n,o5,λx a=>(t9.mp a).elim (λe=>e ▸ fH _) λa=>qC (b x a) f⟩
 rw[max_is d b]
 exact⟨d,b⟩
def zkz {ns:zr}(h:ns≠[]):uG [.lst (ns.map .int)]≈(.int (maxL ns)):=by
 show(dR (ns.map .int)).bind (λns=>if ns=[]then none else some (D.int (maxL ns)))=_
 rw[Xe]
 show(if ns=[]then none else some (D.int (maxL ns)))=_
 rw[j5 h]
abbrev Ru :=zG (Zv (zi 1 zK (za (zc 0) zh)))
  (zG (Zv (zi 2 z3 (za (zc 0) (za (zc 1) zh))))
  (zG (Zv (zi 2 zS (za (zc 0) (za (zc 2) zh))))
  (zG (Zv (zi 2 yH (za (aF ji (za (zc 1) zh)) (za (eC (.int 12)) zh))))
  (yf (aF uG (za (xm (aL (jj (zi 2 yA (za (zc 0) (za (zc 1) zh)))) b1 yN (zg aB (zc 0) (zc 3)))) zh))))))
def vT:=aK 3 Ru
def zfL {m:Int}{h0:Hl}{p:Int}(ok:yd m a)(i:(↥h0:Int)=m)(j:∀ v∈h0,0<=v)(n:h0.sum<=12)(r:(h0.sum.toNat+1)^m.toNat<sizeLine)(q:0<=p/\p<m) :
 ∃ M,vT [aa m a,hD h0,.int p]≈(.int M)/\(∃ g,iY (yj m a) h0 g/\aD g p=M)/\∀ g,iY (yj m a) h0 g->aD g p<=M:=by
 obtain⟨f,e,h⟩:=YO ok i j (qC n ⋯) r
 have k:=h.ok.small ok i j r
 have l:=h.ok.each ok i j
 have b:(f.map λe=>aD e.1 p)≠[]:=λz=>by
  have:=(h.iff h0).mpr .zero
  rw[Cu.mp z]at this
  cases this
 obtain⟨u,t⟩:=Pg b
 refine⟨maxL (f.map λe=>aD e.1 p),?_,?_,λg x=>?_⟩
 .refine w4 (ρ:=[.v (aa m a),.v (hD h0),.v (.int p)]) rfl ?_
  unfold Ru
  refine zu (yp (Hk ok)) ?_
  refine zu (yp (Rq ok i j (qC n ⋯))) ?_
  refine zu (yp (wa (ts:=a) q)) ?_
  refine zu (yp (d:=.non) ?_) ?_
  .refine(Qw (ds:=[.int h0.sum,.int 12]) ?_ rfl).trans (YT n)
   show(ji [.tup (h0.map .int)]).bind (λd=>(some [D.int 12]).map (d::·))=_
   rw[Rn]
   rfl
  refine wz (ye (d:=.int (maxL (f.map λe=>aD e.1 p))) ?_) rfl
  have s:aL (jj (zi 2 yA (za (zc 0) (za (zc 1) zh)))) b1 yN (zg aB (zc 0) (zc 3)) [some (aa m a),some (hD h0),some (.int p)]≈((f.map λe=>aD e.1 p).map .int):=by
   unfold aL
   show(((yA [aa m a,hD h0]).bind mJ).bind λo=>if aU ↥o then _ else none)=_
   rw[e,q7,Rj,q7,t5 (show aU (f.map λe=>hD e.1).length=true from j3 (by rw[u5];exact i7 k)),l4]
   refine wM (λe:Hl × Option (Hl × aY)=>hD e.1) _ f λe c=>⟨[some (hD e.1)],rfl,rfl,?_⟩
   have y:=(l e c).len
   show atI (e.1.map D.int) p=_
   rw[wR q.1 ∅]
   rfl
  show(((aL (jj (zi 2 yA (za (zc 0) (za (zc 1) zh)))) b1 yN (zg aB (zc 0) (zc 3)) [some (aa m a),some (hD h0),some (.int p)]).map D.lst).bind λd=>(some []).map (d::·)).bind uG=_
  rw[s]
  exact zkz b
 .obtain⟨e,c,w⟩:=g9.mp u
  exact⟨e.1,h.ok.beh e c,w⟩
 .obtain⟨e,c,rfl⟩:=xB.mp ((h.iff g).mpr x)
  exact t _ (g9.mpr ⟨e,c,rfl⟩)
def Xx:T.Pr 25 8 3 vT:=by
 have:=xW T
 have:=yB T
 have:=yW T
 have:=xN T
 have:=YF T
 walk_at "p"
def zfP {ts:zy}(h:↥ts<64):jR [.lst (ts.map zd)]≈((V0 ts).map zd):=by
 show(if (ts.map zd).length<64 then _ else none)=_
 rw[t5 (by rw[u5];exact h),show iu (ts.map zd)≈ts from QS ts]
 rfl
def zcE {α β:Type}{f:α->β}{l:List α}(h:∀ a∈l,∀ b∈l,f a=f b->a=b)(c:l.Nodup):(l.map f).Nodup:=by
 rw[List.nodup_iff_pairwise_ne,CJ]
 exact Sd (λ{a b} ha hb hne e=>hne (h a ha b hb e)) c
noncomputable def jH (c:zy)(a b:Int):Bool:=(VW c a b).isSome
def zko:jH c a b=true↔∃ k,wf c a k b:=by
 unfold jH
 rcases XQ c a b with ⟨k,e,h⟩|⟨e,h⟩
 .rw[e]
  exact⟨λ_=>⟨k,h.1⟩,λ_=>rfl⟩
 .rw[e]
  exact⟨λz=>(by cases z),λ⟨k,r⟩=>absurd r (h k)⟩
def zkx (b:zy)(a:Int):jH b a a=true:=zko.mpr ⟨0,.zero⟩
noncomputable def cU (m:Nat)(a:zy)(s:Nat):Yy:=(Q0g m).filter λv:Nat=>jH a (s:Int) (v:Int)
noncomputable def Ww (m:Nat)(a:zy)(s:Nat):Bool:=decide ((cU m a s).head?≈s)
noncomputable def oV (m:Nat)(a:zy):Yy:=(Q0g m).filter (Ww m a)
noncomputable def oF (m:Nat)(a:zy):List Yy:=(oV m a).map (cU m a)
def fL (l:Yy):D:=.tup (l.map Xs)
def zm7 {v:Nat}:v∈cU m a s↔v<m/\jH a (s:Int) (v:Int)=true:=by
 unfold cU
 rw[eU,p4]
def Lp (m:Int)(a:zy):Prop:=∀ p v,0<=p/\p<m->0<=v/\v<m->∃ k,wf a p k v
def zhy {n:Int}(q:∀ t∈d,0<=t.1/\t.1<t.2/\t.2<n)(m:∀ k:Int,1<=k->k<n->∃ t∈d,t.2=k):Lp n d:=by
 have key:∀ v:Nat,(v:Int)<n->∃ k,wf d 0 k (v:Int):=by
  intro v
  induction v using Nat.strongRecOn with
  |_ v s =>
   intro f
   by_cases c:v=0
   .subst c;exact⟨0,.zero⟩
   .obtain⟨t,g,e⟩:=m v ∅ f
    obtain⟨i,u,_⟩:=q t g
    obtain⟨j,l⟩:=i9 i
    obtain⟨k,r⟩:=s j ∅ ∅
    refine⟨k+1,.step r (.inl ?_)⟩
    rw[<-l,<- e]
    exact g
 intro p v h f
 obtain⟨a,rfl⟩:=i9 h.1
 obtain⟨b,rfl⟩:=i9 f.1
 obtain⟨k,r⟩:=key a h.2
 obtain⟨j,o⟩:=key b f.2
 exact⟨_,r.back.cat o⟩
structure jg (n:Int) (i:Nat) (ts:zy):Prop where
 rng:∀ t∈ts,0<=t.1/\t.1<t.2/\t.2<n
 nd:ts.Nodup
 has:∀ k:Int,1<=k->k<=(i:Int)->∃ t∈ts,t.2=k
 len:↥ts<=28+i
def jg.yes {x:Int}(h:jg n i a)(f:x=1+(i:Int)){t:aY}(d:t∈a)(e:t.2=x):jg n (i+1) a :=
 ⟨h.rng,h.nd,λk b g=>by
  by_cases c:k=x
  .exact⟨t,d,by rw[e,c]⟩
  .exact h.has k b ∅,Ib h.len⟩
def jg.add {x j:Int}{f:zy}(h:jg n i f)(s:x=1+(i:Int))(p:x<n)(q:0<=j)(r:j<x)(g:∀ t∈f,t.2≠x):jg n (i+1) (f++[(j,x)]):=by
 refine⟨λt d=>?_,?_,λk l u=>?_,?_⟩
 .rcases o0.mp d with d|d
  .exact h.rng t d
  .cases t7.mp d;exact⟨q,r,p⟩
 .refine CK.mpr ⟨h.nd,iQ.mpr ⟨g8,jY⟩,λa o b m e=>?_⟩
  cases t7.mp m
  exact g a o (by rw[e])
 .by_cases c:k=x
  .exact⟨(j,x),o0.mpr (.inr (t7.mpr rfl)),c.symm⟩
  .obtain⟨t,d,e⟩:=h.has k l ∅
   exact⟨t,o0.mpr (.inl d),e⟩
 .rw[j9]
  exact qG h.len
def zpY {ts:zy}(h:ρ[2]?≈(some (.lst (ts.map zd))))(f:ρ[3]?≈(some (.int x)))(g:↥ts<=1000):aL (bc (zc 2)) b1 (aq (zg wB (zg aB (zc 0) (eC (.int 1))) (zc 4))) (zc 0) ρ≈((ts.filter λt=>decide (t.2=x)).map zd):=by
 have c:zc 2 ρ≈(.lst (ts.map zd)):=by unfold zc;rw[h];rfl
 unfold aL
 show(((zc 2 ρ).bind wW).bind λe=>if aU ↥e then _ else none)=_
 rw[c]
 show(if aU (ts.map zd).length then _ else none)=_
 rw[t5 (yV (by rw[u5];exact g))]
 refine xJ zd (λt=>decide (t.2=x)) zd ts λt _=>⟨[some (zd t)],rfl,?_,λ_=>rfl⟩
 have d:zc 4 ([some (zd t)]++ρ)≈(.int x):=by
  unfold zc
  rw[show([some (zd t)]++ρ)[4]?=ρ[3]? from rfl,f]
  rfl
 show((some (D.int t.2)).bind λa=>(zc 4 ([some (zd t)]++ρ)).bind λb=>wB a b).bind bf=_
 rw[d]
 rfl
abbrev vA :=zG (xn false 4 (X8 (za (zg vt (zi 2 z9 (za (zc 1) (za (zg yh (eC (.int 50)) (zc 3)) zh))) (zc 3)) (za (zc 3) zh))))
  (aH (aq (zg wB (aF Xr (za (xm (aL (bc (zc 2)) b1 (aq (zg wB (zg aB (zc 0) (eC (.int 1))) (zc 4))) (zc 0))) zh)) (eC (.int 0)))) (dh false 2 (zc 4)) zL)
abbrev wO :=zG (cX 2 (gK lY (za (zg aB (zi 2 xP (za (zc 0) (za (zc 1) zh))) (eC (.int 1))) zh)))
  (zG (Xm cT (za (eC (.int 1)) (za (zc 0) zh)) (xE 3) vA)
  (dX 2 (yf (X8 (za (zc 0) (za (aF vR (za (xm (gK jR (za (zc 2) zh))) zh)) zh))))))
def wK:=aK 5 wO
def zce {n:Int}(E:1<=n)(C:n<=8):∃ f,wK [.int n,.int c]≈(aa n f)/\yd n f/\Lp n f:=by
 obtain⟨q,Q,l⟩:=Rh (n:=n) (c:=c) E C
 obtain⟨k,K⟩:∃ k:Nat,n=((k+1:Nat):Int):=⟨(n-1).toNat,by omega⟩
 have z:k<=7:=by omega
 obtain⟨Y,N,T⟩:=WY n.toNat ∅
 have key:=ux (m:=5) (g:=wO) (ds:=[.int n,.int c]) (R:=λd=>∃ f:zy,d=aa n (V0 f)/\jg n k f) (ρ:=[.v (.int n),.v (.int c),.no,.no,.no]) rfl ?_
 .obtain⟨d,e,f,rfl,o⟩:=key
  have F:=RD f
  have H:∀ t∈V0 f,0<=t.1/\t.1<t.2/\t.2<n:=λt p=>o.rng t (F.mem_iff.mp p)
  refine⟨_,e,⟨E,C,H,zcC o.nd⟩,zhy H λx V x2=>?_⟩
  obtain⟨t,p,I⟩:=o.has x V ∅
  exact⟨t,F.mem_iff.mpr p,I⟩
 unfold wO
 refine zu (ρ':=[.v (.int n),.v (.int c),.o (q.map zd),.no,.no]) (Gw (ds:=q.map zd) ?_) ?_
 .show(((xP [.int n,.int c]).bind λx=>aB x (.int 1)).bind λd=>(some []).map (d::·)).bind lY=_
  rw[Q]
  rfl
 have s:cT [.int 1,.int n]≈(ZS 1 k):=UW K z
 refine yE (Ve (lo:=1) (c:=k) (λi ρ=>∃ (f:zy) (w v:Sl),ρ=[.v (.int n),.v (.int c),.o (f.map zd),w,v]/\jg n i f) s ⟨q,_,_,rfl,⟨λt p=>?_,(Y.sublist l).imp λ{a b} h e=>by subst e;exact absurd (Vx.mpr h) (by unfold nQ;simp),λk J W=>absurd (qC J W) ⋯,k8 l.length_le T⟩⟩ ?_ ?_)
 .have:=N t (l.subset p)
  omega
 .rintro i ρ Z ⟨f,w,v,rfl,o⟩
  obtain⟨x,A⟩:∃ x:Int,x=(1:Int)+(i:Int):=⟨_,rfl⟩
  rw[<-A]
  refine⟨[.v (.int n),.v (.int c),.o (f.map zd),.v (.int x),v],rfl,?_⟩
  unfold vA
  obtain⟨j,u⟩:∃ j:Int,cC c (50+x)%x=j:=⟨_,rfl⟩
  have G:0<x:=by omega
  obtain⟨P,S⟩:=Ht G u
  have M:=o.len
  refine zu (ρ':=[.v (.int n),.v (.int c),.o (f.map zd),.v (.int x),.v (zd (j,x))]) (xG (d:=zd (j,x)) ?_) ?_
  .have X:vt (.int (cC c (50+x))) (.int x)≈(.int j):=by rw[wg G,u]
   show((vt (.int (cC c (50+x))) (.int x)).bind λd=>(some [D.int x]).map (d::·)).bind _=_
   rw[X]
   rfl
  refine ZQ (c:=decide ((((f.filter λt=>decide (t.2=x)).map zd).length:Int)=0)) ?_ (λy=>?_) (λy=>?_)
  .have B:=zpY (ρ:=visG [.v (.int n),.v (.int c),.o (f.map zd),.v (.int x),.v (zd (j,x))]) (ts:=f) (x:=x) rfl rfl ∅
   show(((((aL (bc (zc 2)) b1 (aq (zg wB (zg aB (zc 0) (eC (.int 1))) (zc 4))) (zc 0) _).map D.lst).bind λd=>(some []).map (d::·)).bind Xr).bind λa=>wB a (.int 0)).bind bf=_
   rw[B]
   rfl
  .refine vE (qi (ds:=f.map zd) (d:=zd (j,x)) rfl rfl (by rw[u5];omega)) ⟨f++[(j,x)],.v (.int x),.v (zd (j,x)),?_,o.add A ∅ P S λt p e=>?_⟩
   .rw[r8];rfl
   .have h0:=j8 y
    have:t∈f.filter λt=>decide (t.2=x):=eU.mpr ⟨p,j3 e⟩
    rw[u5]at h0
    rw[nq.mp (Q2o h0)]at this
    cases this
  .obtain⟨t,p⟩:∃ t,t∈f.filter λt=>decide (t.2=x):=by
    rcases hf:f.filter λt=>decide (t.2=x)with _|⟨t,r⟩
    .rw[hf]at y;cases y
    .exact⟨t,by rw[hf];exact o5⟩
   obtain⟨L,O⟩:=eU.mp p
   exact vE rfl ⟨f,_,_,rfl,o.yes A L (j8 O)⟩
 .rintro ρ ⟨f,w,v,rfl,o⟩
  have M:=o.len
  have U:=zfP (ts:=f) ∅
  refine gw (ρ':=[.v (.int n),.v (.int c),.v (.lst (f.map zd)),w,v]) rfl ?_
  refine wz (ye (d:=aa n (V0 f)) ?_) ⟨f,rfl,o⟩
  show((((((jR [.lst (f.map zd)]).map D.lst).bind λd=>(some []).map (d::·)).bind vR).bind λd=>(some []).map (d::·)).map (D.int n::·)).bind _=_
  rw[U]
  rfl
def XU:T.Pr 50 3 2 wK:=by
 have:=vC T
 have:=Zq T
 walk_at "p"
def Kl (ok:yd m ts):zK [aa m ts]≈.non:=by
 have hw:xM (aa m ts)=true:=(yu _).mpr ⟨_,_,rfl,ok⟩
 show(if xM (aa m ts) then some D.non else none)=_
 rw[t5 hw]
abbrev XD :=zG (xn false 3 (zi 2 w6 (za (zc 0) (za (zc 2) zh))))
  (zG (xn false 4 (aF vR (za (xm (aL (dB Wy (za (zg aB (zc 0) (eC (.int 0))) zh)) b1 (aq (zg VP (zg aB (zc 4) (zc 0)) (eC .non))) (zc 0))) zh)))
  (aH (aq (zg wB (zg aB (zc 4) (eC (.int 0))) (zc 2))) (dh false 1 (zc 4)) zL))
abbrev WL :=zG (Zv (zi 1 zK (za (zc 0) zh)))
  (zG (cX 1 (yX zh))
  (zG (Xm Wy (za (zg aB (zc 0) (eC (.int 0))) zh) (xE 2) XD)
  zL))
def WI:=oZ 5 WL 1
def Hx:x9:=λa=>(WI a).map .lst
def zp3 {m:Int}{x:Nat}(ok:yd m a)(h0:ρ[0]?≈(some (aa m a)))(e:ρ[3]?≈(some (.lst ((dz m a (x:Int)).map wE)))) :
 aL (dB Wy (za (zg aB (zc 0) (eC (.int 0))) zh)) b1 (aq (zg VP (zg aB (zc 4) (zc 0)) (eC .non))) (zc 0) ρ≈((cU m.toNat a x).map Xs):=by
 have f:=ok.hi
 have c:dB Wy (za (zg aB (zc 0) (eC (.int 0))) zh) ρ≈(ZS 0 m.toNat):=by
  unfold dB
  rw[zt (d:=.int m) (ds:=[]) (zH (x:=aa m a) (y:=.int 0) (by unfold zc;rw[h0];rfl) rfl rfl) zR,q7]
  exact Y1 ok
 unfold aL
 rw[c,q7,t5 (yV (by rw[v8];omega))]
 refine xJ Xs (λv:Nat=>jH a (x:Int) (v:Int)) Xs (Q0g m.toNat) λv b=>⟨[some (Xs v)],rfl,?_,λ_=>rfl⟩
 have b:=p4.mp b
 refine wU (zH (x:=wE (VW a (x:Int) (v:Int))) (y:=.non) (zH (x:=.lst ((dz m a (x:Int)).map wE)) (y:=Xs v) ?_ rfl ?_) rfl ?_)
 .unfold zc
  show(ρ[3]?).getD none=_
  rw[e]
  rfl
 .show L2.atI ((dz m a (x:Int)).map wE) ((0:Int)+(v:Int))=_
  rw[An (m:=m) ∅ ∅ (Zz m a _),gb,Hm ∅ ∅]
 .unfold jH
  cases VW a (x:Int) (v:Int) <;> rfl
def Vk (m:Nat)(a:zy)(i:Nat):(Q0g (i+1)).filter (Ww m a)=(Q0g i).filter (Ww m a)++if Ww m a i then [i]else []:=by
 rw[Ih,List.filter_append]
 congr 1
 cases h:Ww m a i with
 |true=>rw[List.filter_cons_of_pos h];rfl
 |false=>rw[List.filter_cons_of_neg (by rw[h];exact u7)];rfl
def zi7 {m:Int}(ok:yd m a):WI [aa m a]≈((oF m.toNat a).map fL):=by
 have q:=ok.lo
 have r:=ok.hi
 refine zqy (ρ:=[.v (aa m a),.no,.no,.no,.no]) rfl ?_
 unfold WL
 refine zu (yp (Kl ok)) (zu (ρ':=[.v (aa m a),.o [],.no,.no,.no]) rfl ?_)
 refine yE (Ve (lo:=0) (c:=m.toNat) (λi ρ=>∃ k n j,ρ=[.v (aa m a),.o ((((Q0g i).filter (Ww m.toNat a)).map (cU m.toNat a)).map fL),k,n,j]) (Y1 ok) ⟨_,_,_,rfl⟩ ?_ ?_)
 .rintro i ρ p ⟨k,n,j,rfl⟩
  refine⟨_,rfl,?_⟩
  have s:(0:Int)+(i:Int)=(i:Int):=gb _
  rw[s]
  unfold XD
  refine zu (ziP (ds:=[aa m a,.int (i:Int)]) rfl (X3 ok ⟨by omega,by omega⟩)) ?_
  refine zu (ρ':=[.v (aa m a),.o ((((Q0g i).filter (Ww m.toNat a)).map (cU m.toNat a)).map fL),.v (.int (i:Int)),.v (.lst ((dz m a (i:Int)).map wE)),.v (fL (cU m.toNat a i))]) (xG (show aF vR _ (visF [.v (aa m a),.o ((((Q0g i).filter (Ww m.toNat a)).map (cU m.toNat a)).map fL),.v (.int (i:Int)),.v (.lst ((dz m a (i:Int)).map wE)),j])=_ from YM (zt (vc (zp3 ok rfl rfl)) zR) rfl)) ?_
  have g:i∈cU m.toNat a i:=zm7.mpr ⟨p,zkx a _⟩
  obtain⟨h,l,b⟩:∃ h l,cU m.toNat a i=h::l:=by
   cases e:cU m.toNat a i with
   |nil=>rw[e]at g;cases g
   |cons h l=>exact⟨h,l,rfl⟩
  have t:Ww m.toNat a i=decide ((0:Int)+(h:Int)=(i:Int)):=by
   unfold Ww
   rw[b,List.head?_cons]
   exact qZ.mpr ⟨λe=>by cases e;exact gb _,λe=>by rw[gb]at e;rw[Q2o e]⟩
  have o:(((Q0g i).filter (Ww m.toNat a)).map (cU m.toNat a)).length<=8:=by
   rw[u5]
   exact k8 (Cg _ _) (by rw[kE];omega)
  refine ZQ (c:=Ww m.toNat a i) ?_ (λz=>?_) (λz=>vE rfl ⟨.v (.int (i:Int)),.v (.lst ((dz m a (i:Int)).map wE)),.v (fL (cU m.toNat a i)),?_⟩)
  .rw[t]
   refine wU (zH (x:=Xs h) (y:=.int (i:Int)) (zH (x:=fL (cU m.toNat a i)) (y:=.int 0) rfl rfl ?_) rfl WF)
   rw[b]
   exact Lw (fH _) rfl
  .refine vE (qi (m:=false) (i:=1) (f:=zc 4) (d:=fL (cU m.toNat a i)) rfl rfl (by rw[u5];omega)) ⟨.v (.int (i:Int)),.v (.lst ((dz m a (i:Int)).map wE)),.v (fL (cU m.toNat a i)),?_⟩
   rw[Vk,t5 z,r8,r8]
   rfl
  .rw[Vk,j5 (by rw[z];exact u7),p7]
 .rintro ρ ⟨k,n,j,rfl⟩
  exact .nx rfl
def zga (T:Txt P w K mg base ad):wt P w K mg base aV 8 (ad.f 17) (ad.e 17) (Rw 17).ps (@DX ⟨K,ad.dk⟩ 1 WI):=by
 letI:KK:=⟨K,ad.dk⟩
 have G_must_be_web:=yB T
 have G_ties_away:=Wf T
 refine zq1 (N:=(Rw 17).N) (ps:=(Rw 17).ps) (T.d 17).fn (sc 17) (g:=WL) (i:=1) λa A outer s H E b=>?_
 unfold WL XD
 apply PQ <;> walk_at "s"
def zid:T.Pr 17 8 1 Hx:=by
 letI:KK:=⟨K,ad.dk⟩
 exact zqq (zga T)
def zdQ {m:Int}(ok:yd m a):Hx [aa m a]≈(.lst ((oF m.toNat a).map fL)):=by
 show(WI [aa m a]).map D.lst=_
 rw[zi7 ok]
 rfl
def zlG (m:Nat)(a:zy):(oF m a).length=(oV m a).length:=u5 _
def zoP:Xr [.lst ((oF m a).map fL)]≈(.int ((oV m a).length:Int)):=by
 show some (D.int (((oF m a).map fL).length:Int))=_
 rw[u5,zlG]
abbrev Vf :=yf (zg wB (aF Xr (za (zi 1 Hx (za (zc 0) zh)) zh)) (eC (.int 1)))
def vd:=aK 1 Vf
def zb9 {m:Int}(ok:yd m a):vd [aa m a]≈(.bl (decide (((oV m.toNat a).length:Int)=1))):=by
 refine w4 (ρ:=[.v (aa m a)]) rfl ?_
 unfold Vf
 exact wz (ye (zH (YM (zt (zx (ds:=[aa m a]) rfl (zdQ ok)) zR) zoP) rfl WF)) rfl
def Wg:T.Pr 18 9 1 vd:=by
 have:=zid T
 walk_at "q"
abbrev Yv :=zG (xn false 7 (zg vt (zi 2 z9 (za (zc 1) (za (zg yh (eC (.int 60)) (zc 6)) zh))) (zg yh (zc 3) (eC (.int 1)))))
  (zG (aH (aq (zg wB (zg vt (zc 1) (eC (.int 2))) (eC (.int 0)))) (zG (xn false 7 (aF uU (za (zc 3) (za (zg vt (zc 5) (zg yh (zc 2) (eC (.int 1)))) zh))))
  (xn false 5 (zg vO (zc 5) (zg yh (zc 2) (eC (.int 1)))))) zL)
  (zG (dh false 4 (zc 7))
  (xn false 3 (zg jc (zc 3) (zc 7)))))
abbrev vM :=zG (xn false 3 (zc 2))
  (zG (cX 4 (yX zh))
  (zG (xn false 5 (zg vO (zc 1) (eC (.int 2))))
  (zG (Xm Wy (za (zc 0) zh) (xE 6) Yv)
  (dX 4 (yf (aF vR (za (zc 4) zh)))))))
def wm:=aK 8 vM
def zfY {n mo:Int}(h0:0<=n)(M:n<=8)(A:0<=mo)(P:mo<=1000):∃ ns:zr,wm [.int n,.int c,.int mo]≈(.tup (ns.map .int))/\(↥ns:Int)=n/\(∀ x∈ns,0<=x)/\ns.sum<=mo:=by
 have key:=ux (m:=8) (g:=vM) (ds:=[.int n,.int c,.int mo]) (R:=λd=>∃ ns:zr,d=.tup (ns.map .int)/\(↥ns:Int)=n/\(∀ x∈ns,0<=x)/\ns.sum<=mo) (ρ:=[.v (.int n),.v (.int c),.v (.int mo),.no,.no,.no,.no,.no]) rfl ?_
 .obtain⟨d,e,ns,rfl,h⟩:=key
  exact⟨ns,e,h⟩
 unfold vM
 refine zu rfl (zu (ρ':=[.v (.int n),.v (.int c),.v (.int mo),.v (.int mo),.o [],.no,.no,.no]) (by simp[cX,yX,zh,yV]) (zu (ρ':=[.v (.int n),.v (.int c),.v (.int mo),.v (.int mo),.o [],.v (.int (c/2)),.no,.no]) (by simp[xn,bF,visF,Sl.f,zc,eC,zg,vO,fB]) ?_))
 refine yE (Ve (lo:=0) (c:=n.toNat) (λi ρ=>∃ (a b:Int) (ns:zr) (p l:Sl),ρ=[.v (.int n),.v (.int c),.v (.int mo),.v (.int a),.o (ns.map .int),.v (.int b),p,l]/\↥ns=i/\(∀ x∈ns,0<=x)/\0<=a/\ns.sum+a=mo) (RQ h0 ∅) ⟨mo,c/2,[],.no,.no,rfl,rfl,by simp,A,by simp⟩ ?_ ?_)
 .rintro i ρ N ⟨a,b,ns,p,l,rfl,C,o,t,F⟩
  obtain⟨x,G⟩:∃ x:Int,(0:Int)+(i:Int)=x:=⟨_,rfl⟩
  rw[G]
  refine⟨_,rfl,?_⟩
  unfold Yv
  obtain⟨q,B⟩:∃ q:Int,cC c (60+x)=q:=⟨_,rfl⟩
  have u:0<=q%(a+1):=mX _ ∅
  have H:q%(a+1)<a+1:=Cm _ ∅
  have I:z9 [.int c,.int (60+x)]≈(.int q):=by rw[<-B];rfl
  have J:decide ((ns.map D.int).length<sizeLine)=true:=j3 (vm (by rw[u5];omega))
  have fin:∀ (j f:Int),0<=j->j<=a->(zG (dh false 4 (zc 7)) (xn false 3 (zg jc (zc 3) (zc 7))) [.v (.int n),.v (.int c),.v (.int mo),.v (.int a),.o (ns.map .int),.v (.int f),.v (.int x),.v (.int j)]).w
   (fun ρ=>∃ (a b:Int) (ns:zr) (p l:Sl),ρ=[.v (.int n),.v (.int c),.v (.int mo),.v (.int a),.o (ns.map .int),.v (.int b),p,l]/\↥ns=i+1/\(∀ x∈ns,0<=x)/\0<=a/\ns.sum+a=mo)
   (λk=>(dX 4 (yf (aF vR (za (zc 4) zh))) k).w (λ_=>∃ ns:zr,D.non=.tup (ns.map .int)/\(↥ns:Int)=n/\(∀ x∈ns,0<=x)/\ns.sum<=mo) bO bO λd=>∃ ns:zr,d=.tup (ns.map .int)/\(↥ns:Int)=n/\(∀ x∈ns,0<=x)/\ns.sum<=mo)
   (fun ρ=>∃ (a b:Int) (ns:zr) (p l:Sl),ρ=[.v (.int n),.v (.int c),.v (.int mo),.v (.int a),.o (ns.map .int),.v (.int b),p,l]/\↥ns=i+1/\(∀ x∈ns,0<=x)/\0<=a/\ns.sum+a=mo)
   (λd=>∃ ns:zr,d=.tup (ns.map .int)/\(↥ns:Int)=n/\(∀ x∈ns,0<=x)/\ns.sum<=mo):=λj f K L=>by
   refine zu (ρ':=[.v (.int n),.v (.int c),.v (.int mo),.v (.int a),.o ((ns++[j]).map .int),.v (.int f),.v (.int x),.v (.int j)]) ?_ (vE rfl ⟨a-j,f,ns++[j],_,_,rfl,?_,?_,by omega,?_⟩)
   .show(match (if decide ((ns.map D.int).length<sizeLine) then some ([.v (.int n),.v (.int c),.v (.int mo),.v (.int a),.o (ns.map .int++[.int j]),.v (.int f),.v (.int x),.v (.int j)]:SE)else none)with|some k=>aP.nx k|none=>aP.no)=_
    rw[t5 J,r8]
    rfl
   .rw[j9,C];rfl
   .intro y r
    rcases o0.mp r with r|r
    .exact o y r
    .rw[t7.mp r];exact K
   .rw[BV]
    simp
    omega
  have v:(0:Int)<a+1:=by omega
  refine zu (ρ':=[.v (.int n),.v (.int c),.v (.int mo),.v (.int a),.o (ns.map .int),.v (.int b),.v (.int x),.v (.int (q%(a+1)))]) (by simp[xn,bF,visF,Sl.f,zc,eC,zg,za,zh,zi,HH,vt,fB,I,v]) ?_
  by_cases E:c%2=0
  .have s:(0:Int)<mo+1:=by omega
   have w:mo+1<1606938044258990275541962092341162602522202993782792835301376:=by omega
   refine yE (ZQ (c:=true) (by simp[visG,Sl.g,zc,eC,zg,aq,bf,vt,fB,WF,E]) (λ_=>?_) (λz=>by cases z))
   refine zu (ρ':=[.v (.int n),.v (.int c),.v (.int mo),.v (.int a),.o (ns.map .int),.v (.int b),.v (.int x),.v (.int (if b%(mo+1)<a then b%(mo+1)else a))]) (by simp[xn,bF,visF,Sl.f,zc,eC,zg,za,zh,aF,HH,vt,fB,s,uU]) (vE (ρ':=[.v (.int n),.v (.int c),.v (.int mo),.v (.int a),.o (ns.map .int),.v (.int (b/(mo+1))),.v (.int x),.v (.int (if b%(mo+1)<a then b%(mo+1)else a))]) (by simp[xn,bF,visF,Sl.f,zc,eC,zg,HH,vO,fB,s,w]) ?_)
   have O:0<=b%(mo+1):=mX _ ∅
   exact fin _ _ (by split <;> omega) (by split <;> omega)
  .refine yE (ZQ (c:=false) (by simp[visG,Sl.g,zc,eC,zg,aq,bf,vt,fB,WF,E]) (λz=>by cases z) (λ_=>vE rfl ?_))
   exact fin _ _ u ∅
 .rintro ρ ⟨a,b,ns,p,l,rfl,C,o,t,F⟩
  refine gw rfl (wz rfl ⟨ns,rfl,by omega,o,by omega⟩)
def VO:T.Pr 51 2 3 wm:=by
 have:=vC T
 walk_at "p"
abbrev Kh :=zG (Zv (zi 1 zK (za (zc 0) zh)))
  (zG (Zv (zi 2 zS (za (zc 0) (za (zc 1) zh))))
  (zG (Zv (zi 2 zS (za (zc 0) (za (zc 2) zh))))
  (yf (zg aB (zi 2 w6 (za (zc 0) (za (zc 1) zh))) (zc 2)))))
def pD:=aK 3 Kh
def LC {p v:Int}(ok:yd m a)(c:0<=p/\p<m)(b:0<=v/\v<m):pD [aa m a,.int p,.int v]≈(wE (VW a p v)):=by
 refine w4 (ρ:=[.v (aa m a),.v (.int p),.v (.int v)]) rfl ?_
 unfold Kh
 refine zu (yp (Kl ok)) (zu (yp (wa (ts:=a) c)) (zu (yp (wa (ts:=a) b)) (wz (ye ?_) rfl)))
 show(w6 [aa m a,.int p]).bind (λx=>aB x (.int v))=_
 rw[X3 ok c]
 show L2.atI ((dz m a p).map wE) v=_
 rw[An b.1 b.2 (Zz m a p),Hm b.1 b.2]
def Gb:T.Pr 16 8 3 pD:=by
 have:=yB T
 have:=yW T
 have:=Wf T
 walk_at "p"
abbrev Wt :=aH (xF (aq (zi 3 zU (za (zc 0) (za (zc 1) (za (zc 2) zh)))))) bV zL
def wN:=aK 3 Wt
def XJ:T.Pr 2 3 3 wN:=by
 have:=xR T
 walk_at "q"
abbrev vQ :=zG (aH (xF (aq (zi 1 vd (za (zc 0) zh)))) bV zL)
  (Zv (zi 2 yH (za (zg aB (zc 0) (eC (.int 0))) (za (eC (.int 6)) zh))))
def we:=aK 1 vQ
def Z2:T.Pr 27 10 1 we:=by
 have:=xW T
 have:=Wg T
 walk_at "p"
abbrev xL :=jW (xF (aq (zi 1 vd (za (zc 0) zh)))) (Ly 7) di
def y8:=lq 1 xL
def ZM:T.Px 27 10 1 y8:=by
 letI:KK:=⟨K,ad.dk⟩
 have G_is_joined:=Wg T
 refine qd (cl:=cR ad) (N:=(Rw 27).N) (ps:=(Rw 27).ps) (T.d 27).fn (sc 27) (gx:=xL) λb A outer s H E a=>?_
 unfold xL
 exact(YG (Ez (mH (mD (zq G_is_joined a rfl (T.d 18) (zb (ak 0) ze)))) (Zx (zkM (cl:=cR ad) (j:=7) ⟨T.g_NotJoined,T.c_NotJoined⟩ rfl)) VD))
abbrev Yw :=zG (Zv (zi 1 zK (za (zc 0) zh)))
  (zG (Zv (zi 2 zS (za (zc 0) (za (zc 1) zh))))
  (Zv (zi 3 wN (za (zc 2) (za (eC (.int 1)) (za (eC (.int 3)) zh))))))
def xw:=aK 3 Yw
def vV:T.Pr 28 8 3 xw:=by
 have:=XJ T
 have:=yB T
 have:=yW T
 walk_at "p"
abbrev Pn :=zG (xn false 1 (zg Fi (xm (aL (WZ (za (zc 0) zh)) b2 (aq (zg dH (zc 1) (eC (.int 0)))) (zc 0))) (eC (.int 0))))
  (yf (xm (aL (dB cT (za (zc 1) (za (aF Xr (za (zc 0) zh)) zh))) b1 yN (zg yh (zg yh (eY gf (zc 1) VU (XM (zc 0))) (X8 (za (zg yh (zg aB (zc 1) (zc 0)) (eC (.int 1))) zh))) (eY gf (zc 1) (XM (zg yh (zc 0) (eC (.int 1)))) VU)))))
def Bh:=aK 2 Pn
def zlb:T.Pr 29 1 1 Bh:=by
 walk_at "p"
 all_goals first | exact(Fx (L:=["place","stones"]) (M:=["heap","last"]) rfl (wy (by rfl) (by rfl) (by rfl) (by with_unfolding_all rfl) (by rfl) (by rfl) (by kernel_rfl) yI) (Gq rfl (T.z "enumerate" ⋯) YK (zb (ak 0) ze)) JN Jx (λ_ _ _ _=>(uW rfl (Yb (zT (i:=0) LK rfl (Q0n rfl) (.inr rfl)) (Yb (zT (i:=1) LK rfl (Q0n rfl) (.inr rfl)) Bo)))) (λ_ _ _ _=>(zQ lX yG (z5 _) (ak 1) (zz zE))) (λ_ _ _ _=>(ak 0)))
abbrev X7 :=aH (ZC (aq (zg eE (zg aB (zc 0) (zg aB (zc 3) (eC (.int 0)))) (eC (.int 2)))) (aq (zg (ik true) (zi 2 YU (za (zc 0) (za (zc 3) zh))) (zc 2)))) (yf (eC (.bl false))) zL
abbrev Y4 :=zG (cA (bc (zc 1)) (xE 3) X7)
  (yf (eC (.bl true)))
def Y2:=aK 4 Y4
def zdO:T.Pr 30 2 3 Y2:=by
 have:=R1 T
 walk_at "p"
abbrev YJ :=aH (ZC (aq (zg nO (zg aB (zc 6) (zc 2)) (zc 3))) (aq (zi 3 Y2 (za (zc 6) (za (zc 1) (za (zc 0) zh)))))) (VE false 4 (zc 6) (eC (.bl true))) zL
abbrev YY :=cA (bc (zi 1 Bh (za (zc 5) zh))) (xE 6) YJ
abbrev w1 :=zG (uw true 4)
  (zG (cA (jj (zc 0)) (xE 5) YY)
  (oN 4 (yf (zc 4))))
def Yj:=aK 7 w1
def zab:T.Pr 31 3 4 Yj:=by
 have:=zlb T
 have:=zdO T
 walk_at "p"
abbrev vB :=zG (dh false 5 (zc 6))
  (xn false 6 (zi 4 Yj (za (zc 6) (za (zc 4) (za (zc 1) (za (zc 2) zh))))))
abbrev xA :=zG (xn false 4 (zi 1 ya (za (zc 0) zh)))
  (zG (cX 5 (yX zh))
  (zG (xn false 6 (Ag (aF vR (za (zg V1 (xm (yX (za (eC (.int 0)) zh))) (zg aB (zc 0) (eC (.int 0)))) zh)) (eC (.bl true))))
  (zG (Yu (ZC (aq (zg dH (aF Em (za (zc 6) zh)) (eC (.int 0)))) (aq (zg jB (aF Xr (za (zc 5) zh)) (zc 3)))) vB 310)
  (dX 5 (yf (zc 5))))))
def wF:=aK 7 xA
def Xy:T.Pr 32 4 4 wF:=by
 have:=YV T
 have:=zab T
 walk_at "p"
abbrev Z3 :=zG (Zv (zi 3 xw (za (zc 0) (za (zc 1) (za (zc 2) zh)))))
  (zG (Zv (zi 1 we (za (zc 0) zh)))
  (yf (zi 4 wF (za (zc 0) (za (zc 1) (za (zc 2) (za (eC (.int 300)) zh)))))))
def Ye:=aK 3 Z3
def zaa:T.Pr 33 11 3 Ye:=by
 have:=Z2 T
 have:=vV T
 have:=Xy T
 walk_at "p"
abbrev V5 :=dO di (Zv (zi 3 xw (za (zc 0) (za (zc 1) (za (zc 2) zh)))))
  (iG (jn 1 y8 (za (zc 0) zh)))
def wl:=lq 3 V5
def Vi:T.Px 33 11 3 wl:=by
 have:=ZM T
 have:=vV T
 walk_at "x"
abbrev MJ :=yf (aF Xr (za (zi 3 Ye (za (zc 0) (za (zc 1) (za (zc 2) zh)))) zh))
def qb:=aK 3 MJ
def O2:T.Pr 34 12 3 qb:=by
 have:=zaa T
 walk_at "q"
abbrev GD :=iG (jn 3 wl (za (zc 0) (za (zc 1) (za (zc 2) zh))))
def YW:=lq 3 GD
def Qc:T.Px 34 12 3 YW:=by
 letI:KK:=⟨K,ad.dk⟩
 have X_all_failing:=Vi T
 refine qd (cl:=cR ad) (N:=(Rw 34).N) (ps:=(Rw 34).ps) (T.d 34).fn (sc 34) (gx:=GD) λb A outer s H E a=>?_
 unfold GD
 exact(Zx (FT (TF rfl (T.z "len" ⋯) XZ (Gv (Vo (X_all_failing.mono ⋯) Y5 a rfl (T.d 33).at_ (T.d 33).kp (T.d 33).bd (zb (ak 0) (zb (ak 1) (zb (ak 2) ze))))))))
def zon {s t:Nat}(h:s+t<=302):(s+1)*(t+1)<=23200:=by
 have e:∀ s:Fin 303,(s.val+1)*(303-s.val)<=23200:=by decide +kernel
 exact k8 (Nat.mul_le_mul_left _ (show t+1<=303-s by omega)) (e ⟨s,by omega⟩)
def O3 {a b c d m:Nat}(h:a*m+c=b*m+d)(i:c<m)(g:d<m):a=b/\c=d:=by
 have e:∀ {x y:Nat},y<m->(x*m+y)/m=x:=λ{x y} hy=>by
  rw[qz,Nat.mul_add_div ∅,Nat.div_eq_of_lt hy,Nat.add_zero]
 have f:a=b:=by rw[<-e (x:=a) i,h,e g]
 subst f
 exact⟨rfl,Cq h⟩
def Ej (k a b c:Nat):Nat:=(a+b)*23200+(a*(k-(a+b)+1)+c)
def Hy {k a b c d:Nat}(h:a+b+c+d=k)(g:k<=302):a*(k-(a+b)+1)+c<23200:=by
 have e:=zon (s:=a+b) (t:=k-(a+b)) ∅
 have f:a*(k-(a+b)+1)<=(a+b)*(k-(a+b)+1):=Nat.mul_le_mul_right _ ∅
 rw[Nat.succ_mul]at e
 omega
def zi8 {k a b c d f i g j:Nat}(h:a+b+c+d=k)(n:f+i+g+j=k)(l:k<=302)(e:Ej k a b c=Ej k f i g):a=f/\b=i/\c=g/\d=j:=by
 obtain⟨o,m⟩:=O3 e (Hy h l) (Hy n l)
 rw[o]at m
 obtain⟨q,p⟩:=O3 m ∅ ∅
 omega
def oU:∀ {g:Hl},↥g<=5->g.sum=aD g 0+aD g 1+aD g 2+aD g 3+aD g 4
 |[],_=>rfl
 |[a],_=>by show a+0=a+0+0+0+0;omega
 |[a,b],_=>by show a+(b+0)=a+b+0+0+0;omega
 |[a,b,c],_=>by show a+(b+(c+0))=a+b+c+0+0;omega
 |[a,b,c,d],_=>by show a+(b+(c+(d+0)))=a+b+c+d+0;omega
 |[a,b,c,d,e],_=>by show a+(b+(c+(d+(e+0))))=a+b+c+d+e;omega
 |_::_::_::_::_::_::r,h=>absurd h (by show ¬ ↥r+6<=5;omega)
def ph {g f:Hl}(n:↥g<=5)(j:↥g=↥f)(h:aD g 0=aD f 0/\aD g 1=aD f 1/\aD g 2=aD f 2/\aD g 3=aD f 3/\aD g 4=aD f 4):g=f:=by
 refine Bw j λi b a=>?_
 have e:aD g (i:Int)=aD f (i:Int):=by
  obtain⟨m,k,c,l,d⟩:=h
  have:i=0\/i=1\/i=2\/i=3\/i=4:=by omega
  rcases this with rfl|rfl|rfl|rfl|rfl
  .exact m
  .exact k
  .exact c
  .exact l
  .exact d
 unfold aD at e
 rwa[Dl.getD_at (by show i<_;exact b),Dl.getD_at (by show i<_;exact a)]at e
def vo {g:Hl}(h:∀ v∈g,0<=v)(i:Int):0<=aD g i:=by
 unfold aD
 rw[p5]
 cases e:g[i.toNat]? with
 |none=>exact fH 0
 |some v=>exact h v (k6 e)
structure Lv (n:Nat) (p:Int) (k:Nat) (g:Hl):Prop where
 len:↥g=n
 nn:∀ v∈g,0<=v
 no:aD g p=0
 sum:g.sum=(k:Int)
def zqz {n:Nat}{p:Int}(h0:0<=p)(m:p<5):∃ a b c d:Int,(∀ g:Hl,↥g<=5->aD g p=0->g.sum=aD g a+aD g b+aD g c+aD g d) /\
 ∀ g f:Hl,↥g<=5->↥g=↥f->aD g p=aD f p->(aD g a=aD f a/\aD g b=aD f b/\aD g c=aD f c/\aD g d=aD f d)->g=f:=by
 have:p=0\/p=1\/p=2\/p=3\/p=4:=by omega
 rcases this with rfl|rfl|rfl|rfl|rfl
 .exact⟨1,2,3,4,λg e z=>by rw[oU e];omega,λg f e i z ⟨l,h,k,j⟩=>ph e i ⟨z,l,h,k,j⟩⟩
 .exact⟨0,2,3,4,λg e z=>by rw[oU e];omega,λg f e i z ⟨l,h,k,j⟩=>ph e i ⟨l,z,h,k,j⟩⟩
 .exact⟨0,1,3,4,λg e z=>by rw[oU e];omega,λg f e i z ⟨l,h,k,j⟩=>ph e i ⟨l,h,z,k,j⟩⟩
 .exact⟨0,1,2,4,λg e z=>by rw[oU e];omega,λg f e i z ⟨l,h,k,j⟩=>ph e i ⟨l,h,k,z,j⟩⟩
 .exact⟨0,1,2,3,λg e z=>by rw[oU e];omega,λg f e i z ⟨l,h,k,j⟩=>ph e i ⟨l,h,k,j,z⟩⟩
def zrN {n k:Nat}{p:Int}{L:List Hl}(h0:0<=p)(C:p<n)(q:n<=5)(o:k<=302)(v:L.Nodup)(h:∀ g∈L,Lv n p k g):↥L<sizeLine:=by
 obtain⟨a,b,c,d,t,s⟩:=zqz (n:=n) h0 ∅
 have m:∀ g∈L,(aD g a).toNat+(aD g b).toNat+(aD g c).toNat+(aD g d).toNat=k:=λg i=>by
  have l:=h g i
  have e:=t g (by rw[l.len];exact q) l.no
  have:=vo l.nn a
  have:=vo l.nn b
  have:=vo l.nn c
  have:=vo l.nn d
  have:=l.sum
  omega
 have e:=WP 7029600 (L.map λg=>Ej k (aD g a).toNat (aD g b).toNat (aD g c).toNat) (zcE (λg i f r e=>?_) v) λx u=>?_
 .rw[u5]at e
  have:(7029600:Nat)<sizeLine:=by decide
  omega
 .obtain⟨D,w,z,y⟩:=zi8 (m g i) (m f r) o e
  have l:=h g i
  have j:=h f r
  refine s g f (by rw[l.len];exact q) (by rw[l.len,j.len]) (by rw[l.no,j.no]) ⟨?_,?_,?_,?_⟩
  .have:=vo l.nn a;have:=vo j.nn a;omega
  .have:=vo l.nn b;have:=vo j.nn b;omega
  .have:=vo l.nn c;have:=vo j.nn c;omega
  .have:=vo l.nn d;have:=vo j.nn d;omega
 .obtain⟨g,i,rfl⟩:=g9.mp u
  have B:=Hy (m g i) o
  have A:=m g i
  show(_+_)*23200+_<_
  omega
def bG (L:List Hl):D:=.dct true true (L.map hK) (L.map λ_=>.bl true)
def GF (g:Hl):∀ L:List Hl,(ZN (L.map hK) (L.map λ_=>D.bl true) (hK g)).isSome=decide (g∈L)
 |[]=>(r0 (λh=>by cases h)).symm
 |a::L=>by
  rw[n0,n0,Xa]
  by_cases h:a=g
  .rw[t5 (by rw[h]),j3 (by rw[h];exact .head _)];rfl
  .rw[j5 (λz=>h (FQ z)),GF g L]
   exact qZ.mpr ⟨λz=>.tail _ z,λz=>(t9.mp z).resolve_left (λe=>h e.symm)⟩
def Nz (k:List aJ):∀ L:List Hl,lM (L.map hK) (L.map λ_=>D.bl true) k (.bl true)=L.map λ_=>.bl true
 |[]=>rfl
 |a::L=>by
  show(@ite _ (hK a=k) (pW (hK a) k) (D.bl true) (.bl true))::lM (L.map hK) (L.map λ_=>D.bl true) k (.bl true)=_
  rw[Nz k L]
  cases pW (hK a) k <;> rfl
def oJ (L:List Hl)(g:Hl):List Hl:=if g∈L then L else L++[g]
def zjU {i:Nat}{b:zW}{ρ:SE}{L:List Hl}{g:Hl}(c:b (visG ρ)≈(hD g))(f:ρ[i]?≈(.m true (L.map hK) (L.map λ_=>.bl true)))(d:↥L<sizeLine)(j:ρ.set i (.m true ((oJ L g).map hK) ((oJ L g).map λ_=>.bl true))=a):VE false i b (eC (.bl true)) ρ=.nx a:=by
 have e:fC ρ i (hD g) (.bl true)≈a:=by
  unfold fC
  rw[f]
  show(eG (hD g)).bind (λk=>if decide ((L.map hK).length<sizeLine) then some (ρ.set i (.m true (iy (L.map hK) (L.map λ_=>.bl true) k) (iC (L.map hK) (L.map λ_=>.bl true) k (.bl true))))else none)=_
  rw[XV,q7,t5 (j3 (by rw[u5];exact d)),<- j]
  unfold iy iC oJ
  rw[GF,Nz]
  by_cases h:g∈L
  .rw[t5 (j3 h),t5 (j3 h),t5 h]
  .rw[r0 h,j5 u7,j5 u7,j5 h,r8,r8];rfl
 unfold VE
 rw[c]
 show(match fC ρ i (hD g) (.bl true)with|some a=>aP.nx a|none=>aP.no)=_
 rw[e]
def zjz (L:List Hl):mJ (bG L)≈(L.map hD):=by
 show some ((L.map hK).map (pP true))=_
 rw[l4]
 congr 1
 exact qQ λe _=>Rz e
def zq4 (L:List Hl)(g:Hl):ik true (hD g) (bG L)≈(.bl (!decide (g∈L))):=by
 show(eG (hD g)).map (λk=>D.bl (true != (ZN (L.map hK) (L.map λ_=>D.bl true) k).isSome))=_
 rw[XV]
 show some (D.bl (true != (ZN (L.map hK) (L.map λ_=>D.bl true) (hK g)).isSome))=_
 rw[GF]
 cases decide (g∈L) <;> rfl
def znZ (a:zr):ZE 0 (a.map .int)=(Q0g ↥a).map λj:Nat=>D.tup [.int (j:Int),.int (aD a (j:Int))]:=by
 refine CN λi=>?_
 rw[vk,q4,q4]
 by_cases c:i<↥a
 .rw[Cv c,j7 c]
  show some (D.tup [.int ((0+i:Nat):Int),.int a[i]])≈(D.tup [.int (i:Int),.int (a.getD ((i:Int).toNat) 0)])
  rw[i3,jy,p5,j7 c]
  rfl
 .rw[kh ∅,kh (by rw[kE];omega)]
  rfl
def Ms {g:D->yl->yl->Option D}{f:zW}{l h:Ev->Option yl}(d:f ρ≈x)(c:l ρ≈b)(i:h ρ≈a)(e:g x b a≈z):eY g f l h ρ≈z:=by
 unfold eY
 rw[d,c,i]
 exact e
def Ml {f:zW}(h:f ρ≈(.int i)):XM f ρ≈(some i):=by
 unfold XM
 rw[h]
 rfl
def YZ (h:Hl)(a b:Int):Hl:=bU h a (aD h a+b)
def MP {h:Hl}{a:Int}(p:↥h<=8)(g:0<=a)(l:a<↥h){j:zW}(f:zc d ρ≈(hD h))(e:zc c ρ≈(.int a))(o:j ρ≈(.int b)) :
 zg yh (zg yh (eY gf (zc d) VU (XM (zc c))) (X8 (za (zg yh (zg aB (zc d) (zc c)) j) zh))) (eY gf (zc d) (XM (zg yh (zc c) (eC (.int 1)))) VU) ρ≈(hD (YZ h a b)):=by
 obtain⟨k,rfl⟩:=i9 g
 have m:k<↥h:=by omega
 have n:=wR (ns:=h) (i:=(k:Int)) g l
 refine zH (x:=.tup ((h.map .int).take k++[.int (aD h k+b)])) (y:=.tup ((h.map .int).drop (k+1))) (zH (x:=.tup ((h.map .int).take k)) (y:=.tup [.int (aD h k+b)]) (Ms f rfl (Ml e) ?_) (mF (zt (zH (x:=.int (aD h k)) (y:=.int b) (zH (x:=hD h) (y:=.int (k:Int)) f e n) o rfl) zR) (by show 1<=1000;decide)) (QC ?_)) (Ms f (Ml (i:=((k+1:Nat):Int)) (zH e rfl rfl)) rfl ?_) ?_
 .show some (D.tup (cu (h.map .int) none (some (k:Int))))=_
  rw[zhT]
 .rw[fW,u5]
  show min k ↥h+1<=1000
  omega
 .show some (D.tup (cu (h.map .int) (some ((k+1:Nat):Int)) none))=_
  rw[zh9]
 .rw[QC (by rw[j9,fW,qH,u5];show min k ↥h+1+(↥h-(k+1))<=1000;omega)]
  unfold hD YZ bU
  rw[List.set_eq_take_append_cons_drop,t5 (by show k<↥h;exact m),r8,n0,List.map_take,List.map_drop,qM]
  rfl
def N6 (h:Hl)(a b:Int):(YZ h a b).length=↥h:=Xj h a _
def Oo {h:Hl}{a:Int}(c:0<=a)(d:a<↥h):(YZ h a b).sum=h.sum+b:=by
 unfold YZ
 rw[HB c d]
 omega
def Nk {b:Int}(d:∀ v∈h,0<=v)(e:0<=b):∀ v∈YZ h a b,0<=v:=λv c=>by
 have:=vo d a
 rcases Hq c with rfl|c
 .omega
 .exact d v c
def zk7 {h:Hl}(r:↥h<=8):∃ m:List Hl,Bh [hD h]≈(.lst (m.map hD))/\∀ g∈m,∃ i:Int,0<=i/\i<↥h/\g=YZ h i 1:=by
 obtain⟨ns,a⟩:∃ ns:zr,ns=((Q0g ↥h).filter λj:Nat=>decide (0<aD h (j:Int))).map λj:Nat=>(j:Int):=⟨_,rfl⟩
 have c:∀ x∈ns,0<=x/\x<↥h:=λx n=>by
  rw[a]at n
  obtain⟨j,o,rfl⟩:=g9.mp n
  have:=p4.mp (eU.mp o).1
  omega
 obtain⟨l,f⟩:∃ l:Int,l=if ns=[]then 0 else maxL ns:=⟨_,rfl⟩
 have q:0<=l/\l<=8:=by
  rw[f]
  split
  .omega
  .rename_i h
   have:=c _ (Pg h).1
   omega
 have s:aL (WZ (za (zc 0) zh)) b2 (aq (zg dH (zc 1) (eC (.int 0)))) (zc 0) [some (hD h),none]≈(ns.map .int):=by
  unfold aL
  show(if aU (ZE 0 (h.map .int)).length then dG _ _ _ _ (ZE 0 (h.map .int))else none)=_
  rw[znZ,t5 (yV (by rw[u5,kE];omega)),a,l4]
  exact xJ (λj:Nat=>D.tup [.int (j:Int),.int (aD h (j:Int))]) (λj:Nat=>decide (0<aD h (j:Int))) (λj:Nat=>.int (j:Int)) _ λj _=>⟨[some (.int (j:Int)),some (.int (aD h (j:Int)))],rfl,rfl,λ_=>rfl⟩
 have p:aL (dB cT (za (zc 1) (za (aF Xr (za (zc 0) zh)) zh))) b1 yN (zg yh (zg yh (eY gf (zc 1) VU (XM (zc 0))) (X8 (za (zg yh (zg aB (zc 1) (zc 0)) (eC (.int 1))) zh))) (eY gf (zc 1) (XM (zg yh (zc 0) (eC (.int 1)))) VU)) [some (hD h),some (.int l)]≈(((Q0g ((↥h:Int)-l).toNat).map λk:Nat=>YZ h (l+k) 1).map hD):=by
  unfold aL
  show((cT [.int l,.int ((h.map D.int).length:Int)]).bind λe=>if aU ↥e then dG _ _ _ _ e else none)=_
  rw[u5,RX q.1 ∅ ∅ ∅,q7]
  unfold ZS
  rw[t5 (yV (by rw[u5,kE];omega)),l4]
  refine wM (λk:Nat=>D.int (l+(k:Int))) _ _ λk b=>⟨[some (.int (l+(k:Int)))],rfl,rfl,MP r ∅ ?_ rfl rfl rfl⟩
  have:=p4.mp b
  omega
 refine⟨(Q0g ((↥h:Int)-l).toNat).map λk:Nat=>YZ h (l+k) 1,?_,λg t=>?_⟩
 .refine w4 (ρ:=[.v (hD h),.no]) rfl ?_
  unfold Pn
  refine zu (xG (d:=.int l) (ρ':=[.v (hD h),.v (.int l)]) ?_) ?_
  .refine zH (x:=.lst (ns.map .int)) (y:=.int 0) ?_ rfl ?_
   .show(aL _ _ _ _ [some (hD h),none]).map D.lst=_
    rw[s]
    rfl
   .show(dR (ns.map .int)).map (λns=>D.int (if ns=[]then 0 else maxL ns))=_
    rw[Xe,f]
    rfl
  .refine wz (ye ?_) rfl
   show(aL _ _ _ _ [some (hD h),some (.int l)]).map D.lst=_
   rw[p]
   rfl
 .obtain⟨k,b,rfl⟩:=g9.mp t
  have:=p4.mp b
  exact⟨l+k,by omega,by omega,rfl⟩
def uz {m:Nat}{g:zM}{ds:zl}{R:D->Prop}(e:ds.map .v++Q0a (m-↥ds) .no=ρ)(q:(g ρ).w bO bO bO R):∃ d,aK m g ds≈d/\R d:=by
 unfold aK
 rw[e]
 generalize g ρ=c at q
 cases q with
 |nx h=>cases h
 |bk h=>cases h
 |ct h=>cases h
 |rt h=>exact⟨_,rfl,h⟩
def zkg {g:Hl}{ss:zy}(k:∀ s∈ss,vX ↥g s):∃ b,Y2 [hD g,.lst (ss.map zd),bG L]≈(.bl b):=by
 have q:(Y4 [.v (hD g),.v (.lst (ss.map zd)),.v (bG L),.no]).w bO bO bO (λd=>∃ b,d=.bl b):=by
  unfold Y4
  refine yE (Xn (ds:=ss.map zd) (λ_ ρ=>∃ o,ρ=[.v (hD g),.v (.lst (ss.map zd)),.v (bG L),o]) rfl ⟨_,rfl⟩ ?_ ?_)
  .rintro i d ρ h ⟨o,rfl⟩
   rw[q4]at h
   obtain⟨s,f,rfl⟩:=u8.mp h
   have a:=k s (k6 f)
   refine⟨[.v (hD g),.v (.lst (ss.map zd)),.v (bG L),.v (zd s)],rfl,?_⟩
   unfold X7
   refine ZQ (c:=decide (2<=aD g s.1)&&!decide (aC g s∈L)) ?_ (λ_=>wz rfl ⟨_,rfl⟩) (λ_=>vE rfl ⟨_,rfl⟩)
   have l:aq (zg eE (zg aB (zc 0) (zg aB (zc 3) (eC (.int 0)))) (eC (.int 2))) (visG [.v (hD g),.v (.lst (ss.map zd)),.v (bG L),.v (zd s)])≈(decide (2<=aD g s.1)):=wU (zH (x:=.int (aD g s.1)) (y:=.int 2) (zH (x:=hD g) (y:=.int s.1) rfl rfl (wR a.a0 a.a1)) rfl rfl)
   have j:aq (zg (ik true) (zi 2 YU (za (zc 0) (za (zc 3) zh))) (zc 2)) (visG [.v (hD g),.v (.lst (ss.map zd)),.v (bG L),.v (zd s)])≈(!decide (aC g s∈L)):=wU (zH (x:=hD (aC g s)) (y:=bG L) (zx (ds:=[hD g,zd s]) rfl (RV a)) rfl (zq4 L _))
   unfold ZC
   rw[l,j,q7]
   cases decide (2<=aD g s.1) <;> rfl
  .rintro ρ ⟨o,rfl⟩
   exact wz rfl ⟨_,rfl⟩
 obtain⟨d,e,b,rfl⟩:=uz (m:=4) (g:=Y4) (ds:=[hD g,.lst (ss.map zd),bG L]) rfl q
 exact⟨b,e⟩
structure gO (n:Nat) (p:Int) (k:Nat) (L:List Hl):Prop where
 nd:L.Nodup
 all:∀ g∈L,Lv n p k g
def gO.put {k:Nat}{g:Hl}(h:gO n p k L)(j:Lv n p k g):gO n p k (oJ L g):=by
 unfold oJ
 by_cases c:g∈L
 .rw[t5 c];exact h
 .rw[j5 c]
  refine⟨CK.mpr ⟨h.nd,by simp,λa f b i e=>?_⟩,λx d=>?_⟩
  .cases t7.mp i
   exact c (e ▸ f)
  .rcases o0.mp d with d|d
   .exact h.all x d
   .cases t7.mp d
    exact j
abbrev jC (L A:List Hl)(a:zy)(p:Int)(c b:Sl):SE:=[.v (bG L),.v (.lst (a.map zd)),.v (.int p),.v (.int 1),.m true (A.map hK) (A.map λ_=>.bl true),c,b]
def zac {k:Nat}{p:Int}{l:zy}(J:∀ s∈l,vX n s)(h0:0<=p)(B:p<n)(I:n<=5)(F:k+1<=302)(h:gO n p k L) :
 ∃ A,Yj [bG L,.lst (l.map zd),.int p,.int 1]≈(bG A)/\gO n p (k+1) A:=by
 have q:(w1 [.v (bG L),.v (.lst (l.map zd)),.v (.int p),.v (.int 1),.no,.no,.no]).w bO bO bO (λd=>∃ A,d=bG A/\gO n p (k+1) A):=by
  unfold w1
  refine zu (ρ':=jC L [] l p .no .no) rfl ?_
  refine yE (Xn (ds:=L.map hD) (λ_ ρ=>∃ A v r,ρ=jC L A l p v r/\gO n p (k+1) A) (zjz L) ⟨[],_,_,rfl,jY,λg z=>by cases z⟩ ?_ ?_)
  .rintro i d ρ t ⟨A,v,r,rfl,o⟩
   rw[q4]at t
   obtain⟨f,w,rfl⟩:=u8.mp t
   have u:=h.all f (k6 w)
   refine⟨jC L A l p (.v (hD f)) r,rfl,?_⟩
   obtain⟨M,G,z⟩:=zk7 (h:=f) (by rw[u.len];omega)
   unfold YY
   refine Xn (ds:=M.map hD) (λ_ ρ=>∃ A r,ρ=jC L A l p (.v (hD f)) r/\gO n p (k+1) A) ?_ ⟨A,r,rfl,o⟩ ?_ ?_
   .show((zi 1 Bh (za (zc 5) zh) (visF (jC L A l p (.v (hD f)) r))).bind wW)=_
    rw[zx (ds:=[hD f]) rfl G]
    rfl
   .rintro i d ρ t ⟨A,r,rfl,o⟩
    rw[q4]at t
    obtain⟨g,w,rfl⟩:=u8.mp t
    obtain⟨j,N,O,rfl⟩:=z g (k6 w)
    have gl:(YZ f j 1).length=n:=by rw[N6];exact u.len
    have D:=Nk (a:=j) (b:=1) u.nn ⋯
    refine⟨jC L A l p (.v (hD f)) (.v (hD (YZ f j 1))),rfl,?_⟩
    obtain⟨b,H⟩:=zkg (g:=YZ f j 1) (ss:=l) (L:=L) (λs K=>by rw[gl];exact J s K)
    unfold YJ
    refine ZQ (c:=decide (aD (YZ f j 1) p<1)&&b) ?_ (λc=>?_) (λ_=>vE rfl ⟨A,_,rfl,o⟩)
    .have P:aq (zg nO (zg aB (zc 6) (zc 2)) (zc 3)) (visG (jC L A l p (.v (hD f)) (.v (hD (YZ f j 1)))))≈(decide (aD (YZ f j 1) p<1)):=wU (zH (x:=.int (aD (YZ f j 1) p)) (y:=.int 1) (zH (x:=hD (YZ f j 1)) (y:=.int p) rfl rfl (wR h0 (by rw[gl];exact B))) rfl rfl)
     have E:aq (zi 3 Y2 (za (zc 6) (za (zc 1) (za (zc 0) zh)))) (visG (jC L A l p (.v (hD f)) (.v (hD (YZ f j 1)))))≈b:=wU (zx (ds:=[hD (YZ f j 1),.lst (l.map zd),bG L]) rfl H)
     unfold ZC
     rw[P,E,q7]
     cases decide (aD (YZ f j 1) p<1) <;> rfl
    .have Q:aD (YZ f j 1) p<1:=by
      cases C:decide (aD (YZ f j 1) p<1) with
      |true=>exact j8 C
      |false=>rw[C]at c;cases c
     refine vE (zjU (L:=A) (g:=YZ f j 1) rfl rfl (zrN h0 B I F o.nd o.all) rfl) ⟨_,_,rfl,o.put ⟨gl,D,?_,?_⟩⟩
     .have:=vo D p
      omega
     .rw[Oo N O,u.sum]
      rfl
   .rintro ρ ⟨A,r,rfl,o⟩
    exact⟨A,_,_,rfl,o⟩
  .rintro ρ ⟨A,v,r,rfl,o⟩
   exact wz rfl ⟨A,rfl,o⟩
 obtain⟨d,e,A,rfl,o⟩:=uz (m:=7) (g:=w1) (ds:=[bG L,.lst (l.map zd),.int p,.int 1]) rfl q
 exact⟨A,e,o⟩
abbrev Dj (W:D)(p:Int)(a:zy)(Ls:List (List Hl))(L:List Hl):SE:=[.v W,.v (.int p),.v (.int 1),.v (.int 300),.v (.lst (a.map zd)),.o (Ls.map bG),.v (bG L)]
def JQ:SE->Nat
 |[_,_,_,_,_,.o ds,_]=>302-↥ds
 |_=>0
def zf0 {p:Int}(ok:yd m a)(w:m<=5)(h0:0<=p)(C:p<m):∃ b:zl,wF [aa m a,.int p,.int 1,.int 300]≈(.lst b)/\↥b<=301:=by
 have B:=ok.lo
 have q:(xA [.v (aa m a),.v (.int p),.v (.int 1),.v (.int 300),.no,.no,.no]).w bO bO bO (λd=>∃ b:zl,d=.lst b/\↥b<=301):=by
  unfold xA
  have s:ya [aa m a]≈(.lst ((yj m a).map zd)):=by
   simp only[ya]
   rw[t5 ((yu _).mpr ⟨_,_,rfl,ok⟩),xr,xQ]
  refine zu (xG (d:=.lst ((yj m a).map zd)) s) ?_
  refine zu (ρ':=[.v (aa m a),.v (.int p),.v (.int 1),.v (.int 300),.v (.lst ((yj m a).map zd)),.o [],.no]) rfl ?_
  have u:gO m.toNat p 0 [Q0a m.toNat (0:Int)]:=by
   refine⟨by simp,λg r=>?_⟩
   cases t7.mp r
   refine⟨jt,λv t=>by rw[R9 t];exact fH 0,?_,?_⟩
   .unfold aD
    rw[p5,p8]
    split <;> rfl
   .generalize m.toNat=n
    induction n with
    |zero=>rfl
    |succ n f=>rw[l7,nj,f];rfl
  refine zu (xG (d:=bG [Q0a m.toNat (0:Int)]) (ρ':=Dj (aa m a) p (yj m a) [] [Q0a m.toNat (0:Int)]) ?_) ?_
  .have e:aF vR (za (zg V1 (xm (yX (za (eC (.int 0)) zh))) (zg aB (zc 0) (eC (.int 0)))) zh) (visF [.v (aa m a),.v (.int p),.v (.int 1),.v (.int 300),.v (.lst ((yj m a).map zd)),.o [],.no])≈(hD (Q0a m.toNat (0:Int))):=by
    refine YM (ds:=[.lst ((Q0a m.toNat (0:Int)).map .int)]) (zt (zH (x:=.lst [.int 0]) (y:=.int m) rfl rfl ?_) zR) rfl
    show(if -(2^63)<=m/\m<2^63/\aU (1*m.toNat) then some (D.lst (Q0a m.toNat [D.int 0]).flatten)else none)=_
    rw[t5 ⟨by omega,by omega,yV ∅⟩,List.map_replicate]
    congr 2
    generalize m.toNat=n
    induction n with
    |zero=>rfl
    |succ n f=>rw[l7,l7,kI,f];rfl
   show(Ag _ _ _)=_
   unfold Ag
   rw[e]
   show(eG (hD (Q0a m.toNat (0:Int)))).map (λk=>D.dct true true [k] [.bl true])=_
   rw[XV]
   rfl
  refine yE (W6 (fun ρ=>∃ (Ls:List (List Hl)) (L:List Hl),ρ=Dj (aa m a) p (yj m a) Ls L/\Ls.length<=301/\gO m.toNat p Ls.length L) JQ ?_ 310 _ ⟨[],_,rfl,by decide,u⟩ (by show 302-0<310;decide))
  rintro ρ ⟨Ls,L,rfl,j,l⟩
  refine⟨decide ((0:Int)<((L.map hK).length:Int))&&decide (((Ls.map bG).length:Int)<=300),?_,λc=>?_,λ_=>?_⟩
  .unfold ZC
   show(some (decide ((0:Int)<((L.map hK).length:Int)))).bind (λc=>if c then some (decide (((Ls.map bG).length:Int)<=300))else some false)=_
   rw[q7]
   cases decide ((0:Int)<((L.map hK).length:Int)) <;> rfl
  .have z:Ls.length<=300:=by
    rw[k9,u5]at c
    have:=j8 c.2
    rw[u5]at this
    omega
   obtain⟨A,h,o⟩:=zac (vS ok) h0 ∅ ∅ ∅ l
   unfold vB
   refine zu (Ox (ds:=Ls.map bG) (d:=bG L) rfl rfl (by rw[u5];show _<2^24;omega) rfl) ?_
   refine vE (xG (d:=bG A) (ρ':=Dj (aa m a) p (yj m a) (Ls++[L]) A) h (by unfold Dj;rw[r8];rfl)) ⟨⟨_,_,rfl,by rw[j9];show _+1<=_;omega,by rw[j9];exact o⟩,?_⟩
   show 302-((Ls++[L]).map bG).length<302-(Ls.map bG).length
   rw[u5,u5,j9]
   show 302-(Ls.length+1)<_
   omega
  .exact gw rfl (wz rfl ⟨_,rfl,by rw[u5];exact j⟩)
 obtain⟨d,e,b,rfl,i⟩:=uz (m:=7) (g:=xA) (ds:=[aa m a,.int p,.int 1,.int 300]) rfl q
 exact⟨b,e,i⟩
def zgn:wN [.int 1,.int 1,.int 3]≈.non:=by kernel_rfl
def zg2 {p:Int}(ok:yd m a)(h0:0<=p)(b:p<m):xw [aa m a,.int p,.int 1]≈.non:=by
 refine w4 (ρ:=[.v (aa m a),.v (.int p),.v (.int 1)]) rfl ?_
 unfold Yw
 refine zu (yp (Hk ok)) ?_
 refine zu (yp (d:=.non) (wa (ts:=a) ⟨h0,b⟩)) ?_
 exact vE (yp zgn) rfl
def Ew {t:vL}{g h:wV}(e:t (visG ρ)≈b):jW t g h ρ=if b then g ρ else h ρ:=by
 unfold jW
 rw[e]
 cases b <;> rfl
def Bq {b:wV}{g:zM}(e:g ρ=.nx a):dO di g b ρ=b a:=by
 show(match g ρ with|.nx a=>b a|_=>none)=_
 rw[e]
def pG {n:Nat}{r:jJ}{a:yL}{ds:zl}(c:a (visG ρ)≈ds)(b:↥ds=n:=by rfl):iG (jn n r a) ρ=r ds:=by
 show((a (visG ρ)).bind λds=>if ↥ds=n then r ds else none)=_
 rw[c,q7,t5 b]
def zo1 {p:Int}(ok:yd m d)(q:m<=5)(h0:0<=p)(j:p<m) :
 (∃ k:Int,qb [aa m d,.int p,.int 1]≈(.int k)/\0<=k/\k<=301/\YW [aa m d,.int p,.int 1]=none)\/YW [aa m d,.int p,.int 1]≈7:=by
 obtain⟨f,e,u⟩:=zf0 ok q h0 j
 have g:=zb9 ok
 generalize decide (((oV m.toNat d).length:Int)=1)=b at g
 have i:=zg2 ok h0 j
 have h:xF (aq (zi 1 vd (za (zc 0) zh))) (visG [.v (aa m d)])≈(!b):=pU (wU (zx (ds:=[aa m d]) rfl g))
 have l:YW [aa m d,.int p,.int 1]=if (!b) then some 7 else none:=by
  have t:y8 [aa m d]=if (!b) then some 7 else none:=Ew h
  have r:wl [aa m d,.int p,.int 1]=y8 [aa m d]:=(Bq (ρ:=[.v (aa m d),.v (.int p),.v (.int 1)]) (yp i)).trans (pG rfl)
  have n:YW [aa m d,.int p,.int 1]=wl [aa m d,.int p,.int 1]:=rfl
  exact(n.trans r).trans t
 cases b with
 |true =>
  have s:we [aa m d]≈.non:=by
   refine w4 (ρ:=[.v (aa m d)]) rfl ?_
   unfold vQ
   refine yE (ZQ (c:=false) h (λz=>by cases z) (λ_=>vE rfl ?_))
   exact vE (yp (YT (a:=m) (b:=6) ∅)) rfl
  have o:Ye [aa m d,.int p,.int 1]≈(.lst f):=by
   refine w4 (ρ:=[.v (aa m d),.v (.int p),.v (.int 1)]) rfl ?_
   unfold Z3
   refine zu (yp i) ?_
   refine zu (yp s) ?_
   exact wz (ye e) rfl
  refine .inl ⟨(↥f:Int),w4 (ρ:=[.v (aa m d),.v (.int p),.v (.int 1)]) rfl ?_,by omega,by omega,l⟩
  unfold MJ
  exact wz (ye (YM (ds:=[.lst f]) (zt (zx (ds:=[aa m d,.int p,.int 1]) rfl o) zR) rfl)) rfl
 |false=>exact .inr l
def kP (t:aY):List aJ:=[.inl t.1,.inl t.2]
def zr2 {t:aY}(h:kP s=kP t):s=t:=by
 unfold kP at h
 obtain⟨b,a⟩:=jz h
 obtain⟨a,_⟩:=jz a
 exact gD (Q2R b) (Q2R a)
def Ot (t:aY):∀ a:zy,(ZN (a.map kP) (a.map λ_=>D.bl true) (kP t)).isSome=decide (t∈a):=by
 intro a
 induction a with
 |nil=>rfl
 |cons k a b =>
  rw[n0,n0]
  unfold ZN
  by_cases h:kP k=kP t
  .rw[t5 h]
   rw[zr2 h]
   exact(j3 o5).symm
  .rw[j5 h,b]
   have:(t∈k::a)↔t∈a:=⟨λz=>(t9.mp z).elim (λe=>absurd (by rw[e]) h) id,r6 _⟩
   exact(qZ.mpr this).symm
def znK {t:aY}{a:zy}:ik false (zd t) (.dct z true (a.map kP) (a.map λ_=>D.bl true))≈(.bl (decide (t∈a))):=by
 show some (D.bl (false != (ZN (a.map kP) (a.map λ_=>D.bl true) (kP t)).isSome))=_
 rw[Ot]
 cases decide (t∈a) <;> rfl
structure Dv (m:Int) (s:aY):Prop where
 a:0<=s.1/\s.1<m
 b:0<=s.2/\s.2<m
 ne:s.1≠s.2
def zkC (h:Dv m s):xT [.int m,zd s]≈(.bl true):=by
 have e:(bY m s.1&&bY m s.2&&!decide (s.1=s.2))=true:=by
  obtain⟨⟨a,b⟩,⟨c,d⟩,e⟩:=h
  unfold bY
  simp only[k9,k7,Jf,h8]
  omega
 show some (D.bl (bY m s.1&&bY m s.2&&!decide (s.1=s.2)))=_
 rw[e]
def Wz (m:Int)(L:D)(a:zy)(d b c:Sl):SE:=[.v (.int m),.v L,.m true (a.map kP) (a.map λ_=>.bl true),d,b,c]
def zpV (h:zc 4 ρ≈(zd s)):zi 2 yQ (za (zg aB (zc 4) (eC (.int 0))) (za (zg aB (zc 4) (eC (.int 1))) zh)) ρ≈(zd (Yz s.1 s.2)) :=
 zx (ds:=[.int s.1,.int s.2]) (zt (zH (x:=zd s) (y:=.int 0) h rfl rfl) (zt (zH (x:=zd s) (y:=.int 1) h rfl rfl) zR)) rfl
def ziD {a:zy}{t:aY}(d:t∉a)(h:↥a<1000):VE false 2 (zc 5) (eC (.bl true)) (Wz m L a c b (.v (zd t)))=.nx (Wz m L (a++[t]) c b (.v (zd t))):=by
 have f:(ZN (a.map kP) (a.map λ_=>D.bl true) (kP t)).isSome=false:=by rw[Ot];exact r0 d
 have e:fC (Wz m L a c b (.v (zd t))) 2 (zd t) (.bl true)≈(Wz m L (a++[t]) c b (.v (zd t))):=by
  unfold fC
  show(jM true (zd t)).bind _=_
  show(if decide ((a.map kP).length<sizeLine) then _ else none)=_
  rw[t5 (j3 (by rw[u5];exact vm (i7 h)))]
  show some (_:SE)=_
  unfold iy iC Wz
  rw[show(ZN (a.map kP) (a.map λ_=>D.bl true) [Q04 t.1,Q04 t.2]).isSome=false from f]
  simp only[r8]
  rfl
 unfold VE
 show(match fC (Wz m L a c b (.v (zd t))) 2 (zd t) (.bl true)with|some g=>aP.nx g|none=>aP.no)=_
 rw[e]
abbrev Xv :=zG (aH (xF (aq (zi 2 xT (za (zc 0) (za (zc 4) zh))))) bV zL)
  (zG (xn false 5 (zi 2 yQ (za (zg aB (zc 4) (eC (.int 0))) (za (zg aB (zc 4) (eC (.int 1))) zh))))
  (zG (aH (aq (zg (ik false) (zc 5) (zc 2))) bV zL)
  (VE false 2 (zc 5) (eC (.bl true)))))
abbrev QH :=zG (aH (xF (aq (zi 1 yg (za (zc 0) zh)))) bV zL)
  (zG (uw true 2)
  (zG (cA (WZ (za (zc 1) zh)) (gZ 2 (ZJ (xE 3) (ZJ (xE 4) jd))) Xv)
  (oN 2 (yf (X8 (za (zc 0) (za (aF vR (za (xm (gK Ao (za (zc 2) zh))) zh)) zh)))))))
def Z8:=aK 6 QH
def zn9 {a:zy}(h:Dv m s)(d:Yz s.1 s.2∉a)(f:↥a<1000):Xv (Wz m L a c (.v (zd s)) e)=.nx (Wz m L (a++[Yz s.1 s.2]) c (.v (zd s)) (.v (zd (Yz s.1 s.2)))):=by
 unfold Xv
 refine GC (FN (pU (b:=true) (wU (zx (ds:=[.int m,zd s]) rfl (zkC h))))) ?_
 refine GC (ρ':=Wz m L a c (.v (zd s)) (.v (zd (Yz s.1 s.2)))) (vK (zpV rfl)) ?_
 refine GC (FN (wU (zH (x:=zd (Yz s.1 s.2)) (y:=.dct false true (a.map kP) (a.map λ_=>.bl true)) rfl rfl ?_))) (ziD d f)
 rw[znK,r0 d]
def pl (t:aY):zr:=[t.1,t.2]
def zkf:∀ a:zy,jP (a.map kP)≈(a.map pl):=by
 intro a
 induction a with
 |nil=>rfl
 |cons k a b =>
  rw[n0]
  show(jP (a.map kP)).map (_::·)=_
  rw[b]
  rfl
def zdu {ks c:zy}(d:↥ks<64)(f:ks.Perm c)(e:(c.map pl).Pairwise λa b=>HT.lexLt b a=false):Ao [.dct z true (ks.map kP) vs]≈(c.map zd):=by
 show(if (ks.map kP).length<64 then _ else none)=_
 rw[t5 (by rw[u5];exact d),zkf,Option.map_some,<- VN (f.symm.map pl) e,l4]
 rfl
def zhd {m:Int}(a:1<=m/\m<=8):yg [.int m]≈(.bl true):=by
 show some (D.bl (decide (1<=m)&&decide (m<=8)))=_
 rw[j3 a.1,j3 a.2]
 rfl
def Rv {S:zy}{i:Nat}(h:S[i]?≈s):(S.take (i+1)).map (λs=>Yz s.1 s.2)=(S.take i).map (λs=>Yz s.1 s.2)++[Yz s.1 s.2]:=by
 rw[qL,h,r8]
 rfl
def znc {S:zy}{i:Nat}(a:(S.map λs=>Yz s.1 s.2).Nodup)(h:S[i]?≈s):Yz s.1 s.2∉(S.take i).map λs=>Yz s.1 s.2:=by
 have b:((S.take (i+1)).map λs=>Yz s.1 s.2).Nodup:=by
  refine a.sublist ?_
  exact(CG _ _).map _
 rw[Rv h]at b
 intro z
 exact(CK.mp b).2.2 _ z _ (t7.mpr rfl) rfl
def zg0 {m:Int}{S e:zy}(r:1<=m/\m<=8)(l:∀ s∈S,Dv m s)(j:(S.map λs=>Yz s.1 s.2).Nodup)(n:↥S<64)(q:(S.map λs=>Yz s.1 s.2).Perm e)(p:(e.map pl).Pairwise λa b=>HT.lexLt b a=false):Z8 [.int m,.lst (S.map zd)]≈(aa m e):=by
 refine w4 (ρ:=[.v (.int m),.v (.lst (S.map zd)),.no,.no,.no,.no]) rfl ?_
 unfold QH
 refine zu (FN (pU (b:=true) (wU (zx (ds:=[.int m]) rfl (zhd r))))) ?_
 refine zu (ρ':=Wz m (.lst (S.map zd)) [] .no .no .no) rfl ?_
 refine yE (Xn (ds:=ZE 0 (S.map zd)) (λi ρ=>∃ g f c,ρ=Wz m (.lst (S.map zd)) ((S.take i).map λs=>Yz s.1 s.2) g f c) rfl ⟨_,_,_,rfl⟩ ?_ ?_)
 .rintro i d ρ k ⟨g,f,c,rfl⟩
  rw[vk,i3,q4]at k
  obtain⟨x,o,rfl⟩:=u8.mp k
  obtain⟨s,h,rfl⟩:=u8.mp o
  refine⟨Wz m (.lst (S.map zd)) ((S.take i).map λs=>Yz s.1 s.2) (.v (.int (i:Int))) (.v (zd s)) c,rfl,?_⟩
  refine vE (zn9 (l s (k6 h)) (znc j h) (by rw[u5,fW];omega)) ⟨.v (.int (i:Int)),.v (zd s),.v (zd (Yz s.1 s.2)),?_⟩
  rw[Rv h]
 .rintro ρ ⟨g,f,c,rfl⟩
  rw[wx,u5,iK]
  refine wz (d:=aa m e) ?_ rfl
  have t:=zdu (z:=true) (ks:=S.map λs=>Yz s.1 s.2) (vs:=(S.map λs=>Yz s.1 s.2).map λ_=>.bl true) (by rw[u5];exact n) q p
  show yf _ [.v (.int m),.v (.lst (S.map zd)),.v (.dct true true ((S.map λs=>Yz s.1 s.2).map kP) ((S.map λs=>Yz s.1 s.2).map λ_=>.bl true)),g,f,c]=_
  exact ye (mF (zt rfl (zt (YM (ds:=[.lst (e.map zd)]) (zt (vc (Ng (ds:=[_]) rfl t)) zR) rfl) zR)) (by show 2<=1000;decide))
def QV:T.Pr 13 5 2 Z8:=by
 have:=vP T
 have:=RN T
 have:=Zp T
 walk_at "p"
def znt {a b:Str}(h:a.cps.toList=b.cps.toList):a=b:=by
 cases a;cases b
 congr 1
 exact Array.ext' h
def gl (c:Nat):List Yy->Yy
 |[]=>[]
 |[x]=>x
 |x::y::r=>x++c::gl c (y::r)
def Hc (c:Nat):∀ A:zF,(Q1g ⟨#[c]⟩ A).cps.toList=gl c (A.map λa=>a.cps.toList):=by
 intro A
 induction A with
 |nil=>rfl
 |cons x r b =>
  cases r with
  |nil=>rfl
  |cons y r =>
   show((x++⟨#[c]⟩++Q1g ⟨#[c]⟩ (y::r)).cps).toList=x.cps.toList++c::gl c ((y::r).map λa=>a.cps.toList)
   rw[<-b,Str.cps_append,Str.cps_append,Array.toList_append,Array.toList_append,qM]
   rfl
def zkS {c:Nat}:∀ {a b X Y:Yy},c∉a->c∉b->a++c::X=b++c::Y->a=b/\X=Y:=by
 intro a
 induction a with
 |nil =>
  intro b X Y _ d e
  cases b with
  |nil=>exact⟨rfl,(jz e).2⟩
  |cons y b=>exact absurd ((jz e).1 ▸ o5 ..) d
 |cons x a l =>
  intro b X Y f d e
  cases b with
  |nil=>exact absurd ((jz e).1 ▸ o5 ..) f
  |cons y b =>
   obtain⟨k,g⟩:=jz e
   obtain⟨j,i⟩:=l (λh=>f (.tail _ h)) (λh=>d (.tail _ h)) g
   exact⟨by rw[k,j],i⟩
def zqJ {c:Nat}:∀ {A B:List Yy},A≠[]->B≠[]->(∀ a∈A,c∉a)->(∀ b∈B,c∉b)->gl c A=gl c B->A=B:=by
 have d:∀ {a:Yy} {y:Yy} {r:List Yy} {X:Yy},c∉a->a=y++c::X->False:=λf e=>f (by rw[e];exact r9 _ (.head _))
 intro A
 induction A with
 |nil=>intro B h;exact absurd rfl h
 |cons x r n =>
  intro B _ m i g e
  cases B with
  |nil=>exact absurd rfl m
  |cons y q =>
   cases r with
   |nil =>
    cases q with
    |nil=>exact bJ (λz=>[z]) e
    |cons o q=>exact(d (r:=[]) (i x (.head _)) e).elim
   |cons p r =>
    cases q with
    |nil=>exact(d (r:=[]) (g y (.head _)) e.symm).elim
    |cons o q =>
     obtain⟨k,j⟩:=zkS (i x (.head _)) (g y (.head _)) e
     rw[k,n (BJ _ _) (BJ _ _) (λa f=>i a (.tail _ f)) (λb l=>g b (.tail _ l)) j]
def zf1 {c:Nat}(l:A≠[])(k:∀ a∈A,c∉a.cps.toList):Txt.split (Txt.join ⟨#[c]⟩ A) ⟨#[c]⟩=A:=by
 have p:Txt.join ⟨#[c]⟩ A=Q1g ⟨#[c]⟩ A:=jZ _ _
 rw[p]
 have j:=StrLaws.join_split (Q1g ⟨#[c]⟩ A) ⟨#[c]⟩
 have g:=StrLaws.split_free (Q1g ⟨#[c]⟩ A) c
 have e:=PyProof.Rows.split_pos (Q1g ⟨#[c]⟩ A) ⟨#[c]⟩
 generalize Txt.split (Q1g ⟨#[c]⟩ A) ⟨#[c]⟩=S at j g e
 have i:=bJ (λa:Str=>a.cps.toList) j
 rw[Hc,Hc]at i
 have inj:∀ {A B:zF},(A.map λa=>a.cps.toList)=B.map (λa=>a.cps.toList)->A=B:=λ{A}=>by
  induction A with
  |nil=>intro B h;cases B with|nil=>rfl|cons b B=>cases h
  |cons a A o =>
   intro B h
   cases B with
   |nil=>cases h
   |cons b B =>
    obtain⟨n,m⟩:=jz h
    rw[znt n,o m]
 refine inj (zqJ (λz=>?_) (λz=>l (Cu.mp z)) (λa d=>?_) (λa d=>?_) i)
 .rw[Cu.mp z]at e
  exact absurd e ⋯
 .obtain⟨x,f,rfl⟩:=g9.mp d
  exact g x f
 .obtain⟨x,f,rfl⟩:=g9.mp d
  exact k x f
def zlO:Q0b " "=⟨#[32]⟩:=by decide
def Gs:Q0b "\n"=⟨#[10]⟩:=by decide
def nS (n:Int):Str:=Q0b (toString n)
def Sy (n:Nat):Bool:=(nS (n:Int)).cps.toList.all (λc=>decide (48<=c)&&decide (c<=57))&&decide ((nS (n:Int)).length<=3)
def znp:(Q0g 301).all Sy=true:=by decide +kernel
def Wr {n:Int}(h0:0<=n)(b:n<=300):(∀ c∈(nS n).cps.toList,48<=c/\c<=57)/\(nS n).length<=3:=by
 have h:=l5.mp znp n.toNat (p4.mpr ∅)
 unfold Sy at h
 rw[show((n.toNat:Nat):Int)=n by omega,k9]at h
 refine⟨λc a=>?_,j8 h.2⟩
 have:=l5.mp h.1 c a
 rw[k9]at this
 exact⟨j8 this.1,j8 this.2⟩
def vN (w:Str) (ns:zr):Str:=Txt.join (Q0b " ") (w::ns.map nS)
structure Wc (w:Str):Prop where
 len:↥w<=4
 asc:∀ c∈w.cps.toList,97<=c/\c<=122
structure vD (ns:zr):Prop where
 few:↥ns<=8
 rng:∀ n∈ns,0<=n/\n<=300
def QR {w:Str}{ns:zr}(hw:Wc w)(c:vD ns):∀ y∈w::ns.map nS,↥y<=4:=λy b=>by
 rcases t9.mp b with rfl|b
 .exact hw.len
 .obtain⟨n,a,rfl⟩:=g9.mp b
  have:=(Wr (c.rng n a).1 (c.rng n a).2).2
  omega
def HF {w:Str}(hw:Wc w)(a:vD ns):(vN w ns).length<=45:=by
 have c:vN w ns=Q1g (Q0b " ") (w::ns.map nS):=jZ _ _
 have b:=Q1S (Q0b " ") (w::ns.map nS)
 have f:=StrLaws.sumLen_le (w::ns.map nS) (QR hw a)
 have e:(w::ns.map nS).length<=9:=by rw[g5,u5];have:=a.few;omega
 have d:(Q0b " ").length=1:=by decide
 rw[c]
 rw[d]at b
 omega
def XC {w:Str}(hw:Wc w)(g:vD ns):∀ c∈(vN w ns).cps.toList,32<=c/\c<=122:=by
 have i:vN w ns=Q1g (Q0b " ") (w::ns.map nS):=jZ _ _
 rw[i,zlO,Hc]
 have key:∀ A:List Yy,(∀ a∈A,∀ c∈a,32<=c/\c<=122)->∀ c∈gl 32 A,32<=c/\c<=122:=λA=>by
  induction A with
  |nil=>intro _ c b;cases b
  |cons x r j =>
   intro h c b
   cases r with
   |nil=>exact h x (.head _) c b
   |cons y r =>
    rcases o0.mp (show c∈x++32::gl 32 (y::r)from b)with b|b
    .exact h x (.head _) c b
    .rcases t9.mp b with rfl|b
     .decide
     .exact j (λa e=>h a (.tail _ e)) c b
 refine key _ λa e c b=>?_
 obtain⟨s,f,rfl⟩:=g9.mp e
 rcases t9.mp f with rfl|f
 .have:=hw.asc c b
  omega
 .obtain⟨n,d,rfl⟩:=g9.mp f
  have:=(Wr (g.rng n d).1 (g.rng n d).2).1 c b
  omega
def Bb {s:Str}{a:zF}{B:Nat}(b:∀ y∈a,↥y<=B)(h:↥a*B+↥a*↥s<=16777216):JoinOk s a=true:=by
 unfold JoinOk
 rw[StrLaws.joinFits b h]
 rfl
def Ql {w:Str} {ns:zr} (hw:Wc w) (a:vD ns):Xf (.str (Q0b " ")) (.lst ((w::ns.map nS).map .str))≈(.str (vN w ns)):=by
 show(Xh ((w::ns.map nS).map .str)).bind _=_
 rw[Y3,q7,t5 (Bb (QR hw a) ?_)]
 .rfl
 .have c:(w::ns.map nS).length<=9:=by rw[g5,u5];have:=a.few;omega
  have b:(Q0b " ").length=1:=by decide
  rw[b]
  omega
def Ff:Wc (Q0b "web"):=⟨by decide,by decide⟩
def Fg:Wc (Q0b "tie"):=⟨by decide,by decide⟩
def Ac:Wc (Q0b "heap"):=⟨by decide,by decide⟩
def ZO {n:Int}(h0:0<=n)(a:n<=300):wk [.int n]≈(.str (nS n)):=by
 show(if 0<=n/\n<1000000 then _ else _)=_
 rw[t5 ⟨h0,by omega⟩]
 rfl
def Bd {ns:zr}{i:yL}(b:i ρ≈(ns.map .int))(a:vD ns):aL i b1 yN (aF wk (za (zc 0) zh)) ρ≈((ns.map nS).map .str):=by
 unfold aL
 rw[b,q7,t5 (yV (by rw[u5];have:=a.few;omega)),l4]
 refine wM D.int (D.str∘nS) ns λn h=>⟨[some (.int n)],rfl,rfl,?_⟩
 exact YM (ds:=[.int n]) rfl (ZO (a.rng n h).1 (a.rng n h).2)
def Gj {a:xD}{f:zW}{g:yL}(e:f ρ≈c)(b:g ρ≈[d])(h:a c d=z):ZV a f g ρ=z:=by
 unfold ZV
 rw[e,q7,b]
 exact h
abbrev Z0 :=yf (ZV Xf (eC (.str " ")) (za (zg yh (xm (yX (za (zc 0) zh))) (xm (aL (bc (zc 1)) b1 yN (aF wk (za (zc 0) zh))))) zh))
def xa:=aK 2 Z0
def XR {w:Str}{ns:zr}(hw:Wc w)(a:vD ns)(c:wW d≈(ns.map .int)):xa [.str w,d]≈(.str (vN w ns)):=by
 refine w4 (ρ:=[.v (.str w),.v d]) rfl ?_
 unfold Z0
 refine wz (d:=.str (vN w ns)) (ye ?_) rfl
 have b:zg yh (xm (yX (za (zc 0) zh))) (xm (aL (bc (zc 1)) b1 yN (aF wk (za (zc 0) zh)))) (visG [.v (.str w),.v d])≈(.lst ((w::ns.map nS).map .str)):=by
  refine zH (x:=.lst [.str w]) (y:=.lst ((ns.map nS).map .str)) rfl (vc (Bd (Fy (d:=d) rfl c) a)) ?_
  rw[vz (by rw[u5,u5];have:=a.few;show 1+_<=1000;omega)]
  rfl
 unfold ZV
 rw[zt b zR]
 exact Ql hw a
def zge:T.Pr 35 1 2 xa:=by
 letI:KK:=⟨K,ad.dk⟩
 refine Zh (N:=(Rw 35).N) (ps:=(Rw 35).ps) (T.d 35).fn (sc 35) (g:=Z0) λc A outer s H E d=>?_
 unfold Z0
 exact(zv (z4 (Xw (zJ zI) (zb (yr (vp (Yr (zb (ak 0) ze))) (vp (Yt (L:=["number"]) (M:=["word","numbers"]) rfl (wy (by rfl) (by rfl) (by rfl) (by with_unfolding_all rfl) (by rfl) (by rfl) (by kernel_rfl) yI) (xY (ak 1)) dI dF (λ_ _ _ _=>(zT (i:=0) zpq rfl (Q0n rfl) (.inr rfl))) (λ_ _ _ _=>(zB zp zX rfl (T.z "str" ⋯) yb (zb (ak 0) ze)))))) ze) (λa b=>Z5 ju nD nC Xz a b))))
def wY (m:Int) (a:zy) (h:zr):zF:=vN (Q0b "web") [m]::(a.map λt=>vN (Q0b "tie") [t.1,t.2])++[vN (Q0b "heap") h]
def jq (m:Int) (a:zy) (h:zr):Str:=Txt.join (Q0b "\n") (wY m a h)
structure wC (m:Int) (ts:zy) (h:zr):Prop where
 ok:yd m ts
 few:↥ts<=28
 len:(↥h:Int)=m
 nn:∀ x∈h,0<=x
 sum:h.sum<=300
section
variable {m:Int}{ts:zy}{h:zr}(A:wC m ts h)
include A
theorem wC.nW:vD [m]:=⟨by show 1<=8;decide,λn a=>by rw[t7.mp a];have:=A.ok.lo;have:=A.ok.hi;omega⟩
theorem wC.nT {t:aY}(b:t∈ts):vD [t.1,t.2]:=⟨by show 2<=8;decide,λn a=>by
 have r:=A.ok.rng t b
 have:=A.ok.hi
 rcases t9.mp a with rfl|a
 .omega
 .rw[t7.mp a];omega⟩
theorem wC.nH:vD h:=⟨by have:=A.len;have:=A.ok.hi;omega,λn d=>⟨A.nn n d,by
 have f:=A.sum
 have key:∀ l:zr,(∀ x∈l,0<=x)->n∈l->n<=l.sum:=λl=>by
  induction l with
  |nil=>intro _ z;cases z
  |cons a l e =>
   intro b z
   rw[nj]
   have h0:=b a (.head _)
   have g:0<=l.sum:=pZ λx c=>b x (.tail _ c)
   rcases t9.mp z with rfl|z
   .omega
   .have:=e (λx c=>b x (.tail _ c)) z;omega
 have:=key h A.nn d
 omega⟩⟩
theorem wC.rows:∀ r∈wY m ts h,↥r<=45/\∀ c∈r.cps.toList,32<=c/\c<=122:=λr a=>by
 unfold wY at a
 rcases o0.mp a with a|a
 .rcases t9.mp a with rfl|a
  .exact⟨HF Ff A.nW,XC Ff A.nW⟩
  .obtain⟨t,b,rfl⟩:=g9.mp a
   exact⟨HF Fg (A.nT b),XC Fg (A.nT b)⟩
 .rw[t7.mp a]
  exact⟨HF Ac A.nH,XC Ac A.nH⟩
theorem wC.count:(wY m ts h).length=↥ts+2/\(wY m ts h).length<=30:=by
 have e:(wY m ts h).length=↥ts+2:=by
  unfold wY
  rw[j9,g5,u5]
  rfl
 have:=A.few
 exact⟨e,by omega⟩
theorem wC.split:Txt.split (jq m ts h) (Q0b "\n")=wY m ts h:=by
 unfold jq
 rw[Gs]
 refine zf1 (λz=>?_) λr a z=>?_
 .have:=A.count.1
  rw[z]at this
  cases this
 .have:=(A.rows r a).2 _ z
  omega
theorem wC.short:(jq m ts h).length<=1500:=by
 have d:jq m ts h=Q1g (Q0b "\n") (wY m ts h):=jZ _ _
 have a:=Q1S (Q0b "\n") (wY m ts h)
 have e:=StrLaws.sumLen_le (wY m ts h) λr b=>(A.rows r b).1
 have f:=A.count.2
 have c:(Q0b "\n").length=1:=by decide
 rw[d]
 rw[c]at a
 omega
theorem wC.join:Xf (.str (Q0b "\n")) (.lst ((wY m ts h).map .str))≈(.str (jq m ts h)):=by
 show(Xh ((wY m ts h).map .str)).bind _=_
 rw[Y3,q7,t5 (Bb (λr b=>(A.rows r b).1) ?_)]
 .rfl
 .have c:=A.count.2
  have a:(Q0b "\n").length=1:=by decide
  rw[a]
  omega
end
abbrev Bj :=zG (Zv (zi 1 zK (za (zc 0) zh)))
  (zG (Zv (zi 2 z3 (za (zc 0) (za (zc 1) zh))))
  (zG (xn false 2 (xm (aL (bc (zg aB (zc 0) (eC (.int 1)))) b1 yN (zi 2 xa (za (eC (.str "tie")) (za (zc 0) zh))))))
  (yf (ZV Xf (eC (.str "\n")) (za (zg yh (zg yh (xm (yX (za (zi 2 xa (za (eC (.str "web")) (za (xm (yX (za (zg aB (zc 0) (eC (.int 0))) zh))) zh))) zh))) (zc 2)) (xm (yX (za (zi 2 xa (za (eC (.str "heap")) (za (zc 1) zh))) zh)))) zh)))))
def Gn:=aK 3 Bj
def zlk {m:Int} {a:zy}:[D.str (vN (Q0b "web") [m])]++(a.map λt=>D.str (vN (Q0b "tie") [t.1,t.2]))++[D.str (vN (Q0b "heap") h)]=(wY m a h).map .str:=by
 unfold wY
 rw[r8,n0,l4]
 rfl
def zjW (ok:yd m a):zK [aa m a]≈.non:=by
 have hw:xM (aa m a)=true:=(yu _).mpr ⟨_,_,rfl,ok⟩
 simp[zK,hw]
def zhH {h:zr}(A:wC m a h):z3 [aa m a,.tup (h.map .int)]≈.non:=by
 show(if (bu (.tup (h.map .int))&&decide (m<=1000)&&xC m (.tup (h.map .int))) then some D.non else none)=_
 rw[WS,ZU A.ok,Zb A.len A.nn A.sum]
 rfl
def zkT {h:zr}(A:wC m a h):Gn [aa m a,.tup (h.map .int)]≈(.str (jq m a h)):=by
 have l:=A.few
 refine w4 (ρ:=[.v (aa m a),.v (.tup (h.map .int)),.no]) rfl ?_
 unfold Bj
 refine zu (yp (d:=.non) (zjW A.ok)) ?_
 refine zu (yp (d:=.non) (zhH A)) ?_
 refine zu (ρ':=[.v (aa m a),.v (.tup (h.map .int)),.v (.lst (a.map λt=>.str (vN (Q0b "tie") [t.1,t.2])))]) (vK (vc ?_)) ?_
 .unfold aL
  rw[Fy (d:=.tup (a.map zd)) rfl rfl,q7,t5 (yV (by rw[u5];omega))]
  refine wM zd _ a λt j=>⟨[some (zd t)],rfl,rfl,?_⟩
  exact zx (ds:=[.str (Q0b "tie"),zd t]) rfl (XR Fg (A.nT j) rfl)
 refine wz (d:=.str (jq m a h)) (ye ?_) rfl
 have k:zg yh (zg yh (xm (yX (za (zi 2 xa (za (eC (.str "web")) (za (xm (yX (za (zg aB (zc 0) (eC (.int 0))) zh))) zh))) zh))) (zc 2)) (xm (yX (za (zi 2 xa (za (eC (.str "heap")) (za (zc 1) zh))) zh))) (visG [.v (aa m a),.v (.tup (h.map .int)),.v (.lst (a.map λt=>.str (vN (Q0b "tie") [t.1,t.2])))])≈(.lst ((wY m a h).map .str)):=by
  have e:zi 2 xa (za (eC (.str "web")) (za (xm (yX (za (zg aB (zc 0) (eC (.int 0))) zh))) zh)) (visG [.v (aa m a),.v (.tup (h.map .int)),.v (.lst (a.map λt=>.str (vN (Q0b "tie") [t.1,t.2])))])≈(.str (vN (Q0b "web") [m])):=by
   refine zx (ds:=[.str (Q0b "web"),.lst [.int m]]) rfl ?_
   exact XR Ff A.nW rfl
  have f:zi 2 xa (za (eC (.str "heap")) (za (zc 1) zh)) (visG [.v (aa m a),.v (.tup (h.map .int)),.v (.lst (a.map λt=>.str (vN (Q0b "tie") [t.1,t.2])))])≈(.str (vN (Q0b "heap") h)):=by
   refine zx (ds:=[.str (Q0b "heap"),.tup (h.map .int)]) rfl ?_
   exact XR Ac A.nH rfl
  generalize g:visG [.v (aa m a),.v (.tup (h.map .int)),.v (.lst (a.map λt=>.str (vN (Q0b "tie") [t.1,t.2])))]=E0 at e f
  have i:zc 2 E0≈(.lst (a.map λt=>.str (vN (Q0b "tie") [t.1,t.2]))):=by rw[<-g];rfl
  have c:xm (yX (za (zi 2 xa (za (eC (.str "web")) (za (xm (yX (za (zg aB (zc 0) (eC (.int 0))) zh))) zh))) zh)) E0≈(.lst [.str (vN (Q0b "web") [m])]):=vc (VF (zt e zR) (by show 1<=1000;decide))
  have b:xm (yX (za (zi 2 xa (za (eC (.str "heap")) (za (zc 1) zh))) zh)) E0≈(.lst [.str (vN (Q0b "heap") h)]):=vc (VF (zt f zR) (by show 1<=1000;decide))
  refine zH (zH c i (vz (by rw[u5];show 1+_<=1000;omega))) b ?_
  rw[vz (by rw[j9,u5];show 1+_+1<=1000;omega),zlk]
 unfold ZV
 rw[zt k zR]
 exact A.join
def zg5 (T:Txt P w K mg base ad):gW P w K mg base aV 8 (ad.f 36) (ad.e 36) (Rw 36).ps (@cH ⟨K,ad.dk⟩ 2 Gn):=by
 letI:KK:=⟨K,ad.dk⟩
 have G_must_be_web:=yB T
 have G_must_be_heap:=xN T
 have G_written:=zge T
 refine zod (N:=["web","heap","ties"]) (x0:="web") (pr:=["heap"]) (T.d 36).fn (sc 36) (by decide +kernel) (g:=Bj) λd A outer s H E c=>?_
 unfold Bj
 exact(zk (XF (zq G_must_be_web c rfl (T.d 10) (zb (ak 0) ze)))
  (zk (XF (zq G_must_be_heap c rfl (T.d 20) (zb (ak 0) (zb (ak 1) ze))))
  (zk (O8 (m:=false) (i:=2) (NT (L:=["tie"]) (M:=["web","heap","ties"]) (sc 36).nd rfl (Q0n rfl) rfl (wy (by rfl) (by rfl) (by rfl) (by with_unfolding_all rfl) (by rfl) (by rfl) (by kernel_rfl) yI) (xY (xl (ak 0) (zz zE) (λ_ _=>rfl))) dI dF (λ_ _ _ _=>(zT (i:=0) zqO rfl (Q0n rfl) (.inr rfl))) (λ_ _ _ _=>(zq G_written c rfl (T.d 35) (zb (zJ zI) (zb (ak 0) ze))))))
  (zv (z4 (Xw (zJ zI) (zb (yr (yr (vp (Yr (zb (zq G_written c rfl (T.d 35) (zb (zJ zI) (zb (vp (Yr (zb (xl (ak 0) (zz zE) (λ_ _=>rfl)) ze))) ze))) ze))) (ak 2)) (vp (Yr (zb (zq G_written c rfl (T.d 35) (zb (zJ zI) (zb (ak 1) ze))) ze)))) ze) (λa b=>Z5 ju nD nC Xz a b)))))))
abbrev wD :=zG (aH (dg (xF (aq (pY jB jB (eC (.int 1)) (aF uE (za (zc 0) zh)) (eC (.int 3))))) (xF (aq (aF lN (za (xm (aL (SM (zc 0)) b1 yN (zg Ef (zc 0) (eC (.str "0123456789"))))) zh))))) (yf (eC .non)) zL)
  (zG (aH (ZC (aq (zg dH (aF uE (za (zc 0) zh)) (eC (.int 1)))) (aq (zg wB (zg tR (zc 0) (eC (.int 0))) (eC (.str "0"))))) (yf (eC .non)) zL)
  (yf (aF Eu (za (zc 0) zh))))
def Yq:=aK 1 wD
def XL:T.Pr 37 1 1 Yq:=by
 letI:KK:=⟨K,ad.dk⟩
 refine Zh (N:=(Rw 37).N) (ps:=(Rw 37).ps) (T.d 37).fn (sc 37) (g:=wD) λe A outer s H E d=>?_
 unfold wD
 exact(zk (xq (oK (uM (mH (zk6 VZ VZ yG yG (zz zE) (yF Wk Qv rfl (T.z "len" ⋯) XZ (zb (ak 0) ze)) (zz (yD (v:=.int 3) rfl T.g_MOST_FIGURES ⟨_,rfl⟩)) (λa b c=>zkk VZ VZ a b c))) (Ae (mH (mD (yF (Q8 rfl) Nr rfl (T.z "all" ⋯) Mt (zb (vp (Yt (L:=["sign"]) (M:=["word"]) rfl (wy (by rfl) (by rfl) (by rfl) (by with_unfolding_all rfl) (by rfl) (by rfl) (by kernel_rfl) yI) (U8 (ak 0)) dI dF (λ_ _ _ _=>(zT (i:=0) zqS rfl (Q0n rfl) (.inr rfl))) (λ_ _ _ _=>(Vr zie zno (by with_unfolding_all rfl) (ak 0) (zJ zI))))) ze))))))) (zv (z4 (Wo Wh))) zY)
  (zk (xq (oK (Mm (zQ lX yG (z5 _) (yF Wk Qv rfl (T.z "len" ⋯) XZ (zb (ak 0) ze)) (zz zE)) (Oc (zQ (xK d) yK (z5 _) (zrG (ak 0) (zz zE) (λ_ _=>rfl)) (zJ zI))))) (zv (z4 (Wo Wh))) zY)
  (zv (z4 (zB zcV zkX rfl (T.z "int" ⋯) Ga (zb (ak 0) ze))))))
abbrev WR :=yf (sW (aq (zg dH (aF Xr (za (zc 0) zh)) (eC (.int 0)))) (ZV Xf (eC (.str " ")) (za (zc 0) zh)) (eC (.str "none")))
def v6:=aK 1 WR
def W3:T.Pr 43 1 1 v6:=by
 letI:KK:=⟨K,ad.dk⟩
 refine Zh (N:=(Rw 43).N) (ps:=(Rw 43).ps) (T.d 43).fn (sc 43) (g:=WR) λc A outer s H E d=>?_
 unfold WR
 exact(zv (z4 (Er (zQ lX yG (z5 _) (yF ww Vw rfl (T.z "len" ⋯) XZ (zb (ak 0) ze)) (zz zE)) (Xw (zJ zI) (zb (ak 0) ze) (λa b=>Z5 ju nD nC Xz a b)) (zJ zI))))
abbrev Qd :=yf (zi 1 v6 (za (xm (aL (bc (zc 0)) b1 yN (zg yh (zg yh (aF wk (za (zg aB (zc 0) (eC (.int 0))) zh)) (zc 2)) (aF wk (za (zg aB (zc 0) (eC (.int 1))) zh))))) zh))
def Y0:=aK 2 Qd
def Q0:T.Pr 44 2 2 Y0:=by
 have:=W3 T
 walk_at "q"
abbrev Ho :=zG (aH (xF (aq (aZ (wZ .str) (zc 0)))) bV zL)
  (zG (xn false 1 (xm (Ko Gd (zc 0) (za (eC (.str " ")) zh))))
  (zG (xn false 2 (xm (aL (bc (eY gf (zc 1) (XM (eC (.int 1))) VU)) b1 yN (zi 1 Yq (za (zc 0) zh)))))
  (zG (xn false 3 (Ei (Ay Q4) (za (zg aB (zc 1) (eC (.int 0))) (za (Ei (Ay zV) (za (zg aB (zc 1) (eC (.int 0))) (za (aZ sy (eC (.int 1))) zh))) zh))))
  (zG (aH (dg (aq (zg lg (eC .non) (zc 2))) (aq (zg bW (aF Xr (za (zc 2) zh)) (zc 3)))) bV zL)
  (yf (X8 (za (zg aB (zc 1) (eC (.int 0))) (za (zc 2) zh))))))))
def xU:=aK 4 Ho
def Va:T.Pr 38 2 1 xU:=by
 letI:KK:=⟨K,ad.dk⟩
 have G_number_written:=XL T
 refine Zh (N:=(Rw 38).N) (ps:=(Rw 38).ps) (T.d 38).fn (sc 38) (g:=Ho) λd A outer s H E c=>?_
 unfold Ho
 exact(zk (xq (mH (mD (Q9 .str rfl (T.z "isinstance" ⋯) (ak 0) (ZP (v:=.ty "str") rfl (T.z "str" ⋯) yb rfl)))) (zv Hj) zY)
  (zk (yJ (m:=false) (i:=1) (sc 38).nd rfl (Q0n rfl) (vp (zj8 (ak 0) (zb (zJ zI) ze) (λa b=>Z5 ju PySem.F.slot_str_split PySem.F.type_str_split zjR a b))))
  (zk (O8 (m:=false) (i:=2) (NT (L:=["part"]) (M:=["row","words","numbers","wanted"]) (sc 38).nd rfl (Q0n rfl) rfl (wy (by rfl) (by rfl) (by rfl) (by with_unfolding_all rfl) (by rfl) (by rfl) (by kernel_rfl) yI) (xY (Hi (ak 1) (Hd (zz zE)) GJ)) dI dF (λ_ _ _ _=>(zT (i:=0) zqo rfl (Q0n rfl) (.inr rfl))) (λ_ _ _ _=>(zq G_number_written c rfl (T.d 37) (zb (ak 0) ze)))))
  (zk (yJ (m:=false) (i:=3) (sc 38).nd rfl (Q0n rfl) (R5 T.b_DEEDS (zb (xl (ak 1) (zz zE) (λ_ _=>rfl)) (zb (R5 T.b_QUESTIONS (zb (xl (ak 1) (zz zE) (λ_ _=>rfl)) (zb (zpJ (zz zE)) ze)) (λa=>PJ T.b_QUESTIONS rfl T.g_QUESTIONS a)) ze)) (λa=>PJ T.b_DEEDS rfl T.g_DEEDS a)))
  (zk (xq (oK (uM (zQ (Nh c) Nb (by with_unfolding_all rfl) (Wo Wh) (ak 2)) (Ae (zQ VJ Zr (z5 _) (yF ww Vw rfl (T.z "len" ⋯) XZ (zb (ak 2) ze)) (ak 3))))) (zv Hj) zY)
  (zv (z4 (Vb (zb (xl (ak 1) (zz zE) (λ_ _=>rfl)) (zb (ak 2) ze))))))))))
abbrev zpS :=yf (X8 (za (zc 0) (za (zg uK (X8 (za (eC (.int 0)) zh)) (zg aB (zc 0) (eC (.int 0)))) zh)))
def Mi:=aK 1 zpS
def znU:T.Pr 39 1 1 Mi:=by
 walk_at "q"
abbrev Ln :=zG (Zv (zi 2 zS (za (zc 0) (za (zc 1) zh))))
  (zG (Zv (zi 2 zS (za (zc 0) (za (zc 2) zh))))
  (yf (zi 2 Z8 (za (zg aB (zc 0) (eC (.int 0))) (za (zg yh (xm (gK lY (za (zg aB (zc 0) (eC (.int 1))) zh))) (xm (yX (za (X8 (za (zc 1) (za (zc 2) zh))) zh)))) zh)))))
def FW:=aK 3 Ln
def zoK:T.Pr 40 6 3 FW:=by
 have:=yW T
 have:=QV T
 walk_at "p"
abbrev J6 :=zG (Zv (zi 2 zS (za (zc 0) (za (zc 2) zh))))
  (zG (xn false 4 (zg yh (zg yh (eY gf (zc 1) VU (XM (zc 2))) (X8 (za (zg yh (zg aB (zc 1) (zc 2)) (zc 3)) zh))) (eY gf (zc 1) (XM (zg yh (zc 2) (eC (.int 1)))) VU)))
  (zG (aH (xF (aq (zi 2 xc (za (zc 0) (za (zc 4) zh))))) bV zL)
  (yf (zc 4))))
def Es:=aK 5 J6
def zqP:T.Pr 41 5 4 Es:=by
 have:=yW T
 have:=ZT T
 walk_at "p"
abbrev G7 :=zG (aH (aq (zg wB (zc 2) (eC (.str "web")))) (yf (zi 1 Mi (za (zi 2 Z8 (za (zg aB (zc 3) (eC (.int 0))) (za (xm (yX zh)) zh))) zh))) zL)
  (zG (aH (aq (zg wB (zc 2) (eC (.str "tie")))) (yf (X8 (za (zi 3 FW (za (zc 0) (za (zg aB (zc 3) (eC (.int 0))) (za (zg aB (zc 3) (eC (.int 1))) zh)))) (za (zc 1) zh)))) zL)
  (zG (aH (aq (zg wB (zc 2) (eC (.str "cut")))) bV zL)
  (zG (aH (aq (zg wB (zc 2) (eC (.str "put")))) (yf (X8 (za (zc 0) (za (zi 4 Es (za (zc 0) (za (zc 1) (za (zg aB (zc 3) (eC (.int 0))) (za (zg aB (zc 3) (eC (.int 1))) zh))))) zh)))) zL)
  (zG (aH (aq (zg wB (zc 2) (eC (.str "step")))) bV zL)
  bV))))
def ZB:=aK 4 G7
def zkB:T.Pr 42 7 4 ZB:=by
 have:=QV T
 have:=znU T
 have:=zoK T
 have:=zqP T
 walk_at "p"
abbrev xS :=zG (aH (aq (zg wB (zc 2) (eC (.str "heap")))) (yf (zi 1 v6 (za (xm (aL (bc (zc 1)) b1 yN (aF wk (za (zc 0) zh)))) zh))) zL)
  (zG (aH (aq (zg wB (zc 2) (eC (.str "ties")))) (yf (zi 2 Y0 (za (zg aB (zc 0) (eC (.int 1))) (za (eC (.str "-")) zh)))) zL)
  (zG (aH (aq (zg wB (zc 2) (eC (.str "steps")))) (yf (zi 2 Y0 (za (zi 2 xh (za (zc 0) (za (zc 1) zh))) (za (eC (.str ">")) zh)))) zL)
  (zG (aH (aq (zg wB (zc 2) (eC (.str "far")))) (zG (xn false 4 (zi 3 pD (za (zc 0) (za (zg aB (zc 3) (eC (.int 0))) (za (zg aB (zc 3) (eC (.int 1))) zh)))))
  (yf (sW (aq (zg gP (zc 4) (eC .non))) (eC (.str "none")) (aF wk (za (zc 4) zh))))) zL)
  (zG (aH (aq (zg wB (zc 2) (eC (.str "most")))) (yf (aF wk (za (zi 3 vT (za (zc 0) (za (zc 1) (za (zg aB (zc 3) (eC (.int 0))) zh)))) zh))) zL)
  (zG (aH (aq (zg wB (zc 2) (eC (.str "reached")))) (yf (zi 1 v6 (za (xm (aL (bc (zi 2 wq (za (zc 0) (za (zc 1) zh)))) b1 yN (aF wk (za (zc 0) zh)))) zh))) zL)
  (zG (aH (aq (zg wB (zc 2) (eC (.str "need")))) (yf (aF wk (za (zi 3 qb (za (zc 0) (za (zg aB (zc 3) (eC (.int 0))) (za (eC (.int 1)) zh)))) zh))) zL)
  (yf (El 2 Gn (za (zc 0) (za (zc 1) zh)) "\n" " ; "))))))))
def xu:=aK 5 xS
def zjs:T.Pr 45 13 4 xu:=by
 letI:KK:=⟨K,ad.dk⟩
 have G_far:=Gb T
 have G_steps_from:=Yg T
 have G_most_at:=Xx T
 have G_reached:=XI T
 have G_need:=O2 T
 have TK_shown:=zg5 T
 have G_listed:=W3 T
 have G_paired:=Q0 T
 refine Zh (N:=(Rw 45).N) (ps:=(Rw 45).ps) (T.d 45).fn (sc 45) (g:=xS) λc A outer s H E b=>?_
 unfold xS
 exact(zk (xq (zQ (xK b) yK (z5 _) (ak 2) (zJ zI)) (zv (z4 (zq G_listed b rfl (T.d 43) (zb (vp (Yt (L:=["stones"]) (M:=["web","heap","word","numbers","told"]) rfl (wy (by rfl) (by rfl) (by rfl) (by with_unfolding_all rfl) (by rfl) (by rfl) (by kernel_rfl) yI) (xY (ak 1)) dI dF (λ_ _ _ _=>(zT (i:=0) Nj rfl (Q0n rfl) (.inr rfl))) (λ_ _ _ _=>(zB zp zX rfl (T.z "str" ⋯) yb (zb (ak 0) ze))))) ze)))) zY)
  (zk (xq (zQ (xK b) yK (z5 _) (ak 2) (zJ zI)) (zv (z4 (zq G_paired b rfl (T.d 44) (zb (xl (ak 0) (zz zE) (λ_ _=>rfl)) (zb (zJ zI) ze))))) zY)
  (zk (xq (zQ (xK b) yK (z5 _) (ak 2) (zJ zI)) (zv (z4 (zq G_paired b rfl (T.d 44) (zb (zq G_steps_from b rfl (T.d 22) (zb (ak 0) (zb (ak 1) ze))) (zb (zJ zI) ze))))) zY)
  (zk (xq (zQ (xK b) yK (z5 _) (ak 2) (zJ zI)) (zk (yJ (m:=false) (i:=4) (sc 45).nd rfl (Q0n rfl) (zq G_far b rfl (T.d 16) (zb (ak 0) (zb (xl (ak 3) (zz zE) (λ_ _=>rfl)) (zb (xl (ak 3) (zz zE) (λ_ _=>rfl)) ze)))))
  (zv (z4 (Er (zQ uZ Bm (z5 _) (ak 4) (Wo Wh)) (zJ zI) (zB zp zX rfl (T.z "str" ⋯) yb (zb (ak 4) ze)))))) zY)
  (zk (xq (zQ (xK b) yK (z5 _) (ak 2) (zJ zI)) (zv (z4 (zB zp zX rfl (T.z "str" ⋯) yb (zb (zq G_most_at b rfl (T.d 25) (zb (ak 0) (zb (ak 1) (zb (xl (ak 3) (zz zE) (λ_ _=>rfl)) ze)))) ze)))) zY)
  (zk (xq (zQ (xK b) yK (z5 _) (ak 2) (zJ zI)) (zv (z4 (zq G_listed b rfl (T.d 43) (zb (vp (Yt (L:=["place"]) (M:=["web","heap","word","numbers","told"]) rfl (wy (by rfl) (by rfl) (by rfl) (by with_unfolding_all rfl) (by rfl) (by rfl) (by kernel_rfl) yI) (xY (zq G_reached b rfl (T.d 26) (zb (ak 0) (zb (ak 1) ze)))) dI dF (λ_ _ _ _=>(zT (i:=0) Li rfl (Q0n rfl) (.inr rfl))) (λ_ _ _ _=>(zB zp zX rfl (T.z "str" ⋯) yb (zb (ak 0) ze))))) ze)))) zY)
  (zk (xq (zQ (xK b) yK (z5 _) (ak 2) (zJ zI)) (zv (z4 (zB zp zX rfl (T.z "str" ⋯) yb (zb (zq G_need b rfl (T.d 34) (zb (ak 0) (zb (xl (ak 3) (zz zE) (λ_ _=>rfl)) (zb (zz zE) ze)))) ze)))) zY)
  (zv (z4 (znR (TK_shown.mono ⋯) b rfl (T.d 36).at_ (T.d 36).kp (T.d 36).bd (zb (ak 0) (zb (ak 1) ze)) (λa=>znl (TK_shown.mono ⋯) b rfl (T.d 36).at_ (T.d 36).kp (T.d 36).bd pI a ⋯ ⋯)))))))))))
abbrev YR :=dO di (aH (aq (zg wB (zc 2) (eC (.str "heap")))) (yf (zi 1 v6 (za (xm (aL (bc (zc 1)) b1 yN (aF wk (za (zc 0) zh)))) zh))) zL)
  (dO di (aH (aq (zg wB (zc 2) (eC (.str "ties")))) (yf (zi 2 Y0 (za (zg aB (zc 0) (eC (.int 1))) (za (eC (.str "-")) zh)))) zL)
  (dO di (aH (aq (zg wB (zc 2) (eC (.str "steps")))) (yf (zi 2 Y0 (za (zi 2 xh (za (zc 0) (za (zc 1) zh))) (za (eC (.str ">")) zh)))) zL)
  (dO di (aH (aq (zg wB (zc 2) (eC (.str "far")))) (zG (xn false 4 (zi 3 pD (za (zc 0) (za (zg aB (zc 3) (eC (.int 0))) (za (zg aB (zc 3) (eC (.int 1))) zh)))))
  (yf (sW (aq (zg gP (zc 4) (eC .non))) (eC (.str "none")) (aF wk (za (zc 4) zh))))) zL)
  (dO di (aH (aq (zg wB (zc 2) (eC (.str "most")))) (yf (aF wk (za (zi 3 vT (za (zc 0) (za (zc 1) (za (zg aB (zc 3) (eC (.int 0))) zh)))) zh))) zL)
  (dO di (aH (aq (zg wB (zc 2) (eC (.str "reached")))) (yf (zi 1 v6 (za (xm (aL (bc (zi 2 wq (za (zc 0) (za (zc 1) zh)))) b1 yN (aF wk (za (zc 0) zh)))) zh))) zL)
  (jW (aq (zg wB (zc 2) (eC (.str "need")))) (iG (jn 3 YW (za (zc 0) (za (zg aB (zc 3) (eC (.int 0))) (za (eC (.int 1)) zh))))) di))))))
def Xk:=lq 5 YR
def zfH:T.Px 45 13 4 Xk:=by
 letI:KK:=⟨K,ad.dk⟩
 have G_far:=Gb T
 have G_steps_from:=Yg T
 have G_most_at:=Xx T
 have G_reached:=XI T
 have X_need:=Qc T
 have G_listed:=W3 T
 have G_paired:=Q0 T
 refine qd (cl:=cR ad) (N:=(Rw 45).N) (ps:=(Rw 45).ps) (T.d 45).fn (sc 45) (gx:=YR) λb A outer s H E a=>?_
 unfold YR
 exact(wX wT (SD.nox (xq (zQ (xK a) yK (z5 _) (ak 2) (zJ zI)) (zv (z4 (zq G_listed a rfl (T.d 43) (zb (vp (Yt (L:=["stones"]) (M:=["web","heap","word","numbers","told"]) rfl (wy (by rfl) (by rfl) (by rfl) (by with_unfolding_all rfl) (by rfl) (by rfl) (by kernel_rfl) yI) (xY (ak 1)) dI dF (λ_ _ _ _=>(zT (i:=0) Nj rfl (Q0n rfl) (.inr rfl))) (λ_ _ _ _=>(zB zp zX rfl (T.z "str" ⋯) yb (zb (ak 0) ze))))) ze)))) zY))
  (wX wT (SD.nox (xq (zQ (xK a) yK (z5 _) (ak 2) (zJ zI)) (zv (z4 (zq G_paired a rfl (T.d 44) (zb (xl (ak 0) (zz zE) (λ_ _=>rfl)) (zb (zJ zI) ze))))) zY))
  (wX wT (SD.nox (xq (zQ (xK a) yK (z5 _) (ak 2) (zJ zI)) (zv (z4 (zq G_paired a rfl (T.d 44) (zb (zq G_steps_from a rfl (T.d 22) (zb (ak 0) (zb (ak 1) ze))) (zb (zJ zI) ze))))) zY))
  (wX wT (SD.nox (xq (zQ (xK a) yK (z5 _) (ak 2) (zJ zI)) (zk (yJ (m:=false) (i:=4) (sc 45).nd rfl (Q0n rfl) (zq G_far a rfl (T.d 16) (zb (ak 0) (zb (xl (ak 3) (zz zE) (λ_ _=>rfl)) (zb (xl (ak 3) (zz zE) (λ_ _=>rfl)) ze)))))
  (zv (z4 (Er (zQ uZ Bm (z5 _) (ak 4) (Wo Wh)) (zJ zI) (zB zp zX rfl (T.z "str" ⋯) yb (zb (ak 4) ze)))))) zY))
  (wX wT (SD.nox (xq (zQ (xK a) yK (z5 _) (ak 2) (zJ zI)) (zv (z4 (zB zp zX rfl (T.z "str" ⋯) yb (zb (zq G_most_at a rfl (T.d 25) (zb (ak 0) (zb (ak 1) (zb (xl (ak 3) (zz zE) (λ_ _=>rfl)) ze)))) ze)))) zY))
  (wX wT (SD.nox (xq (zQ (xK a) yK (z5 _) (ak 2) (zJ zI)) (zv (z4 (zq G_listed a rfl (T.d 43) (zb (vp (Yt (L:=["place"]) (M:=["web","heap","word","numbers","told"]) rfl (wy (by rfl) (by rfl) (by rfl) (by with_unfolding_all rfl) (by rfl) (by rfl) (by kernel_rfl) yI) (xY (zq G_reached a rfl (T.d 26) (zb (ak 0) (zb (ak 1) ze)))) dI dF (λ_ _ _ _=>(zT (i:=0) Li rfl (Q0n rfl) (.inr rfl))) (λ_ _ _ _=>(zB zp zX rfl (T.z "str" ⋯) yb (zb (ak 0) ze))))) ze)))) zY))
  (YG (Ez (zQ (xK a) yK (z5 _) (ak 2) (zJ zI)) (Zx (FT (K6 rfl (T.z "str" ⋯) yb (Gv (Vo (X_need.mono ⋯) Y5 a rfl (T.d 34).at_ (T.d 34).kp (T.d 34).bd (zb (ak 0) (zb (xl (ak 3) (zz zE) (λ_ _=>rfl)) (zb (zz zE) ze)))))))) VD))))))))
def zlm (T:Txt P w K mg base ad):wt P w K mg base aV 1 ad.f_Desk___init__ ad.e_Desk___init__ ["self"] (@Dg ⟨K,ad.dk⟩):=by
 letI:KK:=⟨K,ad.dk⟩
 exact zqF T.mf_Desk___init__ WA T.dkc λa A outer s H E b=>TX (Vb (zb (zz zE) (zb (Vb ze) ze))) (Vb (zb (zz zE) ze)) (Yr ze) (pv 0) (pv 0) (pv 0) (λ_=>rfl) (λ_=>rfl) (λ_=>rfl)
def mz {g h:zM}(e:g ρ=.nx ρ'):zG g h ρ=h ρ':=by unfold zG;rw[e]
def vG {f:zW}(h:f (visG ρ)≈d)(a:bA d=true):bF true f ρ≈d:=by
 unfold bF
 rw[t5 rfl,h,q7,t5 a]
def zoh {f:zW}{ρ:SE}{i:Nat}{w:D}{a:zl}(c:f (visG ρ)≈d)(g:bA d=true)(e:ρ[i]?≈(.k w h ⟨z,a⟩))(j:↥a<1000)(b:ρ.set i (.k w h ⟨z,a++[d]⟩)=ρ':=by rfl):pJ i f ρ=.nx ρ':=by
 unfold pJ
 rw[vG c g,e]
 dsimp only
 rw[t5 (j3 (vm (i7 j))),b]
def Te {f:zW}{ρ:SE}{i:Nat}{w:D}(b:f (visG ρ)≈d)(c:bA d=true)(e:ρ[i]?≈(.k w h p))(a:ρ.set i (.k d h p)=ρ':=by rfl):rN i f ρ=.nx ρ':=by
 unfold rN
 rw[vG b c,e]
 exact bJ aP.nx a
def Tq {f:zW}{ρ:SE}{i:Nat}{w:D}(c:f (visG ρ)≈d)(g:bA d=true)(e:ρ[i]?≈(.k w h p))(b:ρ.set i (.k w d p)=a:=by rfl):rO i f ρ=.nx a:=by
 unfold rO
 rw[vG c g,e]
 exact bJ aP.nx b
def My {i n:Nat}{R:KF}{g w f:D}{ds:zl}{j:yL}{ρ:SE}(e:ρ[i]?≈(.k w h ⟨z,d⟩))(p:j (visG ρ)≈ds)(k:gU ds=true)(l:↥ds+1=n)(o:R w h d ds≈(b,f,a))(m:ρ.set i (.k b f ⟨z,a⟩)=c:=by rfl):gJ i n R g j ρ≈(g,c):=by
 unfold gJ
 rw[e]
 dsimp only
 rw[p,q7,t5 ⟨k,l⟩,o,<- m]
 rfl
def J7 {f:SE->Option (D × SE)}(h:f ρ≈(d,a)):iT f ρ=.nx a:=by unfold iT;rw[h]
def jk {t:vL}{g h:zM}(e:t (visG ρ)≈false):aH t g h ρ=h ρ:=by unfold aH;rw[e]
def zp8 {t:vL}{g:zM}(e:t (visG ρ)≈true):aH t g h ρ=g ρ:=by unfold aH;rw[e]
def OJ (d:bA a=true)(c:bA b=true):bA (.tup [a,b])=true:=by
 show(bA a&&(bA b&&true))=true
 rw[d,c]
 rfl
def xj:zM :=zG (pJ 0 (X8 (za (aZ oA (zc 0)) (za (aZ ou (zc 0)) zh))))
  (zG (rN 0 (zg aB (zc 1) (eC (.int 0))))
  (rO 0 (zg aB (zc 1) (eC (.int 1)))))
def xi:KF:=λw h a b=>match b with
 |[.tup [w',h']]=>if bA w=true/\bA h=true/\bA w'=true/\bA h'=true/\↥a<1000 then some (w',h',a++[.tup [w,h]])else none
 |_=>none
def Wv:∀ z w h ps f a b c,xi w h ps f≈(a,b,c)->lG 2 xj z w h ps f≈(a,b,⟨z,c⟩):=by
 intro z w h ps f a b c e
 unfold xi at e
 split at e
 .rename_i o p
  split at e <;> cases e
  rename_i k
  obtain⟨l,j,i,m,g⟩:=k
  have n:xj [.k w h ⟨z,ps⟩,.v (.tup [a,b])]=.nx [.k a b ⟨z,ps++[.tup [w,h]]⟩,.v (.tup [a,b])]:=by
   unfold xj
   rw[mz (zoh (ρ':=[.k w h ⟨z,ps++[.tup [w,h]]⟩,.v (.tup [a,b])]) (d:=.tup [w,h]) (mF (ds:=[w,h]) (zt (iB (x:=.obj w h ps) rfl rfl) (zt (iB (x:=.obj w h ps) rfl rfl) zR)) (by show 2<=1000;decide)) (OJ l j) rfl g)]
   rw[mz (Te (ρ':=[.k a h ⟨z,ps++[.tup [w,h]]⟩,.v (.tup [a,b])]) (zH (x:=.tup [a,b]) (y:=.int 0) rfl rfl rfl) i rfl)]
   exact Tq (zH (x:=.tup [a,b]) (y:=.int 1) rfl rfl rfl) m rfl
  show(match xj [.k w h ⟨z,ps⟩,.v (.tup [a,b])] with
   |.nx ρ=>(match (ρ:SE)[0]? with
    |some (Sl.k a b p')=>some (a,b,p')
    |_=>none)
   |_=>none)=_
  rw[n]
  rfl
 .cases e
def VY (T:Txt P w K mg base ad):wt P w K mg base aV 1 ad.f_Desk_go_on ad.e_Desk_go_on ["self","state"] (@rK ⟨K,ad.dk⟩ 2 xi .non):=by
 letI:KK:=⟨K,ad.dk⟩
 refine sO (zoT (N:=["self","state"]) (ps:=["self","state"]) T.mf_Desk_go_on zbp (g:=xj) λc A outer s H E d=>?_) Wv
 unfold xj
 exact(zk (zn8 (i:=0) T.dkc (pv 0) (Vb (zb (Aq T.dkc (ak 0)) (zb (Av T.dkc (ak 0)) ze))) (λa b=>Z5 kj Dd Dc Xq a b))
  (zk (Tz (i:=0) T.dkc (pv 0) (xl (ak 1) (zz zE) (λ_ _=>rfl)))
  (zv (Ua (i:=0) T.dkc (pv 0) (xl (ak 1) (zz zE) (λ_ _=>rfl))))))
abbrev Y6 :=zG (xn false 2 (zi 1 xU (za (zc 1) zh)))
  (zG (xn false 3 (zg aB (zc 2) (eC (.int 0))))
  (zG (aH (aq (aZ (uY zV) (zc 3))) (yf (zi 4 xu (za (aZ oA (zc 0)) (za (aZ ou (zc 0)) (za (zc 3) (za (zg aB (zc 2) (eC (.int 1))) zh)))))) zL)
  bV))
def yw:=aK 4 Y6
def Vp (T:Txt P w K mg base ad):wt P w K mg base aV 14 ad.f_Desk_say ad.e_Desk_say ["self","row"] (@cH ⟨K,ad.dk⟩ 2 yw):=by
 letI:KK:=⟨K,ad.dk⟩
 have G_parsed:=Va T
 have G_answer:=zjs T
 refine Zh (N:=["self","row","told","word"]) (ps:=["self","row"]) T.mf_Desk_say yP (g:=Y6) λb A outer s H E a=>?_
 unfold Y6
 exact(zk (yJ (m:=false) (i:=2) yP.nd rfl (Q0n rfl) (zq G_parsed a rfl (T.d 38) (zb (ak 1) ze)))
  (zk (yJ (m:=false) (i:=3) yP.nd rfl (Q0n rfl) (xl (ak 2) (zz zE) (λ_ _=>rfl)))
  (zk (xq (Vt T.b_QUESTIONS rfl T.g_QUESTIONS (ak 3)) (zv (z4 (zq G_answer a rfl (T.d 45) (zb (Aq T.dkc (ak 0)) (zb (Av T.dkc (ak 0)) (zb (ak 3) (zb (xl (ak 2) (zz zE) (λ_ _=>rfl)) ze))))))) zY)
  Xd)))
abbrev vg :=dO di (xn false 2 (zi 1 xU (za (zc 1) zh)))
  (dO di (xn false 3 (zg aB (zc 2) (eC (.int 0))))
  (jW (aq (aZ (uY zV) (zc 3))) (iG (jn 4 Xk (za (aZ oA (zc 0)) (za (aZ ou (zc 0)) (za (zc 3) (za (zg aB (zc 2) (eC (.int 1))) zh)))))) di))
def Zw:=lq 4 vg
def zda (T:Txt P w K mg base ad):wt P w K mg base (bD P w) 14 ad.f_Desk_say ad.e_Desk_say ["self","row"] (@nM ⟨K,ad.dk⟩ (cR ad) 2 Zw):=by
 letI:KK:=⟨K,ad.dk⟩
 have G_parsed:=Va T
 have X_answer:=zfH T
 refine qd (cl:=cR ad) (N:=["self","row","told","word"]) (ps:=["self","row"]) T.mf_Desk_say yP (gx:=vg) λb A outer s H E a=>?_
 unfold vg
 exact(wX wT (SD.nox (yJ (m:=false) (i:=2) yP.nd rfl (Q0n rfl) (zq G_parsed a rfl (T.d 38) (zb (ak 1) ze))))
  (wX wT (SD.nox (yJ (m:=false) (i:=3) yP.nd rfl (Q0n rfl) (xl (ak 2) (zz zE) (λ_ _=>rfl))))
  (YG (Ez (Vt T.b_QUESTIONS rfl T.g_QUESTIONS (ak 3)) (Zx (FT (Vo (X_answer.mono ⋯) Y5 a rfl (T.d 45).at_ (T.d 45).kp (T.d 45).bd (zb (Aq T.dkc (ak 0)) (zb (Av T.dkc (ak 0)) (zb (ak 3) (zb (xl (ak 2) (zz zE) (λ_ _=>rfl)) ze))))))) VD))))
def x8:zM :=zG (xn false 2 (zi 1 xU (za (zc 1) zh)))
  (zG (xn false 3 (zg aB (zc 2) (eC (.int 0))))
  (zG (aH (aq (aZ (uY zV) (zc 3))) bV zL)
  (zG (aH (aq (zg wB (zc 3) (eC (.str "back")))) bV (iT (gJ 0 2 xi .non (za (zi 4 ZB (za (aZ oA (zc 0)) (za (aZ ou (zc 0)) (za (zc 3) (za (zg aB (zc 2) (eC (.int 1))) zh))))) zh))))
  zL)))
def xg:KF:=λw h b a=>match a with
 |[row]=>(match xU [row] with
  | some (.tup [.str x,.lst ns])=>if (xO zV x).isSome then none else if x="back" then none else match ZB [w,h,.str x,.lst ns] with
   |some s=>if bA s then xi w h b [s]else none
   |none=>none
  |_=>none)
 |_=>none
def zad:∀ z w h ps f d g c,xg w h ps f≈(d,g,c)->lG 4 x8 z w h ps f≈(d,g,⟨z,c⟩):=by
 intro z w h ps f d g c e
 unfold xg at e
 split at e
 .rename_i a
  split at e
  .rename_i x ns m
   have n:x8 [.k w h ⟨z,ps⟩,.v a,.no,.no]=.nx [.k d g ⟨z,c⟩,.v a,.v (.tup [.str x,.lst ns]),.v (.str x)]:=by
    unfold x8
    rw[mz (vK (σ':=[.k w h ⟨z,ps⟩,.v a,.v (.tup [.str x,.lst ns]),.no]) (zx (ds:=[a]) rfl m)),
     mz (vK (σ':=[.k w h ⟨z,ps⟩,.v a,.v (.tup [.str x,.lst ns]),.v (.str x)]) (zH (x:=.tup [.str x,.lst ns]) (y:=.int 0) rfl rfl rfl))]
    cases i:(xO zV x).isSome with
    |true=>rw[i,t5 rfl]at e;cases e
    |false =>
     rw[i,j5 u7]at e
     rw[mz (jk (h:=zL) (wU (b:=false) (iB (x:=.str x) rfl (by show some (D.bl _)=_;rw[i]))))]
     by_cases j:x="back"
     .rw[t5 j]at e
      cases e
     .rw[j5 j]at e
      split at e
      .rename_i s k
       split at e
       .rename_i l
        refine mz ((jk (wU (b:=false) (zH (x:=.str x) (y:=.str "back") rfl rfl (by rw[Yd,r0 j])))).trans (J7 (My (ds:=[s]) rfl (zt (zx (ds:=[w,h,.str x,.lst ns]) rfl k) zR) (by show(bA s&&true)=true;rw[l];rfl) rfl e)))
       .cases e
      .cases e
   show(match x8 [.k w h ⟨z,ps⟩,.v a,.no,.no] with
    |.nx ρ=>(match (ρ:SE)[0]? with
     |some (Sl.k d g p')=>some (d,g,p')
     |_=>none)
    |_=>none)=_
   rw[n]
   rfl
  .cases e
 .cases e
def zdh (T:Txt P w K mg base ad):wt P w K mg base aV 14 ad.f_Desk_say ad.e_Desk_say ["self","row"] (@rK ⟨K,ad.dk⟩ 2 xg (.str "ok")):=by
 letI:KK:=⟨K,ad.dk⟩
 have G_parsed:=Va T
 have G_after:=zkB T
 have K_Desk_go_on:=VY T
 refine sO (zoj (N:=["self","row","told","word"]) (ps:=["self","row"]) T.mf_Desk_say yP (g:=x8) λb A outer s H E a=>?_) zad
 unfold x8
 exact(WT (yJ (m:=false) (i:=2) yP.nd rfl (Q0n rfl) (zq G_parsed a rfl (T.d 38) (zb (ak 1) ze)))
  (WT (yJ (m:=false) (i:=3) yP.nd rfl (Q0n rfl) (xl (ak 2) (zz zE) (λ_ _=>rfl)))
  (WT (xq (Vt T.b_QUESTIONS rfl T.g_QUESTIONS (ak 3)) Xd zY)
  (WT (xq (zQ (xK a) yK (z5 _) (ak 3) (zJ zI)) Xd (zv (uB (Am T.dkc.cl T.mm_Desk_go_on (K_Desk_go_on.mono ⋯) a T.mb_Desk_go_on (pv 0) (zb (zq G_after a rfl (T.d 42) (zb (Aq T.dkc (ak 0)) (zb (Av T.dkc (ak 0)) (zb (ak 3) (zb (xl (ak 2) (zz zE) (λ_ _=>rfl)) ze))))) ze)))))
  zop))))
def zaR:Q0j "ValueError"≈(.type "ValueError"):=by decide +kernel
def uD {n:Nat}(h:n<=13):n<=sizeLine:=by rw[fZ];omega
def Zt (T:Txt P w K mg base ad):Fv P w K mg base 1 (ad.f 46) (ad.e 46) (Rw 46).ps (Pk (cR ad) (λj=>j<13/\pQ K (oR ad) ad.x_StoneError (cR ad j) j)):=by
 letI:KK:=⟨K,ad.dk⟩
 refine znn (N:=(Rw 46).N) (ps:=(Rw 46).ps) (T.d 46).fn (sc 46) (λe H Q E h=>by obtain⟨a,j,k,rfl,_⟩:=h;rfl) λf A outer s H e Q E o u c=>?_
 obtain⟨a,j,k,rfl,g,⟨d,b⟩,q⟩:=c
 refine⟨_,(xy (YE (i:=1) (sc 46).nd rfl (Q0n rfl) (W2 (zw (yn y9 rfl (T.z "isinstance" ⋯) zN (zw (pv 0) (zw (yD (v:=.ref ad.x_NoWeb) rfl T.g_NoWeb rfl) yt))) (zw (yn y9 rfl (T.z "isinstance" ⋯) zN (zw (pv 0) (zw (yD (v:=.ref ad.x_NoKind) rfl T.g_NoKind rfl) yt))) (zw (yn y9 rfl (T.z "isinstance" ⋯) zN (zw (pv 0) (zw (yD (v:=.ref ad.x_NoHeap) rfl T.g_NoHeap rfl) yt))) (zw (yn y9 rfl (T.z "isinstance" ⋯) zN (zw (pv 0) (zw (yD (v:=.ref ad.x_NoPlace) rfl T.g_NoPlace rfl) yt))) yt))))))
  (xy (YE (i:=1) (sc 46).nd rfl (Q0n rfl) (pF Ak (pv 1) (W2 (zw (yn y9 rfl (T.z "isinstance" ⋯) zN (zw (pv 0) (zw (yD (v:=.ref ad.x_NoNumber) rfl T.g_NoNumber rfl) yt))) (zw (yn y9 rfl (T.z "isinstance" ⋯) zN (zw (pv 0) (zw (yD (v:=.ref ad.x_NoTally) rfl T.g_NoTally rfl) yt))) (zw (yn y9 rfl (T.z "isinstance" ⋯) zN (zw (pv 0) (zw (yD (v:=.ref ad.x_NotTree) rfl T.g_NotTree rfl) yt))) (zw (yn y9 rfl (T.z "isinstance" ⋯) zN (zw (pv 0) (zw (yD (v:=.ref ad.x_NotJoined) rfl T.g_NotJoined rfl) yt))) yt)))))))
  (xy (YE (i:=1) (sc 46).nd rfl (Q0n rfl) (pF Ak (pv 1) (W2 (zw (yn y9 rfl (T.z "isinstance" ⋯) zN (zw (pv 0) (zw (yD (v:=.ref ad.x_NoWeights) rfl T.g_NoWeights rfl) yt))) (zw (yn y9 rfl (T.z "isinstance" ⋯) zN (zw (pv 0) (zw (yD (v:=.ref ad.x_NoRow) rfl T.g_NoRow rfl) yt))) (zw (yn y9 rfl (T.z "isinstance" ⋯) zN (zw (pv 0) (zw (yD (v:=.ref ad.x_NoSteps) rfl T.g_NoSteps rfl) yt))) (zw (yn y9 rfl (T.z "isinstance" ⋯) zN (zw (pv 0) (zw (yD (v:=.ref ad.x_NoText) rfl T.g_NoText rfl) yt))) yt)))))))
  (xy (YE (i:=1) (sc 46).nd rfl (Q0n rfl) (pF Ak (pv 1) (W2 (zw (yn y9 rfl (T.z "isinstance" ⋯) zN (zw (pv 0) (zw (yD (v:=.ref ad.x_TooGreat) rfl T.g_TooGreat rfl) yt))) yt))))
  (xy (Ep (PW.pt (Km (Mq (Mu (yn y9 rfl (T.z "isinstance" ⋯) zN (zw (pv 0) (zw (ZP (v:=.ty "ValueError") rfl (T.z "ValueError" ⋯) zaR rfl) yt))))) (Lj (G8 VJ (Z5 kj Q1K PySem.F.type_list_count zhb (pv 1) (zw Vn yt)) zE (z5 _))))) (Yf (XY (Kz Lz zE))) Og) (Yf (XY (Z5 kj Q1L PySem.F.type_list_index zjw (pv 1) (zw Vn yt))))))))),?_⟩
 refine zg8 (cs:=[ad.x_NoWeb,ad.x_NoKind,ad.x_NoHeap,ad.x_NoPlace]) (bs:=[0 == j,1 == j,2 == j,3 == j]) b.look (bJ (λl=>(l.drop 0).take 4) b.hot) (uD (n:=4) ⋯) rfl rfl g λm H1 S1=>?_
 refine Hn (cs:=[ad.x_NoNumber,ad.x_NoTally,ad.x_NotTree,ad.x_NotJoined]) (bs:=[4 == j,5 == j,6 == j,7 == j]) b.look (bJ (λl=>(l.drop 4).take 4) b.hot) (by exact uD (n:=8) ⋯) S1 λp H2 S2=>?_
 refine Hn (cs:=[ad.x_NoWeights,ad.x_NoRow,ad.x_NoSteps,ad.x_NoText]) (bs:=[8 == j,9 == j,10 == j,11 == j]) b.look (bJ (λl=>(l.drop 8).take 4) b.hot) (by exact uD (n:=12) ⋯) S2 λr H3 S3=>?_
 refine Hn (cs:=[ad.x_TooGreat]) (bs:=[12 == j]) b.look (bJ (λl=>(l.drop 12).take 1) b.hot) (by exact uD (n:=13) ⋯) S3 λt H4 S4=>?_
 exact zoc b.val b.look d S4 (q _ S4.same)
def Zd {a b:Str}(h:↥a+↥b<=1000):yh (.str a) (.str b)≈(.str (a++b)):=by
 show(if aU (↥a+↥b) then _ else none)=_
 rw[t5 (yV h)]
def XO (a b:Str):(a++b).length=↥a+↥b:=by
 show(a.cps++b.cps).size=_
 rw[Array.size_append]
 rfl
def O1:(Q0b " ").length=1:=by decide
def pK (m:Int) (a:zy) (h:zr):Str:=Txt.replace (jq m a h) "\n" " ; "
abbrev v0 :=dh false 3 (zg yh (zg yh (zg yh (eC (.str "tie ")) (aF wk (za (zc 4) zh))) (eC (.str " "))) (aF wk (za (zc 5) zh)))
abbrev Yo :=zG (cX 3 (yX (za (zg yh (eC (.str "web ")) (aF wk (za (zg aB (zc 0) (eC (.int 0))) zh))) zh)))
  (zG (cA (bc (zg aB (zc 0) (eC (.int 1)))) (gZ 2 (ZJ (xE 4) (ZJ (xE 5) jd))) v0)
  (dX 3 (yf (ZV Xf (zc 2) (za (zg yh (zc 3) (xm (yX (za (ZV Xf (eC (.str " ")) (za (zg yh (xm (yX (za (eC (.str "heap")) zh))) (xm (aL (bc (zc 1)) b1 yN (aF wk (za (zc 0) zh))))) zh)) zh)))) zh)))))
def v7:=aK 6 Yo
def cL (t:aY):Str:=vN (Q0b "tie") [t.1,t.2]
def zkH {a:Str}(A:wC m b h)(e:↥a<=3):Xf (.str a) (.lst ((wY m b h).map .str))≈(.str (Txt.join a (wY m b h))):=by
 show(Xh ((wY m b h).map .str)).bind _=_
 rw[Y3,q7,t5 (Bb (λr c=>(A.rows r c).1) ?_)]
 have d:=A.count.2
 have f:(wY m b h).length*↥a<=30*3:=Nat.mul_le_mul d e
 omega
def znL (w:Str) (n:Int):vN w [n]=w++Q0b " "++nS n:=jZ _ _
def znj (w:Str) (a b:Int):vN w [a,b]=w++Q0b " "++(nS a++Q0b " "++nS b):=jZ _ _
def zpW:Q0b "web "=Q0b "web"++Q0b " ":=by decide
def zpx:Q0b "tie "=Q0b "tie"++Q0b " ":=by decide
def Hs:(Q0b "tie ").length=4:=by decide
def zgM:(Q0b "web ").length=4:=by decide
def zlL {t:aY} (f:vD [t.1,t.2]) (i:zc 4 ρ≈(.int t.1)) (m:zc 5 ρ≈(.int t.2)):zg yh (zg yh (zg yh (eC (.str "tie ")) (aF wk (za (zc 4) zh))) (eC (.str " "))) (aF wk (za (zc 5) zh)) ρ≈(.str (cL t)):=by
 have c:=f.rng t.1 (.head _)
 have d:=f.rng t.2 (.tail _ (.head _))
 have n:=(Wr c.1 c.2).2
 have o:=(Wr d.1 d.2).2
 have j:aF wk (za (zc 4) zh) ρ≈(.str (nS t.1)):=YM (ds:=[.int t.1]) (zt i zR) (ZO c.1 c.2)
 have l:aF wk (za (zc 5) zh) ρ≈(.str (nS t.2)):=YM (ds:=[.int t.2]) (zt m zR) (ZO d.1 d.2)
 have h:=Zd (a:=Q0b "tie ") (b:=nS t.1) (by rw[Hs];omega)
 have g:=Zd (a:=Q0b "tie "++nS t.1) (b:=Q0b " ") (by rw[XO,Hs,O1];omega)
 have k:=Zd (a:=Q0b "tie "++nS t.1++Q0b " ") (b:=nS t.2) (by rw[XO,XO,Hs,O1];omega)
 have e:cL t=Q0b "tie "++nS t.1++Q0b " "++nS t.2:=by
  unfold cL
  rw[znj,zpx]
  simp only[Str.append_assoc]
 rw[e]
 exact zH (zH (zH (x:=.str (Q0b "tie ")) rfl j h) (y:=.str (Q0b " ")) rfl g) l k
def znE {h:zr}{f:Str}(A:wC m c h)(w:↥f<=3):v7 [aa m c,.tup (h.map .int),.str f]≈(.str (Txt.join f (wY m c h))):=by
 have E:=A.few
 have l:=A.nW.rng m (.head _)
 have F:=(Wr l.1 l.2).2
 refine w4 (ρ:=[.v (aa m c),.v (.tup (h.map .int)),.v (.str f),.no,.no,.no]) rfl ?_
 unfold Yo
 have z:zg yh (eC (.str "web ")) (aF wk (za (zg aB (zc 0) (eC (.int 0))) zh)) (visF [.v (aa m c),.v (.tup (h.map .int)),.v (.str f),.no,.no,.no])≈(.str (vN (Q0b "web") [m])):=by
  have s:=Zd (a:=Q0b "web ") (b:=nS m) (by rw[zgM];omega)
  rw[znL,<- zpW]
  exact zH (x:=.str (Q0b "web ")) rfl (YM (ds:=[.int m]) rfl (ZO l.1 l.2)) s
 refine zu (ρ':=[.v (aa m c),.v (.tup (h.map .int)),.v (.str f),.o ((vN (Q0b "web") [m]::(c.take 0).map cL).map .str),.no,.no]) (Gw (VF (zt z zR) (by show 1<=1000;decide))) ?_
 refine yE (Xn (ds:=c.map zd) (λi ρ=>∃ j g,ρ=[.v (aa m c),.v (.tup (h.map .int)),.v (.str f),.o ((vN (Q0b "web") [m]::(c.take i).map cL).map .str),j,g]) rfl ⟨_,_,rfl⟩ ?_ ?_)
 .rintro i d ρ q ⟨j,g,rfl⟩
  rw[q4]at q
  obtain⟨t,p,rfl⟩:=u8.mp q
  have k:=k6 p
  refine⟨[.v (aa m c),.v (.tup (h.map .int)),.v (.str f),.o ((vN (Q0b "web") [m]::(c.take i).map cL).map .str),.v (.int t.1),.v (.int t.2)],rfl,?_⟩
  unfold v0
  refine vE (qi (m:=false) (i:=3) (d:=.str (cL t)) (ds:=(vN (Q0b "web") [m]::(c.take i).map cL).map .str) (by unfold bF;rw[j5 u7];exact zlL (A.nT k) rfl rfl) rfl (by rw[u5,g5,u5,fW];omega)) ⟨.v (.int t.1),.v (.int t.2),?_⟩
  have n:c.take (i+1)=c.take i++[t]:=by rw[qL,p];rfl
  have e:(vN (Q0b "web") [m]::(c.take (i+1)).map cL).map D.str=(vN (Q0b "web") [m]::(c.take i).map cL).map D.str++[.str (cL t)]:=by
   rw[n,r8,<- List.cons_append,r8]
   rfl
  rw[e]
  rfl
 .rintro ρ ⟨j,g,rfl⟩
  rw[u5,iK]
  refine gw (ρ':=[.v (aa m c),.v (.tup (h.map .int)),.v (.str f),.v (.lst ((vN (Q0b "web") [m]::c.map cL).map .str)),j,g]) rfl (wz (d:=.str (Txt.join f (wY m c h))) (ye ?_) rfl)
  have C:zg yh (xm (yX (za (eC (.str "heap")) zh))) (xm (aL (bc (zc 1)) b1 yN (aF wk (za (zc 0) zh)))) (visG [.v (aa m c),.v (.tup (h.map .int)),.v (.str f),.v (.lst ((vN (Q0b "web") [m]::c.map cL).map .str)),j,g])≈(.lst ((Q0b "heap"::h.map nS).map .str)):=by
   refine zH (x:=.lst [.str (Q0b "heap")]) (y:=.lst ((h.map nS).map .str)) rfl (vc (Bd (Fy (d:=.tup (h.map .int)) rfl rfl) A.nH)) ?_
   rw[vz (by rw[u5,u5];have:=A.nH.few;show 1+_<=1000;omega)]
   rfl
  have o:ZV Xf (eC (.str " ")) (za (zg yh (xm (yX (za (eC (.str "heap")) zh))) (xm (aL (bc (zc 1)) b1 yN (aF wk (za (zc 0) zh))))) zh) (visG [.v (aa m c),.v (.tup (h.map .int)),.v (.str f),.v (.lst ((vN (Q0b "web") [m]::c.map cL).map .str)),j,g])≈(.str (vN (Q0b "heap") h)):=by
   unfold ZV
   rw[zt C zR]
   exact Ql Ac A.nH
  generalize r:visG [.v (aa m c),.v (.tup (h.map .int)),.v (.str f),.v (.lst ((vN (Q0b "web") [m]::c.map cL).map .str)),j,g]=E0 at o
  have v:zc 3 E0≈(.lst ((vN (Q0b "web") [m]::c.map cL).map .str)):=by rw[<-r];rfl
  have u:zc 2 E0≈(.str f):=by rw[<-r];rfl
  have B:yh (.lst ((vN (Q0b "web") [m]::c.map cL).map .str)) (.lst [.str (vN (Q0b "heap") h)])≈(.lst ((wY m c h).map .str)):=by
   rw[vz (by rw[u5,g5,u5];show _+1<=1000;omega)]
   congr 2
   show(vN (Q0b "web") [m]::c.map cL).map D.str++[vN (Q0b "heap") h].map D.str=_
   rw[<-r8]
   rfl
  exact Gj u (zt (zH v (vc (VF (zt o zR) (by show 1<=1000;decide))) B) zR) (zkH A w)
def zjM (A:wC m a h):pK m a h=Txt.join " ; " (wY m a h):=by
 unfold pK
 rw[show(Q0b "\n")=⟨#[10]⟩from Gs,StrLaws.replace_one,<- Gs,A.split]
 exact(jZ _ _).symm
def zcB:T.Pr 53 1 3 v7:=by
 letI:KK:=⟨K,ad.dk⟩
 refine Zh (N:=(Rw 53).N) (ps:=(Rw 53).ps) (T.d 53).fn (sc 53) (g:=Yo) λc A outer s H E d=>?_
 unfold Yo v0
 exact(zk (FZ (i:=3) (sc 53).nd rfl (Q0n rfl) (Yr (zb (yr (zJ zI) (zB zp zX rfl (T.z "str" ⋯) yb (zb (xl (ak 0) (zz zE) (λ_ _=>rfl)) ze))) ze)))
  (zk (VG gF rfl (xY (xl (ak 0) (zz zE) (λ_ _=>rfl))) (Af rfl (Yl (wI (zT (i:=4) (sc 53).nd rfl (Q0n rfl))) (Yl (wI (zT (i:=5) (sc 53).nd rfl (Q0n rfl))) Be))) (zv (Fo (m:=false) (pv 3) (yr (yr (yr (zJ zI) (zB zp zX rfl (T.z "str" ⋯) yb (zb (ak 4) ze))) (zJ zI)) (zB zp zX rfl (T.z "str" ⋯) yb (zb (ak 5) ze))) (λa b=>Z5 kj Dd Dc Xq a b))))
  (Ad 3 (zv (z4 (Xw (ak 2) (zb (yr (ak 3) (vp (Yr (zb (Xw (zJ zI) (zb (yr (vp (Yr (zb (zJ zI) ze))) (vp (Yt (L:=["stones"]) (M:=["web","heap","between","rows","a","b"]) rfl (wy (by rfl) (by rfl) (by rfl) (by with_unfolding_all rfl) (by rfl) (by rfl) (by kernel_rfl) yI) (xY (ak 1)) dI dF (λ_ _ _ _=>(zT (i:=0) zqA rfl (Q0n rfl) (.inr rfl))) (λ_ _ _ _=>(zB zp zX rfl (T.z "str" ⋯) yb (zb (ak 0) ze)))))) ze) (λa b=>Z5 ju nD nC Xz a b)) ze)))) ze) (λa b=>Z5 ju nD nC Xz a b)))))))
abbrev vx :=zG (aH (aq (zg wB (aF Xr (za (zc 0) zh)) (eC (.int 0)))) (yf (eC (.str "none"))) zL)
  (yf (ZV Xf (eC (.str " ")) (za (xm (aL (bc (zc 0)) b1 yN (aF uI (za (zc 0) zh)))) zh)))
def yO:=aK 1 vx
def za4:T.Pr 54 1 1 yO:=by
 letI:KK:=⟨K,ad.dk⟩
 refine Zh (N:=(Rw 54).N) (ps:=(Rw 54).ps) (T.d 54).fn (sc 54) (g:=vx) λd A outer s H E c=>?_
 unfold vx
 exact(zk (xq (zQ (xK c) yK (z5 _) (yF ww Vw rfl (T.z "len" ⋯) XZ (zb (ak 0) ze)) (zz zE)) (zv (z4 (zJ zI))) zY)
  (zv (z4 (Xw (zJ zI) (zb (vp (Yt (L:=["thing"]) (M:=["things"]) rfl (wy (by rfl) (by rfl) (by rfl) (by with_unfolding_all rfl) (by rfl) (by rfl) (by kernel_rfl) yI) (xY (ak 0)) dI dF (λ_ _ _ _=>(zT (i:=0) zqc rfl (Q0n rfl) (.inr rfl))) (λ_ _ _ _=>(zB zbW zkv rfl (T.z "str" ⋯) yb (zb (ak 0) ze))))) ze) (λa b=>Z5 ju nD nC Xz a b)))))
def YD (a:zF):Str:=if a=[]then "none" else Txt.join (Q0b " ") a
def R0 {a:zF} (d:↥a<=64) (b:∀ y∈a,↥y<=7):Xf (.str (Q0b " ")) (.lst (a.map .str))≈(.str (Txt.join (Q0b " ") a)):=by
 show(Xh (a.map .str)).bind _=_
 rw[Y3,q7,t5 (Bb b ?_)]
 have c:(Q0b " ").length=1:=by decide
 rw[c]
 omega
def Vv {b:zF}(e:↥b<=64)(d:∀ y∈b,↥y<=7):v6 [.lst (b.map .str)]≈(.str (YD b)):=by
 refine w4 (ρ:=[.v (.lst (b.map .str))]) rfl ?_
 unfold WR YD
 refine wz (ye ?_) rfl
 unfold sW
 show(some (decide ((0:Int)<((b.map D.str).length:Int)))).bind (λc=>if c then ZV Xf (eC (.str " ")) (za (zc 0) zh) [some (.lst (b.map .str))]else some (.str "none"))=_
 rw[q7,u5]
 cases b with
 |nil=>rfl
 |cons a r =>
  rw[t5 (j3 (by show(0:Int)<((↥r+1:Nat):Int);omega)),j5 (λh=>by cases h)]
  exact Gj rfl rfl (R0 e d)
def We {α:Type}{xs:List α}{c:α->D}{f:α->Str}(l:wW d≈(xs.map c))(j:Xr [d]≈(.int (↥xs:Int)))(g:∀ x∈xs,uI [c x]≈(.str (f x)))(i:↥xs<=64)(m:∀ x∈xs,(f x).length<=7):yO [d]≈(.str (YD (xs.map f))):=by
 refine w4 (ρ:=[.v d]) rfl ?_
 unfold vx YD
 refine yE (ZQ (c:=decide ((↥xs:Int)=0)) (wU (zH (x:=.int (↥xs:Int)) (y:=.int 0) (YM (ds:=[d]) rfl j) rfl rfl)) (λz=>?_) (λz=>vE rfl ?_))
 .have z:=j8 z
  cases xs with
  |nil=>exact wz rfl rfl
  |cons a r=>exact absurd z (by show ¬ ((↥r+1:Nat):Int)=0;omega)
 .rw[j5 (λh=>by
   have h:=Cu.mp h
   rw[h]at z
   cases z)]
  refine wz (ye (Gj rfl (zt (vc (ds:=(xs.map f).map .str) ?_) zR) (R0 (by rw[u5];exact i) λy k=>?_))) rfl
  .unfold aL
   show((wW d).bind λb=>if aU ↥b then dG _ _ _ _ b else none)=_
   rw[l,q7,t5 (yV (by rw[u5];omega)),l4]
   exact wM c (D.str∘f) xs λx e=>⟨[some (c x)],rfl,rfl,YM (ds:=[c x]) rfl (g x e)⟩
  .obtain⟨x,e,rfl⟩:=g9.mp k
   exact m x e
def Dw (y:Str)(a:Int):Option D:=zg yh (eC (.str y)) (aF wk (za (zc 0) zh)) [some (.int a)]
def rP (y:Str) (a b:Int):Option D:=zg yh (zg yh (zg yh (eC (.str y)) (aF wk (za (zc 0) zh))) (eC (.str " "))) (aF wk (za (zc 1) zh)) [some (.int a),some (.int b)]
def ug:zl->zr->Bool
 |.int a::r,b::q=>decide (a=b)&&ug r q
 |[],[]=>true
 |_,_=>false
def znP:∀ {c:zl} {ns:zr},ug c ns=true->c=ns.map .int:=by
 intro c
 induction c with
 |nil=>intro ns h;cases ns with
  |nil=>rfl
  |cons a r=>cases h
 |cons d c f =>
  intro ns h
  cases d with
  |int a =>
   cases ns with
   |nil=>cases h
   |cons b r =>
    have e:(decide (a=b)&&ug c r)=true:=h
    rw[k9,k7]at e
    rw[e.1,f e.2]
    rfl
  |_=>cases h
def Dy (x:Str)(ns:zr)(o:Option D):Prop:=∃ r,o≈(.str r)/\xU [.str r]≈(.tup [.str x,.lst (ns.map .int)])
def tZ (x:Str)(ns:zr):Option D->Bool
 |some (.str r)=>(match xU [.str r] with
  |some (.tup [.str y,.lst ds])=>decide (y=x)&&ug ds ns
  |_=>false)
 |_=>false
def O9 (h:tZ x ns o=true):Dy x ns o:=by
 unfold tZ at h
 split at h
 .split at h
  .rename_i r _ y b e
   rw[k9,k7]at h
   obtain⟨rfl,a⟩:=h
   rw[znP a]at e
   exact⟨r,rfl,e⟩
  .cases h
 .cases h
def zkq:([("web","web "),("most","most "),("need","need ")]:List (Str × Str)).all (λx=>(Q0g 6).all λa=>tZ x.1 [(a:Int)] (Dw x.2 (a:Int)))=true:=by kernel_rfl
def zkI:([("tie","tie "),("put","put "),("far","far ")]:List (Str × Str)).all (λx=>(Q0g 5).all λa=>(Q0g 7).all λb=>tZ x.1 [(a:Int),(b:Int)] (rP x.2 (a:Int) (b:Int)))=true:=by kernel_rfl
def Fl {a:Int} (b:(x,y)∈([("web","web "),("most","most "),("need","need ")]:List (Str × Str))) (h0:0<=a) (c:a<6):Dy x [a] (Dw y a):=by
 obtain⟨k,rfl⟩:=i9 h0
 exact O9 (l5.mp (l5.mp zkq (x,y) b) k (p4.mpr ∅))
def Ek {a b:Int} (d:(x,y)∈([("tie","tie "),("put","put "),("far","far ")]:List (Str × Str))) (h0:0<=a) (e:a<5) (c:0<=b) (b1:b<7):Dy x [a,b] (rP y a b):=by
 obtain⟨k,rfl⟩:=i9 h0
 obtain⟨l,rfl⟩:=i9 c
 exact O9 (l5.mp (l5.mp (l5.mp zkI (x,y) d) k (p4.mpr ∅)) l (p4.mpr ∅))
def ask {w t:D}(g:xU [a]≈(.tup [.str x,.lst ns]))(e:(xO zV x).isSome=true)(f:xu [w,b,.str x,.lst ns]≈t):yw [.obj w b d,a]≈t:=by
 refine w4 (ρ:=[.v (.obj w b d),.v a,.no,.no]) rfl ?_
 unfold Y6
 refine zu (vK (σ':=[.v (.obj w b d),.v a,.v (.tup [.str x,.lst ns]),.no]) (zx (ds:=[a]) rfl g)) ?_
 refine zu (vK (σ':=[.v (.obj w b d),.v a,.v (.tup [.str x,.lst ns]),.v (.str x)]) (zH (x:=.tup [.str x,.lst ns]) (y:=.int 0) rfl rfl rfl)) ?_
 refine yE (ZQ (c:=true) (wU (iB (x:=.str x) rfl (by show some (D.bl _)=_;rw[e]))) (λ_=>?_) (λz=>by cases z))
 exact wz (ye (zx (ds:=[w,b,.str x,.lst ns]) (zt (iB (x:=.obj w b d) rfl rfl) (zt (iB (x:=.obj w b d) rfl rfl) (zt rfl (zt rfl zR)))) f)) rfl
section
variable {N B C:vl}{R:D->Prop}{g k:zM}{ρ:SE}{x y:Str}
def yo (h:zc 2 (visG ρ)≈(.str x))(q:(k ρ).w N B C R)(a:decide (x=y)=false:=by decide):(zG (aH (aq (zg wB (zc 2) (eC (.str y)))) g zL) k ρ).w N B C R:=zu ((jk (wU (b:=false) (zH h rfl (by rw[Yd,a])))).trans rfl) q
def YL {f:zW}(h:zc 2 (visG ρ)≈(.str y))(e:f (visG ρ)≈d)(q:R d):(zG (aH (aq (zg wB (zc 2) (eC (.str y)))) (yf f) zL) k ρ).w N B C R:=yE (ZQ (c:=true) (wU (zH h rfl (by rw[Yd,j3 rfl]))) (λ_=>wz (ye e) q) (λz=>by cases z))
end
section
variable {m:Int}{ts:zy}{h:Hl}
def U3 (b:vD h) (d:↥h<=8):xu [aa m ts,hD h,.str "heap",.lst []]≈(.str (YD (h.map nS))):=by
 refine w4 (ρ:=[.v (aa m ts),.v (hD h),.v (.str "heap"),.v (.lst []),.no]) rfl ?_
 unfold xS
 refine YL rfl (zx (ds:=[.lst ((h.map nS).map .str)]) (zt (vc (Bd rfl b)) zR) (Vv (by rw[u5];omega) λy c=>?_)) rfl
 obtain⟨n,a,rfl⟩:=g9.mp c
 exact k8 (Wr (b.rng n a).1 (b.rng n a).2).2 ⋯
end
def Za {n:Int}(h0:0<=n)(a:n<1000000):wk [.int n]≈(.str (nS n)):=by
 show(if 0<=n/\n<1000000 then _ else _)=_
 rw[t5 ⟨h0,a⟩]
 rfl
def dY (y:Str)(t:aY):Str:=nS t.1++y++nS t.2
def jO (t:aY):Prop:=(0<=t.1/\t.1<=300)/\0<=t.2/\t.2<=300
def zrO {y:Str}{t:aY}(a:↥y=1)(h:jO t):(dY y t).length<=7:=by
 have:=(Wr h.1.1 h.1.2).2
 have:=(Wr h.2.1 h.2.2).2
 unfold dY
 rw[XO,XO]
 omega
def K8 {a c b:zW}{y:Str}{t:aY}(g:↥y=1)(h:jO t)(e:a ρ≈(.int t.1))(d:c ρ≈(.str y))(f:b ρ≈(.int t.2)):zg yh (zg yh (aF wk (za a zh)) c) (aF wk (za b zh)) ρ≈(.str (dY y t)):=by
 have i:=(Wr h.1.1 h.1.2).2
 have j:=(Wr h.2.1 h.2.2).2
 exact zH (zH (YM (ds:=[.int t.1]) (zt e zR) (ZO h.1.1 h.1.2)) d (Zd ∅)) (YM (ds:=[.int t.2]) (zt f zR) (ZO h.2.1 h.2.2)) (Zd (by rw[XO];omega))
def Mj {xs:zy}{y:Str}(a:↥y=1)(b:∀ t∈xs,jO t):∀ z∈xs.map (dY y),↥z<=7:=λz d=>by
 obtain⟨t,c,rfl⟩:=g9.mp d
 exact zrO a (b t c)
def Rm {a:zy}{y:Str}(g:wW d≈(a.map zd))(b:↥y=1)(c:∀ t∈a,jO t)(f:↥a<=64):Y0 [d,.str y]≈(.str (YD (a.map (dY y)))):=by
 refine w4 (ρ:=[.v d,.v (.str y)]) rfl ?_
 unfold Qd
 refine wz (ye (zx (ds:=[.lst ((a.map (dY y)).map .str)]) (zt (vc ?_) zR) (Vv (by rw[u5];exact f) (Mj b c)))) rfl
 unfold aL
 show((wW d).bind λds=>if aU ↥ds then dG _ _ _ _ ds else none)=_
 rw[g,q7,t5 (yV (by rw[u5];omega)),l4]
 exact wM zd (D.str∘dY y) a λt e=>⟨[some (zd t)],rfl,rfl,K8 b (c t e) (zH (x:=zd t) (y:=.int 0) rfl rfl rfl) rfl (zH (x:=zd t) (y:=.int 1) rfl rfl rfl)⟩
def Rc {g:yL}{xs:zy}{y:Str}(h:g ρ≈(xs.map zd))(a:↥y=1)(b:∀ t∈xs,jO t)(j:↥xs<=64) :
 zi 1 yO (za (xm (aL g b2 yN (zg yh (zg yh (aF wk (za (zc 0) zh)) (eC (.str y))) (aF wk (za (zc 1) zh))))) zh) ρ≈(.str (YD (xs.map (dY y)))):=by
 have e:=We (d:=.lst ((xs.map (dY y)).map .str)) (xs:=xs.map (dY y)) (c:=.str) (f:=id) rfl (by show some (D.int _)=_;rw[u5,u5]) (λ_ _=>rfl) (by rw[u5];exact j) (Mj a b)
 rw[ql]at e
 refine zx (ds:=[.lst ((xs.map (dY y)).map .str)]) (zt (vc ?_) zR) e
 unfold aL
 rw[h,q7,t5 (yV (by rw[u5];omega)),l4]
 exact wM zd (D.str∘dY y) xs λt i=>⟨[some (.int t.1),some (.int t.2)],rfl,rfl,K8 a (b t i) rfl rfl rfl⟩
section
variable {m:Int}{ts:zy}{h:Hl}{p q:Int}
abbrev iV (m:Int)(ts:zy)(h:Hl)(x:Str)(ns:zl):SE:=[.v (aa m ts),.v (hD h),.v (.str x),.v (.lst ns),.no]
def Nq (ok:yd m ts):∀ t∈ts,jO t:=λt a=>by
 have r:=ok.rng t a
 have:=ok.hi
 exact⟨⟨by omega,by omega⟩,by omega,by omega⟩
def Uw (ok:yd m ts) (a:↥ts<=28):xu [aa m ts,hD h,.str "ties",.lst []]≈(.str (YD (ts.map (dY "-")))):=by
 refine w4 (ρ:=iV m ts h "ties" []) rfl ?_
 unfold xS
 exact yo rfl (YL rfl (zx (ds:=[.tup (ts.map zd),.str "-"]) rfl (Rm rfl ⋯ (Nq ok) ∅)) rfl)
def MT (ok:yd m ts):∀ t∈fP m ts h,jO t:=λt a=>by
 have r:=vS ok t (eU.mp a).1
 have:=ok.hi
 have:=r.a0
 have:=r.a1
 have:=r.b0
 have:=r.b1
 exact⟨⟨by omega,by omega⟩,by omega,by omega⟩
def NQ (ok:yd m ts):(fP m ts h).length<=64:=by
 have b:=wn ok m.toNat
 have:=ok.hi
 have a:(fP m ts h).length<=(yj m ts).length:=Cg _ _
 unfold yj at a
 omega
def Lk (A:wC m ts h):xh [aa m ts,hD h]≈(.lst ((fP m ts h).map zd)):=by
 have e:(h.map D.int).map lH=h:=by rw[l4];exact ql h
 show(if (xM (aa m ts)&&xC (ir (aa m ts)) (.tup (h.map .int))) then some (D.lst ((fP (ir (aa m ts)) (jU (aa m ts)) ((h.map D.int).map lH)).map zd))else none)=_
 rw[(yu _).mpr ⟨_,_,rfl,A.ok⟩,xr,xQ,Zb A.len A.nn A.sum,e]
 rfl
def znY (A:wC m ts h):xu [aa m ts,hD h,.str "steps",.lst []]≈(.str (YD ((fP m ts h).map (dY ">")))):=by
 refine w4 (ρ:=iV m ts h "steps" []) rfl ?_
 unfold xS
 exact yo rfl (yo rfl (YL rfl (zx (ds:=[.lst ((fP m ts h).map zd),.str ">"]) (zt (zx (ds:=[aa m ts,hD h]) rfl (Lk A)) (zt rfl zR)) (Rm rfl ⋯ (MT A.ok) (NQ A.ok))) rfl))
def sS:yl->Str
 | none=>"none"
 |some k=>nS k
def K9 (ok:yd m ts)(c:0<=p/\p<m):∀ k,VW ts p q≈k->0<=k/\k<=300:=λk a=>by
 rcases XQ ts p q with ⟨j,e,b⟩|⟨e,_⟩
 .rw[e]at a
  cases a
  have:=b.lt ok c
  have:=ok.hi
  omega
 .rw[e]at a
  cases a
def Tv (ok:yd m ts) (a:0<=p/\p<m) (b:0<=q/\q<m):xu [aa m ts,hD h,.str "far",.lst [.int p,.int q]]≈(.str (sS (VW ts p q))):=by
 refine w4 (ρ:=iV m ts h "far" [.int p,.int q]) rfl ?_
 unfold xS
 refine yo rfl (yo rfl (yo rfl (yE (ZQ (c:=true) (wU (zH (x:=.str "far") rfl rfl (by rw[Yd,j3 rfl]))) (λ_=>?_) (λz=>by cases z)))))
 refine zu (vK (σ':=[.v (aa m ts),.v (hD h),.v (.str "far"),.v (.lst [.int p,.int q]),.v (wE (VW ts p q))]) (zx (ds:=[aa m ts,.int p,.int q]) rfl (LC ok a b))) ?_
 have d:=K9 (q:=q) ok a
 cases e:VW ts p q with
 |none=>exact wz rfl rfl
 |some k =>
  have:=d k e
  refine wz (ye ?_) rfl
  show wk [.int k]=_
  exact Za this.1 ∅
def zp0 (e:vT [aa m ts,hD h,.int p]≈(.int M)) (h0:0<=M) (a:M<=300):xu [aa m ts,hD h,.str "most",.lst [.int p]]≈(.str (nS M)):=by
 refine w4 (ρ:=iV m ts h "most" [.int p]) rfl ?_
 unfold xS
 exact yo rfl (yo rfl (yo rfl (yo rfl (YL rfl (YM (ds:=[.int M]) (zt (zx (ds:=[aa m ts,hD h,.int p]) rfl e) zR) (Za h0 ∅)) rfl))))
def zhw {ns:zr} (e:wq [aa m ts,hD h]≈(.lst (ns.map .int))) (b:vD ns) (d:↥ns<=8):xu [aa m ts,hD h,.str "reached",.lst []]≈(.str (YD (ns.map nS))):=by
 refine w4 (ρ:=iV m ts h "reached" []) rfl ?_
 unfold xS
 refine yo rfl (yo rfl (yo rfl (yo rfl (yo rfl (YL rfl (zx (ds:=[.lst ((ns.map nS).map .str)]) (zt (vc (Bd ?_ b)) zR) (Vv (by rw[u5];omega) λy c=>?_)) rfl)))))
 .show((zi 2 wq (za (zc 0) (za (zc 1) zh)) (visG (iV m ts h "reached" []))).bind wW)=_
  rw[zx (ds:=[aa m ts,hD h]) rfl e]
  rfl
 .obtain⟨n,a,rfl⟩:=g9.mp c
  exact k8 (Wr (b.rng n a).1 (b.rng n a).2).2 ⋯
def zr0 {k:Int} (e:qb [aa m ts,.int p,.int 1]≈(.int k)) (h0:0<=k) (a:k<=301):xu [aa m ts,hD h,.str "need",.lst [.int p]]≈(.str (nS k)):=by
 refine w4 (ρ:=iV m ts h "need" [.int p]) rfl ?_
 unfold xS
 exact yo rfl (yo rfl (yo rfl (yo rfl (yo rfl (yo rfl (YL rfl (YM (ds:=[.int k]) (zt (zx (ds:=[aa m ts,.int p,.int 1]) rfl e) zR) (Za h0 ∅)) rfl))))))
def zo2 (A:wC m ts h):xu [aa m ts,hD h,.str "shown",.lst []]≈(.str (pK m ts h)):=by
 refine w4 (ρ:=iV m ts h "shown" []) rfl ?_
 unfold xS
 refine yo rfl (yo rfl (yo rfl (yo rfl (yo rfl (yo rfl (yo rfl (wz (d:=.str (pK m ts h)) (ye ?_) rfl)))))))
 unfold El
 rw[zx (ds:=[aa m ts,.tup (h.map .int)]) rfl (zkT A),q7]
 dsimp only
 rw[t5 (k8 A.short ⋯)]
 rfl
end
abbrev w8 :=zG (jh (iG (jn 3 YW (za (zc 0) (za (zc 1) (za (eC (.int 1)) zh))))) (xn false 3 (aF wk (za (zi 3 qb (za (zc 0) (za (zc 1) (za (eC (.int 1)) zh)))) zh))) (fQ [7] (lK (my (fK [7]) (λ_=>some [])))))
  (yf (zc 3))
def ZD:=aK 4 w8
def zc4:T.Pr 55 13 2 ZD:=by
 letI:KK:=⟨K,ad.dk⟩
 have G_need:=O2 T
 have X_need:=Qc T
 have H_kinds:=Zt T
 have a:∀ j,j∈[7]->j<13/\pQ K (oR ad) ad.x_StoneError (cR ad j) j:=by
  intro j f
  simp only[t9,g8,cP]at f
  rcases f with rfl
  .exact⟨by decide,.of T.y_NotJoined⟩
 have b:∀ (h:Nat->Option D) j d,fQ [7] h j≈d->Q18 K (.ref (cR ad j)) (.ref ad.x_StoneError)≈true:=λh j d e=>by rw[uh ad j];exact(a _ (O6 e)).2.exm
 refine Zh (N:=(Rw 55).N) (ps:=(Rw 55).ps) (T.d 55).fn (sc 55) (g:=w8) λl A outer s H E c=>?_
 unfold w8
 exact(zk (Lb (i:=2) rfl rfl rfl (sc 55).nd rfl rfl rfl T.g_StoneError (λk W E0 n=>(Zx (Lf (i:=3) (sc 55).nd rfl (Q0n rfl) (K6 rfl (T.z "str" ⋯) yb (Gv (Vo (X_need.mono ⋯) n c rfl (T.d 34).at_ (T.d 34).kp (T.d 34).bd (zb (ak 0) (zb (ak 1) (zb (zz zE) ze))))))))) (λk W=>(zv (yJ (m:=false) (i:=3) (sc 55).nd rfl (Q0n rfl) (zB zp zX rfl (T.z "str" ⋯) yb (zb (zq G_need c rfl (T.d 34) (zb (ak 0) (zb (ak 1) (zb (zz zE) ze)))) ze))))) (b _) (λok o=>(Yf (XY (W2 (zw (Qy (E:=λ_ _ _=>False) H_kinds (c.mono ⋯) rfl (T.d 46).at_ (T.d 46).kp (T.d 46).bd ok (zw (pv 2) yt)) yt))))) (Lh (Ld (Qn (Qg (ok:=_) (uh ad) a) Nx))))
  (zv (z4 (ak 3))))
abbrev vn :=zG (jh (iG (nZ 2 Zw (zc 0) (za (zc 1) zh))) (xn false 3 (eO 2 yw (zc 0) (za (zc 1) zh))) (fQ [7] (lK (my (fK [7]) (λ_=>some [])))))
  (yf (zc 3))
def ZH:=aK 4 vn
def zdd:T.Pr 56 15 2 ZH:=by
 letI:KK:=⟨K,ad.dk⟩
 have H_kinds:=Zt T
 have a:∀ j,j∈[7]->j<13/\pQ K (oR ad) ad.x_StoneError (cR ad j) j:=by
  intro j f
  simp only[t9,g8,cP]at f
  rcases f with rfl
  .exact⟨by decide,.of T.y_NotJoined⟩
 have b:∀ (h:Nat->Option D) j d,fQ [7] h j≈d->Q18 K (.ref (cR ad j)) (.ref ad.x_StoneError)≈true:=λh j d e=>by rw[uh ad j];exact(a _ (O6 e)).2.exm
 have G_Desk_say:=Vp T
 have X_Desk_say:=zda T
 refine Zh (N:=(Rw 56).N) (ps:=(Rw 56).ps) (T.d 56).fn (sc 56) (g:=vn) λl A outer s H E c=>?_
 unfold vn
 exact(zk (Lb (i:=2) rfl rfl rfl (sc 56).nd rfl rfl rfl T.g_StoneError (λk W E0 n=>(Zx (Lf (i:=3) (sc 56).nd rfl (Q0n rfl) (zrH T.dkc.cl T.mm_Desk_say (X_Desk_say.mono ⋯) n c T.mb_Desk_say (ak 0) (zb (ak 1) ze))))) (λk W=>(zv (yJ (m:=false) (i:=3) (sc 56).nd rfl (Q0n rfl) (Wq T.dkc.cl T.mm_Desk_say (G_Desk_say.mono ⋯) c T.mb_Desk_say (ak 0) (zb (ak 1) ze))))) (b _) (λok o=>(Yf (XY (W2 (zw (Qy (E:=λ_ _ _=>False) H_kinds (c.mono ⋯) rfl (T.d 46).at_ (T.d 46).kp (T.d 46).bd ok (zw (pv 2) yt)) yt))))) (Lh (Ld (Qn (Qg (ok:=_) (uh ad) a) Nx))))
  (zv (z4 (ak 3))))
section
variable {m:Int}{ts:zy}{h:Hl}{p:Int}{ps:zl}{w hh row:D}{x:Str}{ns:zl}
def TJ (a:xU [row]≈(.tup [.str x,.lst ns]))(c:(xO zV x).isSome=true):Zw [.obj w hh ps,row]=Xk [w,hh,.str x,.lst ns]:=by
 show vg [.v (.obj w hh ps),.v row,.no,.no]=_
 unfold vg
 refine(Bq (vK (σ':=[.v (.obj w hh ps),.v row,.v (.tup [.str x,.lst ns]),.no]) (zx (ds:=[row]) rfl a))).trans ?_
 refine(Bq (vK (σ':=[.v (.obj w hh ps),.v row,.v (.tup [.str x,.lst ns]),.v (.str x)]) (zH (x:=.tup [.str x,.lst ns]) (y:=.int 0) rfl rfl rfl))).trans ?_
 refine(Ew (wU (b:=true) (iB (x:=.str x) rfl (by show some (D.bl _)=_;rw[c])))).trans ?_
 exact pG (ds:=[w,hh,.str x,.lst ns]) (zt (iB (x:=.obj w hh ps) rfl rfl) (zt (iB (x:=.obj w hh ps) rfl rfl) (zt rfl (zt rfl zR))))
def lU {g:zM}{k:wV}(e:zc 2 (visG ρ)≈(.str x))(a:decide (x=y)=false:=by decide):dO di (aH (aq (zg wB (zc 2) (eC (.str y)))) g zL) k ρ=k ρ:=Bq ((jk (wU (b:=false) (zH e rfl (by rw[Yd,a])))).trans rfl)
def zrM:Xk [aa m ts,hD h,.str "need",.lst [.int p]]=YW [aa m ts,.int p,.int 1]:=by
 show YR (iV m ts h "need" [.int p])=_
 unfold YR
 refine(lU rfl).trans ((lU rfl).trans ((lU rfl).trans ((lU rfl).trans ((lU rfl).trans ((lU rfl).trans ?_)))))
 refine(Ew (b:=true) (wU (zH (x:=.str "need") rfl rfl (by rw[Yd,j3 rfl])))).trans ?_
 exact pG (ds:=[aa m ts,.int p,.int 1]) rfl
def Ug:fQ [7] (lK (my (fK [7]) (λ_=>some []))) 7≈(.lst [.int 7]):=rfl
def Kf {a:wV}{g k:zM}{N:vl}{R:D->Prop}(e:a ρ≈7)(q:R (.lst [.int 7])):(zG (jh a g (fQ [7] (lK (my (fK [7]) (λ_=>some []))))) k ρ).w N B C R:=by
 refine yE (wz ?_ q)
 unfold jh
 rw[e]
 show(match fQ [7] (lK (my (fK [7]) (λ_=>some []))) 7 with|some d=>aP.rt d|none=>.no)=_
 rw[Ug]
def KJ {a:wV}{g k:zM}{N:vl}{f:Nat->Option D}(e:a ρ=none)(b:g ρ=.nx ρ')(q:(k ρ').w N B C R):(zG (jh a g f) k ρ).w N B C R:=by
 refine zu (ρ':=ρ') ?_ q
 unfold jh
 rw[e]
 exact b
def Ks {r:jJ}{b:zW}{a:yL}(e:b (visG ρ)≈(.obj w hh ps))(d:a (visG ρ)≈[row]):iG (nZ 2 r b a) ρ=r [.obj w hh ps,row]:=by
 show nZ 2 r b a (visG ρ)=_
 unfold nZ
 rw[e,q7]
 show((a (visG ρ)).bind λc=>if ↥c+1=2 then r (.obj w hh ps::c)else none)=_
 rw[d]
 rfl
def Mg {r:x9}{c:zW}{a:yL}(e:c ρ≈(.obj w hh ps))(d:a ρ≈[row]):eO 2 r c a ρ=r [.obj w hh ps,row]:=by
 unfold eO
 rw[e,q7]
 show((a ρ).bind λb=>if ↥b+1=2 then r (.obj w hh ps::b)else none)=_
 rw[d]
 rfl
def zgc (ok:yd m ts) (q:m<=5) (h0:0<=p) (n:p<m):∃ r d,Dw "need " p≈(.str r)/\ZH [.obj (aa m ts) (hD h) ps,.str r]≈d/\ZD [aa m ts,.int p]≈d/\((∃ s,d=.str s)\/d=.lst [.int 7]):=by
 obtain⟨r,g,i⟩:=Fl (x:="need") (y:="need ") (a:=p) ⋯ h0 ∅
 have c:(xO zV "need").isSome=true:=by kernel_rfl
 have b:=(TJ (w:=aa m ts) (hh:=hD h) (ps:=ps) i c).trans zrM
 rcases zo1 ok q h0 n with ⟨k,j,l,o,f⟩|e
 .rw[f]at b
  refine⟨r,.str (nS k),g,w4 (ρ:=[.v (.obj (aa m ts) (hD h) ps),.v (.str r),.no,.no]) rfl ?_,w4 (ρ:=[.v (aa m ts),.v (.int p),.no,.no]) rfl ?_,.inl ⟨_,rfl⟩⟩
  .unfold vn
   exact KJ (ρ':=[.v (.obj (aa m ts) (hD h) ps),.v (.str r),.no,.v (.str (nS k))]) ((Ks rfl rfl).trans b) (vK ((Mg rfl rfl).trans (ask i c (zr0 j l o)))) (wz rfl rfl)
  .unfold w8
   exact KJ (ρ':=[.v (aa m ts),.v (.int p),.no,.v (.str (nS k))]) ((pG (ds:=[aa m ts,.int p,.int 1]) rfl).trans f) (vK (YM (ds:=[.int k]) (zt (zx (ds:=[aa m ts,.int p,.int 1]) rfl j) zR) (Za l ∅))) (wz rfl rfl)
 .rw[e]at b
  refine⟨r,.lst [.int 7],g,w4 (ρ:=[.v (.obj (aa m ts) (hD h) ps),.v (.str r),.no,.no]) rfl ?_,w4 (ρ:=[.v (aa m ts),.v (.int p),.no,.no]) rfl ?_,.inr rfl⟩
  .unfold vn
   exact Kf ((Ks rfl rfl).trans b) rfl
  .unfold w8
   exact Kf ((pG (ds:=[aa m ts,.int p,.int 1]) rfl).trans e) rfl
def zjy (h:(∃ s,d=.str s)\/d=.lst [.int 7]):ZL [d,d]≈(.bl true):=by
 rcases h with ⟨s,rfl⟩|rfl
 .refine w4 (m:=4) (g:=xI (oM 4 xI 1)) (ds:=[.str s,.str s]) (ρ:=[.v (.str s),.v (.str s),.no,.no]) rfl ?_
  unfold xI
  refine zu ((jk rfl).trans rfl) (zu ((jk rfl).trans rfl) (zu ((jk rfl).trans rfl) (yE (ZQ (c:=true) rfl (λ_=>wz (ye ?_) rfl) (λz=>by cases z)))))
  show wB (.str s) (.str s)=_
  rw[Yd,j3 rfl]
 .kernel_rfl
end
def Ax {c:zy}(ok:yd m c):(c.map pl).Pairwise λa b=>HT.lexLt b a=false:=by
 rw[CJ]
 refine ok.srt.imp λ{a b} h=>?_
 unfold cQ at h
 show HT.lexLt [b.1,b.2] [a.1,a.2]=false
 unfold HT.lexLt HT.lexLt HT.lexLt
 split
 .split
  .rfl
  .exact r0 ∅
 .exact r0 ∅
def zol (h:s.1<s.2):Yz s.1 s.2=s:=by
 unfold Yz
 rw[j5 ∅,t5 ∅]
def zoa {a b:Int}(h:a<b):Yz b a=(a,b):=by
 unfold Yz
 rw[t5 ∅,j5 ∅]
def Mr {c:zy}(ok:yd m c):c.Nodup:=ok.srt.imp λ{a b} h e=>by
 subst e
 unfold cQ at h
 omega
def znb {a b:Int}{c:zy}(ok:yd m (c++[(a,b)]))(h:↥c<60):FW [aa m c,.int b,.int a]≈(aa m (c++[(a,b)])):=by
 have r:=ok.rng (a,b) (r9 _ (t7.mpr rfl))
 dsimp only at r
 have f:(c++[(b,a)]).map (λs=>Yz s.1 s.2)=c++[(a,b)]:=by
  rw[r8]
  show _++[Yz b a]=_
  rw[zoa r.2.1,(qQ λs e=>zol (ok.rng s (rC _ e)).2.1).trans (ql c)]
 have g:Z8 [.int m,.lst ((c++[(b,a)]).map zd)]≈(aa m (c++[(a,b)])):=by
  refine zg0 ⟨ok.lo,ok.hi⟩ (λs e=>?_) (by rw[f];exact Mr ok) (by rw[j9];show ↥c+1<64;omega) (by rw[f]) (Ax ok)
  rcases o0.mp e with e|e
  .have:=ok.rng s (rC _ e)
   exact⟨⟨this.1,by omega⟩,⟨by omega,this.2.2⟩,by omega⟩
  .cases t7.mp e
   exact⟨⟨by show 0<=b;omega,r.2.2⟩,⟨r.1,by show a<m;omega⟩,by show b≠a;omega⟩
 refine w4 (ρ:=[.v (aa m c),.v (.int b),.v (.int a)]) rfl ?_
 unfold Ln
 refine zu (yp (d:=.non) (zx (ds:=[aa m c,.int b]) rfl (wa ⟨by omega,r.2.2⟩))) ?_
 refine zu (yp (d:=.non) (zx (ds:=[aa m c,.int a]) rfl (wa ⟨r.1,by omega⟩))) ?_
 refine wz (d:=aa m (c++[(a,b)])) (ye (zx (ds:=[.int m,.lst ((c++[(b,a)]).map zd)]) (zt rfl (zt (zH (x:=.lst (c.map zd)) (y:=.lst [zd (b,a)]) (vc (Ng (ds:=[.tup (c.map zd)]) rfl rfl)) (vc (VF (zt (mF (zt rfl (zt rfl zR)) (by show 2<=1000;decide)) zR) (by show 1<=1000;decide))) ?_) zR)) g)) rfl
 rw[vz (by rw[u5];show ↥c+1<=1000;omega),r8]
 rfl
def zij {a b:Int} {c:zy} (ok:yd m (c++[(a,b)])) (d:↥c<60):ZB [aa m c,h,.str "tie",.lst [.int b,.int a]]≈(.tup [aa m (c++[(a,b)]),h]):=by
 refine w4 (ρ:=[.v (aa m c),.v h,.v (.str "tie"),.v (.lst [.int b,.int a])]) rfl ?_
 unfold G7
 exact yo rfl (YL rfl (mF (zt (zx (ds:=[aa m c,.int b,.int a]) rfl (znb ok d)) (zt rfl zR)) (by show 2<=1000;decide)) rfl)
def zhU {a b:Int} {h:Hl} (A:wC m e h) (f:0<=a) (g:a<m) (l:0<=b) (j:h.sum+b<=300):ZB [aa m e,hD h,.str "put",.lst [.int a,.int b]]≈(.tup [aa m e,hD (YZ h a b)])/\wC m e (YZ h a b):=by
 have k:=A.len
 have n:=A.ok.hi
 have A':wC m e (YZ h a b):=⟨A.ok,A.few,by rw[N6];exact k,Nk A.nn l,by rw[Oo f ∅];exact j⟩
 have i:Es [aa m e,hD h,.int a,.int b]≈(hD (YZ h a b)):=by
  refine w4 (ρ:=[.v (aa m e),.v (hD h),.v (.int a),.v (.int b),.no]) rfl ?_
  unfold J6
  refine zu (yp (d:=.non) (zx (ds:=[aa m e,.int a]) rfl (wa ⟨f,g⟩))) ?_
  refine zu (vK (σ':=[.v (aa m e),.v (hD h),.v (.int a),.v (.int b),.v (hD (YZ h a b))]) (MP ∅ f ∅ rfl rfl rfl)) ?_
  refine yE (ZQ (c:=false) (pU (b:=true) (wU (zx (ds:=[aa m e,hD (YZ h a b)]) rfl ?_))) (λz=>by cases z) (λ_=>vE rfl (wz rfl rfl)))
  show(if (bu (.tup ((YZ h a b).map .int))&&decide (m<=1000)) then some (D.bl (xC m (hD (YZ h a b))))else none)=_
  rw[WS,ZU A.ok,show xC m (hD (YZ h a b))=true from Zb A'.len A'.nn A'.sum]
  rfl
 refine⟨?_,A'⟩
 refine w4 (ρ:=[.v (aa m e),.v (hD h),.v (.str "put"),.v (.lst [.int a,.int b])]) rfl ?_
 unfold G7
 exact yo rfl (yo rfl (yo rfl (YL rfl (mF (zt rfl (zt (zx (ds:=[aa m e,hD h,.int a,.int b]) rfl i) zR)) (by show 2<=1000;decide)) rfl)))
def jo (m:Int):Hl:=Q0a m.toNat 0
def zib {n:Int} (b:1<=n) (a:n<=5):ZB [aa 1 [],hD [0],.str "web",.lst [.int n]]≈(.tup [aa n [],hD (jo n)]):=by
 have:n=1\/n=2\/n=3\/n=4\/n=5:=by omega
 rcases this with rfl|rfl|rfl|rfl|rfl <;> kernel_rfl
def Hh (ns:zr):bA (hD ns)=true:=by
 show gU (ns.map .int)=true
 induction ns with
 |nil=>rfl
 |cons n ns a=>exact a
def Gz (m:Int)(a:zy):bA (aa m a)=true:=by
 have:gU (a.map zd)=true:=by
  induction a with
  |nil=>rfl
  |cons t a b=>exact b
 show(bA (.int m)&&(bA (.tup (a.map zd))&&true))=true
 rw[show bA (.tup (a.map zd))=gU (a.map zd)from rfl,this]
 rfl
def FP {f:Int} {d:zl} (i:xU [b]≈(.tup [.str x,.lst ns])) (g:(xO zV x).isSome=false) (k:x≠"back") (j:ZB [aa m c,hD h,.str x,.lst ns]≈(.tup [aa f a,hD e])) (l:↥d<1000) :
 xg (aa m c) (hD h) d [b]≈(aa f a,hD e,d++[.tup [aa m c,hD h]]):=by
 unfold xg
 dsimp only
 rw[i]
 dsimp only
 rw[g,j5 u7,j5 k,j]
 dsimp only
 rw[t5 (OJ (Gz _ _) (Hh _))]
 unfold xi
 dsimp only
 rw[t5 ⟨Gz _ _,Hh _,Gz _ _,Hh _,l⟩]
abbrev Yh :=iT (gJ 2 2 xg (.str "ok") (za (zg yh (zg yh (zg yh (eC (.str "put ")) (aF wk (za (zc 5) zh))) (eC (.str " "))) (aF wk (za (zc 6) zh))) zh))
abbrev Yi :=iT (gJ 2 2 xg (.str "ok") (za (zg yh (zg yh (zg yh (eC (.str "tie ")) (aF wk (za (zc 4) zh))) (eC (.str " "))) (aF wk (za (zc 3) zh))) zh))
abbrev wj :=zG (Ex 2)
  (zG (iT (gJ 2 2 xg (.str "ok") (za (zg yh (eC (.str "web ")) (aF wk (za (zg aB (zc 0) (eC (.int 0))) zh))) zh)))
  (zG (cA (bc (zg aB (zc 0) (eC (.int 1)))) (gZ 2 (ZJ (xE 3) (ZJ (xE 4) jd))) Yi)
  (zG (cA (WZ (za (zc 1) zh)) (gZ 2 (ZJ (xE 5) (ZJ (xE 6) jd))) Yh)
  (yf (zc 2)))))
def Ym:=aK 7 wj
abbrev dS (m:Int)(d i:zy)(h g:Hl)(z:Option (Addr × Addr × Addr))(e:zl)(f c b a:Sl):SE:=[.v (aa m d),.v (hD h),.k (aa m i) (hD g) ⟨z,e⟩,f,c,b,a]
def zjO {a:zy}(ok:yd m a)(i:Nat):yd m (a.take i):=⟨ok.lo,ok.hi,λt b=>ok.rng t (List.mem_of_mem_take b),ok.srt.sublist (CG i a)⟩
def Fz {R:KF} {i:Nat} {f:zW} {ρ:SE} {w:D} (e:ρ[i]?≈(.k w h ⟨z,c⟩)) (k:f (visG ρ)≈(.str r)) (j:R w h c [.str r]≈(b,d,a)) (g:ρ.set i (.k b d ⟨z,a⟩)=ρ'):iT (gJ i 2 R (.str "ok") (za f zh)) ρ=.nx ρ' :=
 J7 (My (ds:=[.str r]) e (zt k zR) rfl rfl j g)
def zk9 {h:Hl}{i:Nat}(e:h[i]?≈v):YZ (h.take i++Q0a (↥h-i) 0) (i:Int) v=h.take (i+1)++Q0a (↥h-(i+1)) 0:=by
 obtain⟨c,b⟩:=t8.mp e
 have a:(h.take i).length=i:=by rw[fW];omega
 have h0:aD (h.take i++Q0a (↥h-i) 0) (i:Int)=0:=by
  unfold aD
  rw[p5,show((i:Int)).toNat=i from rfl,p6 ∅,a,Bu,p8]
  split <;> rfl
 unfold YZ bU
 rw[h0,gb,show((i:Int)).toNat=i from rfl,List.set_append_right _ _ ∅,a,Bu,show ↥h-i=(↥h-(i+1))+1 by omega,l7,List.set_cons_zero,qL,e]
 show _=h.take i++[v]++_
 rw[qM]
 rfl
def Qh {h:Hl}(a:∀ v∈h,0<=v)(i k:Nat):(h.take i++Q0a k 0).sum<=h.sum:=by
 have e:h.sum=(h.take i).sum+(h.drop i).sum:=by rw[<-BV,List.take_append_drop]
 have z:(Q0a k (0:Int)).sum=0:=by
  induction k with
  |zero=>rfl
  |succ n b=>rw[l7,nj,b];rfl
 have:=pZ (ns:=h.drop i) λv c=>a v (List.mem_of_mem_drop c)
 rw[BV,z,e]
 omega
def zoN {h:Hl}(A:wC m c h)(I:m<=5)(O:h.sum<=6):∃ f,Ym [aa m c,hD h]≈(.obj (aa m c) (hD h) f):=by
 have ok:=A.ok
 have M:=A.len
 have G:=ok.lo
 have J:=A.few
 have q:(wj [.v (aa m c),.v (hD h),.no,.no,.no,.no,.no]).w bO bO bO (λd=>∃ f,d=.obj (aa m c) (hD h) f):=by
  unfold wj
  obtain⟨r,p,o⟩:=Fl (x:="web") (y:="web ") (a:=m) ⋯ ∅ ∅
  refine zu (ρ':=[.v (aa m c),.v (hD h),.k (aa 1 []) (hD [0]) ⟨none,[]⟩,.no,.no,.no,.no]) rfl ?_
  refine zu (ρ':=dS m c (c.take 0) h (jo m) none [.tup [aa 1 [],hD [0]]] .no .no .no .no) (Fz rfl p (FP o (by kernel_rfl) ⋯ (zib G I) ⋯) rfl) ?_
  refine yE (Xn (ds:=c.map zd) (λi ρ=>∃ f n l,ρ=dS m c (c.take i) h (jo m) none f n l .no .no/\↥f=i+1) rfl ⟨_,_,_,rfl,rfl⟩ ?_ ?_)
  .rintro i d ρ s ⟨f,n,l,rfl,j⟩
   rw[q4]at s
   obtain⟨⟨a,b⟩,k,rfl⟩:=u8.mp s
   have w:=(t8.mp k).1
   have K:=ok.rng (a,b) (k6 k)
   dsimp only at K
   refine⟨dS m c (c.take i) h (jo m) none f (.v (.int a)) (.v (.int b)) .no .no,rfl,?_⟩
   obtain⟨r,p,o⟩:=Ek (x:="tie") (y:="tie ") (a:=b) (b:=a) ⋯ ∅ ∅ ∅ ∅
   have E:c.take (i+1)=c.take i++[(a,b)]:=by rw[qL,k];rfl
   unfold Yi
   refine vE (ρ':=dS m c (c.take (i+1)) h (jo m) none (f++[.tup [aa m (c.take i),hD (jo m)]]) (.v (.int a)) (.v (.int b)) .no .no) (Fz rfl p (FP o (by kernel_rfl) ⋯ (zij (E ▸ zjO ok (i+1)) (by rw[fW];omega)) ∅) (by rw[E];rfl)) ⟨_,_,_,rfl,by rw[j9,j];rfl⟩
  .rintro ρ ⟨f,n,l,rfl,j⟩
   rw[u5,iK]
   rw[u5]at j
   have L:jo m=h.take 0++Q0a (↥h-0) 0:=by
    unfold jo
    rw[Ie,HR,Bt]
    congr 1
    omega
   rw[L]
   refine yE (Xn (ds:=ZE 0 (h.map .int)) (λi ρ=>∃ f u z,ρ=dS m c c h (h.take i++Q0a (↥h-i) 0) none f n l u z/\↥f=↥c+1+i) rfl ⟨_,_,_,rfl,j⟩ ?_ ?_)
   .rintro i d ρ s ⟨f,u,z,rfl,j⟩
    rw[vk,q4,i3,Option.map_map]at s
    obtain⟨v,k,rfl⟩:=u8.mp s
    have w:=(t8.mp k).1
    have F:=k6 k
    have C:=A.nn v F
    have N:=Y7 A.nn F
    refine⟨dS m c c h (h.take i++Q0a (↥h-i) 0) none f n l (.v (.int (i:Int))) (.v (.int v)),rfl,?_⟩
    obtain⟨r,p,o⟩:=Ek (x:="put") (y:="put ") (a:=(i:Int)) (b:=v) ⋯ ∅ ∅ C ∅
    have A1:wC m c (h.take i++Q0a (↥h-i) 0):=⟨ok,J,by rw[j9,fW,jt];omega,λx t=>by
     rcases o0.mp t with t|t
     .exact A.nn x (List.mem_of_mem_take t)
     .rw[R9 t];exact fH 0,qC (Qh A.nn i _) A.sum⟩
    have H:=Qh A.nn i (↥h-i)
    have B:=(zhU A1 (a:=(i:Int)) (b:=v) ∅ ∅ C ∅).1
    rw[zk9 k]at B
    unfold Yh
    exact vE (ρ':=dS m c c h (h.take (i+1)++Q0a (↥h-(i+1)) 0) none (f++[.tup [aa m c,hD (h.take i++Q0a (↥h-i) 0)]]) n l (.v (.int (i:Int))) (.v (.int v))) (Fz rfl p (FP o (by kernel_rfl) ⋯ B ∅) rfl) ⟨_,_,_,rfl,by rw[j9,j];rfl⟩
   .rintro ρ ⟨f,u,z,rfl,j⟩
    rw[wx,u5,iK,Bu]
    refine wz (ye rfl) ⟨f,?_⟩
    show D.obj (aa m c) (hD (h++[])) f=_
    rw[p7]
 obtain⟨d,e,f,rfl⟩:=uz (m:=7) (g:=wj) (ds:=[aa m c,hD h]) rfl q
 exact⟨f,e⟩
def zcs:T.Pr 57 15 2 Ym:=by
 letI:KK:=⟨K,ad.dk⟩
 have K_Desk_say:=zdh T
 have I_init:=zlm T
 refine Zh (N:=(Rw 57).N) (ps:=(Rw 57).ps) (T.d 57).fn (sc 57) (g:=wj) λb A outer s H E a=>?_
 unfold wj Yi Yh
 exact(zk (znS (i:=2) T.mkd (I_init.mono ⋯) a rfl T.g_Desk T.mb_Desk___init__ (sc 57).nd rfl (Q0n rfl))
  (zk (uB (Am T.dkc.cl T.mm_Desk_say (K_Desk_say.mono ⋯) a T.mb_Desk_say (pv 2) (zb (yr (zJ zI) (zB zp zX rfl (T.z "str" ⋯) yb (zb (xl (ak 0) (zz zE) (λ_ _=>rfl)) ze))) ze)))
  (zk (VG gF rfl (xY (xl (ak 0) (zz zE) (λ_ _=>rfl))) (Af rfl (Yl (wI (zT (i:=3) (sc 57).nd rfl (Q0n rfl))) (Yl (wI (zT (i:=4) (sc 57).nd rfl (Q0n rfl))) Be))) (zv (uB (Am T.dkc.cl T.mm_Desk_say (K_Desk_say.mono ⋯) a T.mb_Desk_say (pv 2) (zb (yr (yr (yr (zJ zI) (zB zp zX rfl (T.z "str" ⋯) yb (zb (ak 4) ze))) (zJ zI)) (zB zp zX rfl (T.z "str" ⋯) yb (zb (ak 3) ze))) ze)))))
  (zk (VG gF rfl (Gq rfl (T.z "enumerate" ⋯) YK (zb (ak 1) ze)) (Af rfl (Yl (wI (zT (i:=5) (sc 57).nd rfl (Q0n rfl))) (Yl (wI (zT (i:=6) (sc 57).nd rfl (Q0n rfl))) Be))) (zv (uB (Am T.dkc.cl T.mm_Desk_say (K_Desk_say.mono ⋯) a T.mb_Desk_say (pv 2) (zb (yr (yr (yr (zJ zI) (zB zp zX rfl (T.z "str" ⋯) yb (zb (ak 5) ze))) (zJ zI)) (zB zp zX rfl (T.z "str" ⋯) yb (zb (ak 6) ze))) ze)))))
  (zv (z4 (ak 2)))))))
abbrev Ar :=zG (xn false 9 (zi 3 pD (za (zc 3) (za (zc 7) (za (zc 8) zh)))))
  (zG (xn false 10 (eC (.str "none")))
  (zG (aH (aq (zg VP (zc 9) (eC .non))) (xn false 10 (aF wk (za (zc 9) zh))) zL)
  (aH (aq (zg bW (eO 2 yw (zc 5) (za (zg yh (zg yh (zg yh (eC (.str "far ")) (aF wk (za (zc 7) zh))) (eC (.str " "))) (aF wk (za (zc 8) zh))) zh)) (zc 10))) (yf (eC (.bl false))) zL)))
abbrev VA :=zG (aH (dg (aq (zg bW (eO 2 yw (zc 5) (za (eC (.str "heap")) zh)) (zi 1 yO (za (zc 4) zh)))) (aq (zg bW (eO 2 yw (zc 5) (za (eC (.str "reached")) zh)) (zi 1 yO (za (zi 2 wq (za (zc 3) (za (zc 4) zh))) zh))))) (yf (eC (.bl false))) zL)
  (zG (aH (aq (zg bW (eO 2 yw (zc 5) (za (eC (.str "ties")) zh)) (zi 1 yO (za (xm (aL (bc (zg aB (zc 3) (eC (.int 1)))) b2 yN (zg yh (zg yh (aF wk (za (zc 0) zh)) (eC (.str "-"))) (aF wk (za (zc 1) zh))))) zh)))) (yf (eC (.bl false))) zL)
  (zG (aH (aq (zg bW (eO 2 yw (zc 5) (za (eC (.str "steps")) zh)) (zi 1 yO (za (xm (aL (bc (zi 2 xh (za (zc 3) (za (zc 4) zh)))) b2 yN (zg yh (zg yh (aF wk (za (zc 0) zh)) (eC (.str ">"))) (aF wk (za (zc 1) zh))))) zh)))) (yf (eC (.bl false))) zL)
  (zG (xn false 7 (zg vt (zi 2 z9 (za (zc 1) (za (zg yh (eC (.int 20)) (zc 6)) zh))) (zc 2)))
  (zG (aH (aq (zg bW (eO 2 yw (zc 5) (za (zg yh (eC (.str "most ")) (aF wk (za (zc 7) zh))) zh)) (aF wk (za (zi 3 vT (za (zc 3) (za (zc 4) (za (zc 7) zh)))) zh)))) (yf (eC (.bl false))) zL)
  (zG (aH (xF (aq (zi 2 ZL (za (zi 2 ZH (za (zc 5) (za (zg yh (eC (.str "need ")) (aF wk (za (zc 7) zh))) zh))) (za (zi 2 ZD (za (zc 3) (za (zc 7) zh))) zh))))) (yf (eC (.bl false))) zL)
  (Xm Wy (za (zc 2) zh) (xE 8) Ar))))))
abbrev Ba :=zG (xn false 2 (zg yh (eC (.int 1)) (zg vt (zg vO (zc 1) (eC (.int 64))) (eC (.int 5)))))
  (zG (xn false 3 (zi 2 wK (za (zc 2) (za (zg vO (zc 1) (eC (.int 320))) zh))))
  (zG (aH (aq (zg wB (zg vt (zc 1) (eC (.int 4))) (eC (.int 1)))) (xn false 3 (zi 2 xP (za (zc 2) (za (zg vO (zc 1) (eC (.int 320))) zh)))) zL)
  (zG (xn false 4 (zi 3 wm (za (zc 2) (za (zg yh (zg V1 (zi 2 z9 (za (zc 1) (za (eC (.int 9)) zh))) (eC (.int 2))) (zg vt (zc 1) (eC (.int 2)))) (za (eC (.int 6)) zh)))))
  (zG (xn false 5 (zi 2 Ym (za (zc 3) (za (zc 4) zh))))
  (zG (Xm Wy (za (eC (.int 2)) zh) (xE 6) VA)
  (aH (aq (zg bW (eO 2 yw (zc 5) (za (eC (.str "shown")) zh)) (zi 3 v7 (za (zc 3) (za (zc 4) (za (eC (.str " ; ")) zh)))))) (yf (eC (.bl false))) zL))))))
abbrev uQ :=zG (cA (bc (zg yh (eY gf (zc 0) VU (XM (eC (.int 4)))) (xm (yX (za (eC (.int 0)) (za (eC (.int 7)) zh)))))) (xE 1) Ba)
  (yf (eC (.bl true)))
def K5:=aK 11 uQ
def zoC (c k:Int):cC c k<2147483647:=by
 have:cC c k<=_:=Int.ediv_le_self 8 (mX ((((c%2147483647+977*k+1)*48271%2147483647)*((c%2147483647+977*k+1)*48271%2147483647)%2147483629+40692*(k+3))*69621) (show(2147483647:Int)≠0 by decide))
 exact Int.lt_of_le_of_lt this (Cm _ ⋯)
def MF {a n:Nat}(d:a<=7)(b:n<=5):a^n<sizeLine:=by
 have c:a^n<=7^5:=k8 (Nat.pow_le_pow_left d n) (Nat.pow_le_pow_right ⋯ b)
 exact l6 c (by rw[fZ];decide)
def Yc {f g:zW}(a:f ρ≈(.str s))(b:g ρ≈(.str s)):aq (zg bW f g) ρ≈false:=wU (zH a b (by show some (D.bl (!decide (s=s)))=_;rw[j3 rfl];rfl))
def Uk {f g:vL}(a:f ρ≈false)(b:g ρ≈false):dg f g ρ≈false:=by
 unfold dg
 rw[a,q7,j5 u7,b]
def pB {N:vl}{t:vL}{g k:zM}(e:t (visG ρ)≈false)(q:(k ρ).w N B C R):(zG (aH t g zL) k ρ).w N B C R:=yE (ZQ (c:=false) e (λz=>by cases z) (λ_=>vE rfl q))
section
variable {script:D}{z m t p q:Int}{ts:zy}{h:Hl}{ps:zl}{o6 o7 o8 o9 o10:Sl}{N B C:vl}{R:D->Prop}
abbrev lS (script:D)(z m:Int)(ts:zy)(h:Hl)(ps:zl)(o6 o7 o8 o9 o10:Sl):SE:=[.v script,.v (.int z),.v (.int m),.v (aa m ts),.v (hD h),.v (.obj (aa m ts) (hD h) ps),o6,o7,o8,o9,o10]
def W0 {f:zW}(g:zc 5 ρ≈(.obj (aa m ts) (hD h) ps))(e:f ρ≈(.str r))(d:xU [.str r]≈(.tup [.str x,.lst ns]))(b:(xO zV x).isSome=true)(c:xu [aa m ts,hD h,.str x,.lst ns]≈a):eO 2 yw (zc 5) (za f zh) ρ≈a:=(Mg g (zt e zR)).trans (ask d b c)
def Us (A:wC m ts h)(o:m<=5)(d:0<=p/\p<m)(e:0<=q/\q<m)(l:∀ o9 o10,N (lS script z m ts h ps o6 (.v (.int p)) (.v (.int q)) o9 o10)):(Ar (lS script z m ts h ps o6 (.v (.int p)) (.v (.int q)) o9 o10)).w N B C R:=by
 obtain⟨r,g,j⟩:=Ek (x:="far") (y:="far ") (a:=p) (b:=q) ⋯ d.1 ∅ e.1 ∅
 unfold Ar
 refine zu (vK (σ':=lS script z m ts h ps o6 (.v (.int p)) (.v (.int q)) (.v (wE (VW ts p q))) o10) (zx (ds:=[aa m ts,.int p,.int q]) rfl (LC A.ok d e))) ?_
 refine zu (vK (σ':=lS script z m ts h ps o6 (.v (.int p)) (.v (.int q)) (.v (wE (VW ts p q))) (.v (.str "none"))) rfl) ?_
 have n:=K9 (q:=q) A.ok d
 have f:=Tv (h:=h) A.ok d e
 refine zu (ρ':=lS script z m ts h ps o6 (.v (.int p)) (.v (.int q)) (.v (wE (VW ts p q))) (.v (.str (sS (VW ts p q))))) ?_ (ZQ (c:=false) (Yc (W0 rfl g j (by kernel_rfl) f) rfl) (λz=>by cases z) (λ_=>vE rfl (l _ _)))
 cases i:VW ts p q with
 |none=>exact(jk rfl).trans rfl
 |some k =>
  have:=n k i
  exact(zp8 rfl).trans (vK (Za this.1 ∅))
def U7 (A:wC m ts h)(L:m<=5)(hs:h.sum<=6)(W:∀ o7 o8 o9 o10,N (lS script z m ts h ps (.v (.int t)) o7 o8 o9 o10)):(VA (lS script z m ts h ps (.v (.int t)) o7 o8 o9 o10)).w N B C R:=by
 have ok:=A.ok
 have Y:=ok.lo
 have I:=A.len
 have r:∀ x∈([(Q0b "heap"),"reached","ties","steps","most"]:zF),(xO zV x).isSome=true:=by
  intro x f
  simp only[t9,g8,cP]at f
  rcases f with rfl|rfl|rfl|rfl|rfl <;> kernel_rfl
 have J:=A.nH
 obtain⟨T,u,_⟩:=zgt ok I A.nn ∅ (MF ∅ ∅)
 obtain⟨ns,j⟩:∃ ns:zr,ns=((Q0g m.toNat).filter λk:Nat=>tM T (k:Int)).map λk:Nat=>(0:Int)+(k:Int):=⟨_,rfl⟩
 have u:wq [aa m ts,hD h]≈(.lst (ns.map .int)):=by rw[u,j,l4];rfl
 have H:vD ns:=⟨by rw[j,u5];exact k8 (Cg _ _) (by rw[kE];omega),λn K=>by
  rw[j]at K
  obtain⟨k,P,rfl⟩:=g9.mp K
  have:=p4.mp (eU.mp P).1
  omega⟩
 have e:∀ {d:D} {o:zr},vD o->wW d≈(o.map .int)->Xr [d]≈(.int (↥o:Int))->yO [d]≈(.str (YD (o.map nS))):=λ{d o} n G w=>We G w (λx f=>ZO (n.rng x f).1 (n.rng x f).2) (k8 n.few ⋯) (λx f=>k8 (Wr (n.rng x f).1 (n.rng x f).2).2 ⋯)
 obtain⟨p,q⟩:∃ p:Int,cC z (20+t)%m=p:=⟨_,rfl⟩
 have l:=Ht ∅ q
 unfold VA
 refine pB (Uk (Yc (W0 (x:="heap") rfl rfl (by kernel_rfl) (r _ (by simp)) (U3 J ∅)) (zx (ds:=[hD h]) rfl (e J rfl (by show some (D.int _)=_;rw[u5])))) (Yc (W0 (x:="reached") rfl rfl (by kernel_rfl) (r _ (by simp)) (zhw u H H.few)) (zx (ds:=[.lst (ns.map .int)]) (zt (zx (ds:=[aa m ts,hD h]) rfl u) zR) (e H rfl (by show some (D.int _)=_;rw[u5]))))) ?_
 refine pB (Yc (W0 (x:="ties") rfl rfl (by kernel_rfl) (r _ (by simp)) (Uw ok A.few)) (Rc rfl ⋯ (Nq ok) (k8 A.few ⋯))) ?_
 refine pB (Yc (W0 (x:="steps") rfl rfl (by kernel_rfl) (r _ (by simp)) (znY A)) (Rc (xs:=fP m ts h) ?_ ⋯ (MT ok) (NQ ok))) ?_
 .show((zi 2 xh (za (zc 3) (za (zc 4) zh)) (visG (lS script z m ts h ps (.v (.int t)) o7 o8 o9 o10))).bind wW)=_
  rw[zx (ds:=[aa m ts,hD h]) rfl (Lk A)]
  rfl
 refine zu (vK (σ':=lS script z m ts h ps (.v (.int t)) (.v (.int p)) o8 o9 o10) (zH (x:=.int (cC z (20+t))) (y:=.int m) (zx (ds:=[.int z,.int (20+t)]) rfl rfl) rfl (by rw[wg ∅,q]))) ?_
 obtain⟨M,O,⟨g,X,S⟩,_⟩:=zfL ok I A.nn ∅ (MF ∅ ∅) l
 have s:=X.ok (vS ok) ⟨by omega,A.nn,fH _⟩
 have M0:0<=M:=S ▸ vo s.nn p
 have M1:M<=300:=by
  have:=Y7 s.nn (Pz (h:=g) l.1 (by have:=s.len;omega))
  have:=s.sum
  omega
 obtain⟨Z,v,F⟩:=Fl (x:="most") (y:="most ") (a:=p) ⋯ l.1 ∅
 refine pB (Yc (W0 rfl v F (r _ (by simp)) (zp0 O M0 M1)) (YM (ds:=[.int M]) (zt (zx (ds:=[aa m ts,hD h,.int p]) rfl O) zR) (Za M0 ∅))) ?_
 obtain⟨Q,d,E,G,w,V⟩:=zgc (h:=h) (ps:=ps) ok L l.1 l.2
 refine pB (pU (b:=true) (wU (zx (ds:=[d,d]) (zt (zx (ds:=[.obj (aa m ts) (hD h) ps,.str Q]) (zt rfl (zt E zR)) G) (zt (zx (ds:=[aa m ts,.int p]) rfl w) zR)) (zjy V)))) ?_
 refine Ve (lo:=0) (c:=m.toNat) (λi ρ=>∃ o8 o9 o10,ρ=lS script z m ts h ps (.v (.int t)) (.v (.int p)) o8 o9 o10) (Y1 ok) ⟨_,_,_,rfl⟩ ?_ ?_
 .rintro i ρ U ⟨o8,o9,o10,rfl⟩
  exact⟨lS script z m ts h ps (.v (.int t)) (.v (.int p)) (.v (.int (0+(i:Int)))) o9 o10,rfl,Us A L l (zoX U rfl) λ_ _=>⟨_,_,_,rfl⟩⟩
 .rintro ρ ⟨o8,o9,o10,rfl⟩
  exact W _ _ _ _
def zoV (b:1<=m)(f:m<=5)(a:ts.Sublist (wo m.toNat)):yd m ts:=by
 obtain⟨d,c,_⟩:=WY m.toNat ∅
 exact⟨b,by omega,λt e=>by have:=c t (a.subset e);omega,d.sublist a⟩
def P8:zy:=(Q0g 8).flatMap λa:Nat=>(Q0g a).map λb:Nat=>((b:Int),(a:Int))
def zkm (ok:yd m ts):↥ts<=28:=by
 have b:=ok.hi
 refine k8 ((Mr ok).length_le_of_subset (l₂:=P8) λt a=>?_) (by decide +kernel)
 have r:=ok.rng t a
 unfold P8
 rw[List.mem_flatMap]
 refine⟨t.2.toNat,p4.mpr ∅,g9.mpr ⟨t.1.toNat,p4.mpr ∅,gD ?_ ?_⟩⟩
 .show((t.1.toNat:Nat):Int)=t.1
  omega
 .show((t.2.toNat:Nat):Int)=t.2
  omega
def zpT {f:Sl}(G:∀ j f e b o6 o7 o8 o9 o10,N [.v script,.v (.int z),j,f,e,b,o6,o7,o8,o9,o10]):(Ba [.v script,.v (.int z),j,f,e,b,o6,o7,o8,o9,o10]).w N B C R:=by
 obtain⟨m,F⟩:∃ m:Int,1+z/64%5=m:=⟨_,rfl⟩
 obtain⟨J,I⟩:=Ht (a:=z/64) (m:=5) ⋯ rfl
 have l:1<=m:=by omega
 have g:m<=5:=by omega
 have p:vO (.int z) (.int 320)≈(.int (z/320)):=WB ⋯ ⋯
 obtain⟨q,D,o,_⟩:=zce (n:=m) (c:=z/320) l ∅
 obtain⟨r,v,E⟩:=Rh (n:=m) (c:=z/320) l ∅
 obtain⟨h,t,u,k,d⟩:=zfY (n:=m) (c:=cC z 9*2+z%2) (mo:=6) ∅ ∅ ⋯ ⋯
 unfold Ba
 refine zu (vK (σ':=[.v script,.v (.int z),.v (.int m),f,e,b,o6,o7,o8,o9,o10]) (zH (x:=.int 1) (y:=.int (z/64%5)) (z:=.int m) rfl (zH (x:=.int (z/64)) (y:=.int 5) (zH (x:=.int z) (y:=.int 64) rfl rfl (WB ⋯ ⋯)) rfl (wg ⋯)) (by rw[<-F];rfl))) ?_
 refine zu (vK (σ':=[.v script,.v (.int z),.v (.int m),.v (aa m q),e,b,o6,o7,o8,o9,o10]) (zx (ds:=[.int m,.int (z/320)]) (zt rfl (zt (zH (x:=.int z) (y:=.int 320) rfl rfl p) zR)) D)) ?_
 have rest:∀ ts,yd m ts->(zG (xn false 4 (zi 3 wm (za (zc 2) (za (zg yh (zg V1 (zi 2 z9 (za (zc 1) (za (eC (.int 9)) zh))) (eC (.int 2))) (zg vt (zc 1) (eC (.int 2)))) (za (eC (.int 6)) zh)))))
  (zG (xn false 5 (zi 2 Ym (za (zc 3) (za (zc 4) zh))))
  (zG (Xm Wy (za (eC (.int 2)) zh) (xE 6) VA)
  (aH (aq (zg bW (eO 2 yw (zc 5) (za (eC (.str "shown")) zh)) (zi 3 v7 (za (zc 3) (za (zc 4) (za (eC (.str " ; ")) zh)))))) (yf (eC (.bl false))) zL))) [.v script,.v (.int z),.v (.int m),.v (aa m ts),e,b,o6,o7,o8,o9,o10]).w N B C R:=λts ok=>by
  have A:wC m ts h:=⟨ok,zkm ok,u,k,by omega⟩
  obtain⟨ps,w⟩:=zoN A g d
  refine zu (vK (σ':=[.v script,.v (.int z),.v (.int m),.v (aa m ts),.v (hD h),b,o6,o7,o8,o9,o10]) (zx (ds:=[.int m,.int (cC z 9*2+z%2),.int 6]) (zt rfl (zt (zH (x:=.int (cC z 9*2)) (y:=.int (z%2)) (zH (x:=.int (cC z 9)) (y:=.int 2) (zx (ds:=[.int z,.int 9]) rfl rfl) rfl (znC (Int.lt_of_lt_of_le ⋯ (zdz z 9)) (Int.lt_trans (zoC z 9) ⋯))) (zH (x:=.int z) (y:=.int 2) rfl rfl (wg ⋯)) rfl) (zt rfl zR))) t)) ?_
  refine zu (vK (σ':=lS script z m ts h ps o6 o7 o8 o9 o10) (zx (ds:=[aa m ts,hD h]) rfl w)) ?_
  refine yE (Ve (lo:=0) (c:=2) (λi ρ=>∃ o6 o7 o8 o9 o10,ρ=lS script z m ts h ps o6 o7 o8 o9 o10) (show Wy [.int 2]≈(ZS 0 2) by kernel_rfl) ⟨_,_,_,_,_,rfl⟩ ?_ ?_)
  .rintro i ρ H ⟨o6,o7,o8,o9,o10,rfl⟩
   exact⟨lS script z m ts h ps (.v (.int (0+(i:Int)))) o7 o8 o9 o10,rfl,U7 A g d λ_ _ _ _=>⟨_,_,_,_,_,rfl⟩⟩
  .rintro ρ ⟨o6,o7,o8,o9,o10,rfl⟩
   refine ZQ (c:=false) (Yc (s:=pK m ts h) (W0 (x:="shown") rfl rfl (by kernel_rfl) (by kernel_rfl) (zo2 A)) (zx (ds:=[aa m ts,hD h,.str " ; "]) rfl ((znE A ⋯).trans (by rw[zjM A])))) (λz=>by cases z) (λ_=>vE rfl (G _ _ _ _ _ _ _ _ _))
 refine yE (ZQ (c:=decide (z%4=1)) (wU (zH (x:=.int (z%4)) (y:=.int 1) (zH (x:=.int z) (y:=.int 4) rfl rfl (wg ⋯)) rfl rfl)) (λ_=>?_) (λ_=>vE rfl (rest q o)))
 exact vE (vK (σ':=[.v script,.v (.int z),.v (.int m),.v (aa m r),e,b,o6,o7,o8,o9,o10]) (zx (ds:=[.int m,.int (z/320)]) (zt rfl (zt (zH (x:=.int z) (y:=.int 320) rfl rfl p) zR)) v)) (rest r (zoV l g E))
end
def zkl (ns:zr)(q:↥ns<=63):K5 [.scr ns]≈(.bl true):=by
 refine w4 (ρ:=[.v (.scr ns),.no,.no,.no,.no,.no,.no,.no,.no,.no,.no]) rfl ?_
 unfold uQ
 obtain⟨m,o⟩:∃ m:zr,(cu ns none (some 4))++[0,7]=m:=⟨_,rfl⟩
 refine yE (Xn (ds:=m.map .int) (λi ρ=>∃ n h j f b k l g c a,ρ=[.v (.scr ns),n,h,j,f,b,k,l,g,c,a]) ?_ ⟨_,_,_,_,_,_,_,_,_,_,rfl⟩ ?_ ?_)
 .have e:yh (.lst ((cu ns none (some 4)).map D.int)) (.lst [.int 0,.int 7])≈(.lst (m.map .int)):=by
   rw[vz (by rw[u5];have:=zkG ns none (some 4);simp only[g5,BW];omega),<- o,r8]
   rfl
  show(yh (.lst ((cu ns none (some 4)).map D.int)) (.lst [.int 0,.int 7])).bind wW=_
  rw[e]
  rfl
 .rintro i d ρ p ⟨n,h,j,f,b,k,l,g,c,a,rfl⟩
  rw[q4]at p
  obtain⟨z,r,rfl⟩:=u8.mp p
  exact⟨[.v (.scr ns),.v (.int z),h,j,f,b,k,l,g,c,a],rfl,zpT λ_ _ _ _ _ _ _ _ _=>⟨_,_,_,_,_,_,_,_,_,_,rfl⟩⟩
 .rintro ρ ⟨n,h,j,f,b,k,l,g,c,a,rfl⟩
  exact wz rfl rfl
def zp2 (T:Txt P w K mg base ad):wt P w K mg base aV 40 (ad.f 58) (ad.e 58) (Rw 58).ps (pM K):=by
 letI:KK:=⟨K,ad.dk⟩
 have G_far:=Gb T
 have G_steps_from:=Yg T
 have G_most_at:=Xx T
 have G_reached:=XI T
 have G__law_stir:=vC T
 have G__law_web_by:=Zq T
 have G__law_joined_by:=XU T
 have G__law_heap_by:=VO T
 have G__law_same:=zcu T
 have G__law_text:=zcB T
 have G__law_words:=za4 T
 have G__law_need:=zc4 T
 have G__law_said:=zdd T
 have G__law_desk:=zcs T
 have G_Desk_say:=Vp T
 refine(zqh (p:=K5) (Zh (N:=(Rw 58).N) (ps:=(Rw 58).ps) (T.d 58).fn (sc 58) (g:=uQ) λb A outer s H E a=>?_) zkl).mono (j:=16) ⋯
 unfold uQ Ba VA Ar
 exact(zk (VG gF rfl (xY (yr (Hi (ak 0) GJ (Hd (zz zE))) (vp (Yr (zb (zz zE) (zb (zz zE) ze)))))) (wI (zT (i:=1) (sc 58).nd rfl (Q0n rfl))) (zk (yJ (m:=false) (i:=2) (sc 58).nd rfl (Q0n rfl) (yr (zz zE) (pX (Bf (ak 1) (zz zE)) (zz zE))))
  (zk (yJ (m:=false) (i:=3) (sc 58).nd rfl (Q0n rfl) (zq G__law_joined_by a rfl (T.d 50) (zb (ak 2) (zb (Bf (ak 1) (zz zE)) ze))))
  (zk (xq (zQ (xK a) yK (z5 _) (pX (ak 1) (zz zE)) (zz zE)) (zv (yJ (m:=false) (i:=3) (sc 58).nd rfl (Q0n rfl) (zq G__law_web_by a rfl (T.d 49) (zb (ak 2) (zb (Bf (ak 1) (zz zE)) ze))))) zY)
  (zk (yJ (m:=false) (i:=4) (sc 58).nd rfl (Q0n rfl) (zq G__law_heap_by a rfl (T.d 51) (zb (ak 2) (zb (yr (Mx (zq G__law_stir a rfl (T.d 48) (zb (ak 1) (zb (zz zE) ze))) (zz zE)) (pX (ak 1) (zz zE))) (zb (zz zE) ze)))))
  (zk (yJ (m:=false) (i:=5) (sc 58).nd rfl (Q0n rfl) (zq G__law_desk a rfl (T.d 57) (zb (ak 3) (zb (ak 4) ze))))
  (zk (Hu gF rfl rfl (T.z "range" ⋯) (zb (zz zE) ze) (wI (zT (i:=6) (sc 58).nd rfl (Q0n rfl))) (zk (xq (oK (uM (zQ VJ Zr (z5 _) (Wq T.dkc.cl T.mm_Desk_say (G_Desk_say.mono ⋯) a T.mb_Desk_say (ak 5) (zb (zJ zI) ze)) (zq G__law_words a rfl (T.d 54) (zb (ak 4) ze))) (Ae (zQ VJ Zr (z5 _) (Wq T.dkc.cl T.mm_Desk_say (G_Desk_say.mono ⋯) a T.mb_Desk_say (ak 5) (zb (zJ zI) ze)) (zq G__law_words a rfl (T.d 54) (zb (zq G_reached a rfl (T.d 26) (zb (ak 3) (zb (ak 4) ze))) ze)))))) (zv (z4 (il Vn))) zY)
  (zk (xq (zQ VJ Zr (z5 _) (Wq T.dkc.cl T.mm_Desk_say (G_Desk_say.mono ⋯) a T.mb_Desk_say (ak 5) (zb (zJ zI) ze)) (zq G__law_words a rfl (T.d 54) (zb (vp (Yt (L:=["a","b"]) (M:=["script","cell","many","web","heap","desk","turn","place","other","ties","due"]) rfl (wy (by rfl) (by rfl) (by rfl) (by with_unfolding_all rfl) (by rfl) (by rfl) (by kernel_rfl) yI) (xY (xl (ak 3) (zz zE) (λ_ _=>rfl))) JN Jx (λ_ _ _ _=>(uW rfl (Yb (zT (i:=0) Aj rfl (Q0n rfl) (.inr rfl)) (Yb (zT (i:=1) Aj rfl (Q0n rfl) (.inr rfl)) Bo)))) (λ_ _ _ _=>(yr (yr (zB zp zX rfl (T.z "str" ⋯) yb (zb (ak 0) ze)) (zJ zI)) (zB zp zX rfl (T.z "str" ⋯) yb (zb (ak 1) ze)))))) ze))) (zv (z4 (il Vn))) zY)
  (zk (xq (zQ VJ Zr (z5 _) (Wq T.dkc.cl T.mm_Desk_say (G_Desk_say.mono ⋯) a T.mb_Desk_say (ak 5) (zb (zJ zI) ze)) (zq G__law_words a rfl (T.d 54) (zb (vp (Yt (L:=["a","b"]) (M:=["script","cell","many","web","heap","desk","turn","place","other","ties","due"]) rfl (wy (by rfl) (by rfl) (by rfl) (by with_unfolding_all rfl) (by rfl) (by rfl) (by kernel_rfl) yI) (xY (zq G_steps_from a rfl (T.d 22) (zb (ak 3) (zb (ak 4) ze)))) JN Jx (λ_ _ _ _=>(uW rfl (Yb (zT (i:=0) Aj rfl (Q0n rfl) (.inr rfl)) (Yb (zT (i:=1) Aj rfl (Q0n rfl) (.inr rfl)) Bo)))) (λ_ _ _ _=>(yr (yr (zB zp zX rfl (T.z "str" ⋯) yb (zb (ak 0) ze)) (zJ zI)) (zB zp zX rfl (T.z "str" ⋯) yb (zb (ak 1) ze)))))) ze))) (zv (z4 (il Vn))) zY)
  (zk (yJ (m:=false) (i:=7) (sc 58).nd rfl (Q0n rfl) (pX (zq G__law_stir a rfl (T.d 48) (zb (ak 1) (zb (yr (zz zE) (ak 6)) ze))) (ak 2)))
  (zk (xq (zQ VJ Zr (z5 _) (Wq T.dkc.cl T.mm_Desk_say (G_Desk_say.mono ⋯) a T.mb_Desk_say (ak 5) (zb (yr (zJ zI) (zB zp zX rfl (T.z "str" ⋯) yb (zb (ak 7) ze))) ze)) (zB zp zX rfl (T.z "str" ⋯) yb (zb (zq G_most_at a rfl (T.d 25) (zb (ak 3) (zb (ak 4) (zb (ak 7) ze)))) ze))) (zv (z4 (il Vn))) zY)
  (zk (xq (mH (mD (zq G__law_same a rfl (T.d 52) (zb (zq G__law_said a rfl (T.d 56) (zb (ak 5) (zb (yr (zJ zI) (zB zp zX rfl (T.z "str" ⋯) yb (zb (ak 7) ze))) ze))) (zb (zq G__law_need a rfl (T.d 55) (zb (ak 3) (zb (ak 7) ze))) ze))))) (zv (z4 (il Vn))) zY)
  (zv (Hu gF rfl rfl (T.z "range" ⋯) (zb (ak 2) ze) (wI (zT (i:=8) (sc 58).nd rfl (Q0n rfl))) (zk (yJ (m:=false) (i:=9) (sc 58).nd rfl (Q0n rfl) (zq G_far a rfl (T.d 16) (zb (ak 3) (zb (ak 7) (zb (ak 8) ze)))))
  (zk (yJ (m:=false) (i:=10) (sc 58).nd rfl (Q0n rfl) (zJ zI))
  (zk (xq (zQ Q6 RJ (z5 _) (ak 9) (Wo Wh)) (zv (yJ (m:=false) (i:=10) (sc 58).nd rfl (Q0n rfl) (zB zp zX rfl (T.z "str" ⋯) yb (zb (ak 9) ze)))) zY)
  (zv (xq (zQ VJ Zr (z5 _) (Wq T.dkc.cl T.mm_Desk_say (G_Desk_say.mono ⋯) a T.mb_Desk_say (ak 5) (zb (yr (yr (yr (zJ zI) (zB zp zX rfl (T.z "str" ⋯) yb (zb (ak 7) ze))) (zJ zI)) (zB zp zX rfl (T.z "str" ⋯) yb (zb (ak 8) ze))) ze)) (ak 10)) (zv (z4 (il Vn))) zY))))))))))))))
  (zv (xq (zQ VJ Zr (z5 _) (Wq T.dkc.cl T.mm_Desk_say (G_Desk_say.mono ⋯) a T.mb_Desk_say (ak 5) (zb (zJ zI) ze)) (zq G__law_text a rfl (T.d 53) (zb (ak 3) (zb (ak 4) (zb (zJ zI) ze))))) (zv (z4 (il Vn))) zY)))))))))
  (zv (z4 (il Vn))))
end
def all_mk {l:W.OpenLaw} {w:Q0k} {K:zA} {h:Heap} {mg:wA} {fa:Addr} (X:K.In h) (G:h.Ns Q0h mg) (hfa:mg "law"≈(.ref fa)) {tk0:Tok} {tk1:Tok} {tk2:Tok} {tk3:Tok} {tk4:Tok} {tk5:Tok}
 {iz0 ie0:Nat} {ih0_0 ih0_1 ih0_2 ih0_3 ih0_4 ih0_5 ih0_6 ih0_7 ih0_8 ih0_9 ih0_10:Int} {it0_0 iu0_0 it0_1 iu0_1 it0_2 iu0_2 it0_3 iu0_3 it0_4 iu0_4 it0_5 iu0_5 it0_6 iu0_6 it0_7 iu0_7 it0_8 iu0_8 it0_9 iu0_9 it0_10 iu0_10:Tok}
 (ia0:Q0L K Q0h "DEEDS"≈(some (.ref iz0))) (ib0:K.lookup iz0≈{ cls:=.type "dict",data:=.dict #[{ hash:=ih0_0,key:=.str "web" it0_0,val:=.int 1 iu0_0 },{ hash:=ih0_1,key:=.str "row" it0_1,val:=.int 1 iu0_1 },{ hash:=ih0_2,key:=.str "ring" it0_2,val:=.int 1 iu0_2 },{ hash:=ih0_3,key:=.str "cube" it0_3,val:=.int 1 iu0_3 },{ hash:=ih0_4,key:=.str "full" it0_4,val:=.int 1 iu0_4 },{ hash:=ih0_5,key:=.str "star" it0_5,val:=.int 1 iu0_5 },{ hash:=ih0_6,key:=.str "tie" it0_6,val:=.int 2 iu0_6 },{ hash:=ih0_7,key:=.str "cut" it0_7,val:=.int 2 iu0_7 },{ hash:=ih0_8,key:=.str "put" it0_8,val:=.int 2 iu0_8 },{ hash:=ih0_9,key:=.str "step" it0_9,val:=.int 2 iu0_9 },{ hash:=ih0_10,key:=.str "back" it0_10,val:=.int 0 iu0_10 }] ie0 }) (id0:(iz0 == Q0B)=false)
 {iz1 ie1:Nat} {ih1_0 ih1_1 ih1_2 ih1_3 ih1_4 ih1_5 ih1_6 ih1_7:Int} {it1_0 iu1_0 it1_1 iu1_1 it1_2 iu1_2 it1_3 iu1_3 it1_4 iu1_4 it1_5 iu1_5 it1_6 iu1_6 it1_7 iu1_7:Tok}
 (ia1:Q0L K Q0h "QUESTIONS"≈(some (.ref iz1))) (ib1:K.lookup iz1≈{ cls:=.type "dict",data:=.dict #[{ hash:=ih1_0,key:=.str "heap" it1_0,val:=.int 0 iu1_0 },{ hash:=ih1_1,key:=.str "ties" it1_1,val:=.int 0 iu1_1 },{ hash:=ih1_2,key:=.str "steps" it1_2,val:=.int 0 iu1_2 },{ hash:=ih1_3,key:=.str "far" it1_3,val:=.int 2 iu1_3 },{ hash:=ih1_4,key:=.str "most" it1_4,val:=.int 1 iu1_4 },{ hash:=ih1_5,key:=.str "reached" it1_5,val:=.int 0 iu1_5 },{ hash:=ih1_6,key:=.str "need" it1_6,val:=.int 1 iu1_6 },{ hash:=ih1_7,key:=.str "shown" it1_7,val:=.int 0 iu1_7 }] ie1 }) (id1:(iz1 == Q0B)=false)
 {cD:Addr} (da:Q0L K Q0h "Desk"≈(some (.ref cD))) (db1:Q16 K cD Str.empty=true) (db2:Q2i K cD=true) (db3:W.plainOver K cD=true) (dc:Q0E K (.ref cD) "__setattr__"≈(some (.builtin "object.__setattr__"))) (db4:su K cD ["web","heap","past"]=true) (db5:W.makesIn K cD=true) (db6:Q0H K (.ref cD)=true)
 {mi0:Addr} {mod0 man0:y1} {msl0:Array (Option Q0e)} {moc0 mkV0 mdc0 mpm0 mcd0 mct0:Q0e}
 (ma0:Q0E K (.ref cD) "__init__"≈(some (.ref mi0))) (ml0:K.lookup mi0≈⟨moc0,mod0,.func (Q11 "__init__" "Desk.__init__" (wL yx) (ym yx) (zo yx) .none mkV0 mdc0 mpm0 man0 mcd0 mct0),msl0⟩) (mc0:Q15 K mcd0 "Desk.__init__"=true) (mk0:Q0H K (.ref mi0)=true) (mf0:W.isFn K (.ref mi0)=true)
 {mi1:Addr} {mod1 man1:y1} {msl1:Array (Option Q0e)} {moc1 mkV1 mdc1 mpm1 mcd1 mct1:Q0e}
 (ma1:Q0E K (.ref cD) "say"≈(some (.ref mi1))) (ml1:K.lookup mi1≈⟨moc1,mod1,.func (Q11 "say" "Desk.say" (wL x6) (ym x6) (zo x6) .none mkV1 mdc1 mpm1 man1 mcd1 mct1),msl1⟩) (mc1:Q15 K mcd1 "Desk.say"=true) (mk1:Q0H K (.ref mi1)=true) (mf1:W.isFn K (.ref mi1)=true)
 {mi2:Addr} {mod2 man2:y1} {msl2:Array (Option Q0e)} {moc2 mkV2 mdc2 mpm2 mcd2 mct2:Q0e}
 (ma2:Q0E K (.ref cD) "go_on"≈(some (.ref mi2))) (ml2:K.lookup mi2≈⟨moc2,mod2,.func (Q11 "go_on" "Desk.go_on" (wL xk) (ym xk) (zo xk) .none mkV2 mdc2 mpm2 man2 mcd2 mct2),msl2⟩) (mc2:Q15 K mcd2 "Desk.go_on"=true) (mk2:Q0H K (.ref mi2)=true) (mf2:W.isFn K (.ref mi2)=true)
 {mi3:Addr} {mod3 man3:y1} {msl3:Array (Option Q0e)} {moc3 mkV3 mdc3 mpm3 mcd3 mct3:Q0e}
 (ma3:Q0E K (.ref cD) "go_back"≈(some (.ref mi3))) (ml3:K.lookup mi3≈⟨moc3,mod3,.func (Q11 "go_back" "Desk.go_back" (wL xb) (ym xb) (zo xb) .none mkV3 mdc3 mpm3 man3 mcd3 mct3),msl3⟩) (mc3:Q15 K mcd3 "Desk.go_back"=true) (mk3:Q0H K (.ref mi3)=true) (mf3:W.isFn K (.ref mi3)=true)
 (D:∀ r∈rows,Dx K mg ([]:Zg) r) (Z:∀ x∈zs,Q0L K Q0h x≈none)
 (gg0:Q0L K Q0h "MOST_PLACES"≈(some (.int 8 tk0)))
 (gg1:Q0L K Q0h "MOST_STONES"≈(some (.int 300 tk1)))
 (gg2:Q0L K Q0h "MOST_FIGURES"≈(some (.int 3 tk2)))
 (gg3:Q0L K Q0h "MOST_SEARCHED"≈(some (.int 12 tk3)))
 (gg4:Q0L K Q0h "MOST_WANTED"≈(some (.int 3 tk4)))
 (gg5:Q0L K Q0h "MOST_COUNTED"≈(some (.int 6 tk5)))
 {xx0 xx1 xx2 xx3 xx4 xx5 xx6 xx7 xx8 xx9 xx10 xx11 xx12 xx13:Addr}
 (xa0:Q0L K Q0h "NoWeb"≈(some (.ref xx0)))
 (xa1:Q0L K Q0h "NoKind"≈(some (.ref xx1)))
 (xa2:Q0L K Q0h "NoHeap"≈(some (.ref xx2)))
 (xa3:Q0L K Q0h "NoPlace"≈(some (.ref xx3)))
 (xa4:Q0L K Q0h "NoNumber"≈(some (.ref xx4)))
 (xa5:Q0L K Q0h "NoTally"≈(some (.ref xx5)))
 (xa6:Q0L K Q0h "NotTree"≈(some (.ref xx6)))
 (xa7:Q0L K Q0h "NotJoined"≈(some (.ref xx7)))
 (xa8:Q0L K Q0h "NoWeights"≈(some (.ref xx8)))
 (xa9:Q0L K Q0h "NoRow"≈(some (.ref xx9)))
 (xa10:Q0L K Q0h "NoSteps"≈(some (.ref xx10)))
 (xa11:Q0L K Q0h "NoText"≈(some (.ref xx11)))
 (xa12:Q0L K Q0h "TooGreat"≈(some (.ref xx12)))
 (xa13:Q0L K Q0h "StoneError"≈(some (.ref xx13)))
 (xc7:Al K [xx0,xx1,xx2,xx3,xx4,xx5,xx6,xx7,xx8,xx9,xx10,xx11,xx12] xx13 xx7 7=true)
 (xb7:W.excIn K xx7 JV "ValueError.__new__"=true)
 : ∃ fd:Q1I,(∀ (s:zm) (v:Q0e),Q1T s fd ⟨[v],[]⟩ [("script",v)])/\∀ base:Heap,K.In base->base.Ns Q0h mg->wt l.prog w K mg base aV 40 fa fd ["script"] (pM K):=by
 have D':∀ i,Dx K mg ([]:Zg) (Rw i):=Qm D (D _ (k6 (i:=58) rfl))
 have e:=hfa.symm.trans (D' 58).choose_spec.choose_spec.1.at_
 cases e
 have FM0:=mC (st:=yx) ml0 mc0 mk0
 have FM1:=mC (st:=x6) ml1 mc1 mk1
 have FM2:=mC (st:=xk) ml2 mc2 mk2
 have FM3:=mC (st:=xb) ml3 mc3 mk3
 have T:∀ base:Heap,Txt l.prog w K mg base ⟨λi=>(D' i).choose,λi=>(D' i).choose_spec.choose,iz0,iz1,cD,mi0,_,mi1,_,mi2,_,mi3,_,tk0,tk1,tk2,tk3,tk4,tk5,xx0,xx1,xx2,xx3,xx4,xx5,xx6,xx7,xx8,xx9,xx10,xx11,xx12,xx13⟩:=λbase=>⟨λi=>(D' i).choose_spec.choose_spec.1,λx hx=>W.mg_none_of X G (Z x hx),
  p0 X G ia0,
  λh hK=>⟨id0,_,_,_,hK _ _ ib0,⟨rfl,rfl,rfl⟩,rfl,(.cons rfl (.int _ _) (.cons rfl (.int _ _) (.cons rfl (.int _ _) (.cons rfl (.int _ _) (.cons rfl (.int _ _) (.cons rfl (.int _ _) (.cons rfl (.int _ _) (.cons rfl (.int _ _) (.cons rfl (.int _ _) (.cons rfl (.int _ _) (.cons rfl (.int _ _) .nil)))))))))))⟩,
  p0 X G ia1,
  λh hK=>⟨id1,_,_,_,hK _ _ ib1,⟨rfl,rfl,rfl⟩,rfl,(.cons rfl (.int _ _) (.cons rfl (.int _ _) (.cons rfl (.int _ _) (.cons rfl (.int _ _) (.cons rfl (.int _ _) (.cons rfl (.int _ _) (.cons rfl (.int _ _) (.cons rfl (.int _ _) .nil))))))))⟩,
  p0 X G da,
  ⟨⟨db1,db2,db3,dc⟩,G4 db4 _ ⋯,G4 db4 _ ⋯,G4 db4 _ ⋯⟩,
  ⟨db5,ma0,mf0,db6⟩,
  FM0,
  FM0.binds (ps:=["self"]) (λ_ _ _ _ _ _ us hl=>by repeat' first | rfl | (exfalso;revert hl;simp;done) | (rcases us with _ | ⟨_,us⟩)),
  FM1,
  FM1.binds (ps:=["self","row"]) (λ_ _ _ _ _ _ us hl=>by repeat' first | rfl | (exfalso;revert hl;simp;done) | (rcases us with _ | ⟨_,us⟩)),
  ⟨ma1,mf1,mk1⟩,
  FM2,
  FM2.binds (ps:=["self","state"]) (λ_ _ _ _ _ _ us hl=>by repeat' first | rfl | (exfalso;revert hl;simp;done) | (rcases us with _ | ⟨_,us⟩)),
  ⟨ma2,mf2,mk2⟩,
  FM3,
  FM3.binds (ps:=["self"]) (λ_ _ _ _ _ _ us hl=>by repeat' first | rfl | (exfalso;revert hl;simp;done) | (rcases us with _ | ⟨_,us⟩)),
  ⟨ma3,mf3,mk3⟩
,
 p0 X G gg0,
 p0 X G gg1,
 p0 X G gg2,
 p0 X G gg3,
 p0 X G gg4,
 p0 X G gg5,
 p0 X G xa0,
 p0 X G xa1,
 p0 X G xa2,
 p0 X G xa3,
 p0 X G xa4,
 p0 X G xa5,
 p0 X G xa6,
 p0 X G xa7,
 p0 X G xa8,
 p0 X G xa9,
 p0 X G xa10,
 p0 X G xa11,
 p0 X G xa12,
 p0 X G xa13,
 xb7,
 xc7⟩
 exact⟨_,λs v=>zjh (D' 58).choose_spec.choose_spec.1.fn λ_ _ _ _ _ _=>rfl,λbase _ _=>zp2 (T base)⟩
theorem walk {l:W.OpenLaw}{q:zO}{loose:zF}{XP:wA->Heap->Prop}{YP:Q0k->Heap->Prop}{d:DefRec}{K:Params->W.Frag}(hn:l.most≈63)(hdf:d.params.defaults=[])
 (hY:∀ (w:Q0k) (h:Heap),YP w h->(K w.params).In h)
 (F:∀ (w:Q0k) (mg:wA) (fa:Addr) (h:Heap),(K w.params).In h->h.Ns Q0h mg->mg d.name≈(.ref fa) ->
  ∃ fd:Q1I,(∀ (s:zm) (u:Q0e),Q1T s fd ⟨[u],[]⟩ [("script",u)])/\∀ base:Heap,(K w.params).In base->base.Ns Q0h mg->wt l.prog w (K w.params) mg base aV 40 fa fd ["script"] (pM (K w.params))) :
 PySem.W.WalkO q loose XP YP l.row.toRowW d [] (λf vs=>PySem.call f vs) :=
 L2.walk_of (n:=63) (k:=40) (x:="script") (CX:=λ_=>aV) (sp:=λw=>pM (K w.params)) hn ⋯ hdf ⟨rfl,by decide,by decide⟩ hY F (λ_ _ a ns hl _ hS=>⟨a,ns,rfl,hS,hl,λ_=>rfl⟩) λ_ _ _ _ _ z=>z
end Mz
open PySem PySem.W PyProof.Rows
namespace PySem.W.Fast
theorem tw1539968251273283201:True:=⟨⟩
theorem tw1448218841020977090:True:=⟨⟩
theorem tw3989079120571084059:True:=⟨⟩
theorem tw14173774375129262301:True:=⟨⟩
theorem tw8250706484675455675:True:=⟨⟩
theorem tw14232560209732469440:True:=⟨⟩
theorem tw12465629334644851776:True:=⟨⟩
theorem tw12468872445924515694:True:=⟨⟩
theorem tw8522353067649928958:True:=⟨⟩
theorem tw15498130398118255126:True:=⟨⟩
theorem tw17186515281507719709:True:=⟨⟩
theorem tw18135066769982695117:True:=⟨⟩
theorem tw2087308250600838680:True:=⟨⟩
theorem tw17808441832288474928:True:=⟨⟩
theorem tw13543141571441979195:True:=⟨⟩
theorem tw12860955961542633595:True:=⟨⟩
theorem tw11497474678453534801:True:=⟨⟩
theorem tw9026052160071629029:True:=⟨⟩
theorem tw2888875608246779174:True:=⟨⟩
theorem tw10988136019471605217:True:=⟨⟩
theorem tw15884347250934480619:True:=⟨⟩
theorem tw12934166642056759964:True:=⟨⟩
theorem tw4160531569348924192:True:=⟨⟩
theorem tw8713262470470721313:True:=⟨⟩
theorem tw14175037842084076562:True:=⟨⟩
theorem tw13619138343351274257:True:=⟨⟩
theorem tw9898690907748663200:True:=⟨⟩
theorem tw12205152839990978531:True:=⟨⟩
theorem tw17985123858546936202:True:=⟨⟩
theorem tw1587571865162792487:True:=⟨⟩
theorem tw10241675675616822045:True:=⟨⟩
theorem tw15474038837079196496:True:=⟨⟩
theorem tw3750333029963906054:True:=⟨⟩
theorem tw3834365545734139762:True:=⟨⟩
theorem tw14021719455851006030:True:=⟨⟩
theorem tw12164402009833957321:True:=⟨⟩
theorem tw12843395279069368173:True:=⟨⟩
theorem tw7062495566034540335:True:=⟨⟩
theorem tw7910563989363641210:True:=⟨⟩
theorem tw6246563858372913124:True:=⟨⟩
theorem tw11231772714618955747:True:=⟨⟩
theorem tw1130839458378836942:True:=⟨⟩
theorem tw4376637155609445188:True:=⟨⟩
theorem tw15075052257982146326:True:=⟨⟩
theorem tw3159698124722028828:True:=⟨⟩
theorem tw3838281848283698086:True:=⟨⟩
theorem tw1599925639938245144:True:=⟨⟩
theorem tw17603989327174711559:True:=⟨⟩
theorem tw10161973153173617677:True:=⟨⟩
theorem tw17234031934296879225:True:=⟨⟩
theorem tw15985213011782523289:True:=⟨⟩
theorem tw2260711730742467674:True:=⟨⟩
theorem tw13043952870258761278:True:=⟨⟩
theorem tw17985621493238619886:True:=⟨⟩
theorem tw1089903027344484570:True:=⟨⟩
theorem tw15845732782474156237:True:=⟨⟩
theorem tw10628247322212909561:True:=⟨⟩
theorem tw5221649199854900515:True:=⟨⟩
theorem tw2462760877954914879:True:=⟨⟩
theorem tw7305191062293215386:True:=⟨⟩
theorem tw7515416765010588643:True:=⟨⟩
theorem tw12003806738740480043:True:=⟨⟩
theorem tw11102634086350288596:True:=⟨⟩
theorem tw6869558216896499991:True:=⟨⟩
theorem tw7769752755106519882:True:=⟨⟩
theorem tw8868015770105561575:True:=⟨⟩
theorem tw10631533647756898144:True:=⟨⟩
theorem tw15256825531555531370:True:=⟨⟩
theorem tw2715069044335224208:True:=⟨⟩
theorem tw1724729991426832656:True:=⟨⟩
theorem tw13576101130168785665:True:=⟨⟩
theorem tw11788960551551370051:True:=⟨⟩
theorem tw15891329128285363425:True:=⟨⟩
theorem tw17194039287162720219:True:=⟨⟩
theorem tw8976825801939710401:True:=⟨⟩
theorem tw12645441417012776621:True:=⟨⟩
theorem tw13096598573849664097:True:=⟨⟩
theorem tw14856830631464671987:True:=⟨⟩
theorem tw1986038254727109430:True:=⟨⟩
theorem tw3128896858998157596:True:=⟨⟩
theorem tw17811508243620230102:True:=⟨⟩
theorem tw710565212517263890:True:=⟨⟩
theorem tw9729546133047847200:True:=⟨⟩
theorem tw3846671724291015846:True:=⟨⟩
theorem tw9796477162446365522:True:=⟨⟩
theorem tw11996532756581175566:True:=⟨⟩
theorem tw10922248206435358108:True:=⟨⟩
theorem tw5203489809345851107:True:=⟨⟩
theorem tw12645045985753655076:True:=⟨⟩
theorem tw5966082931810045537:True:=⟨⟩
theorem tw12955137742364679727:True:=⟨⟩
theorem tw15641775832149121198:True:=⟨⟩
theorem tw1782309801065076367:True:=⟨⟩
theorem tw5545413417876623007:True:=⟨⟩
theorem tw17849708065197198633:True:=⟨⟩
theorem tw4994212933701903615:True:=⟨⟩
theorem tw6004916431642847351:True:=⟨⟩
theorem tw7356342449314088909:True:=⟨⟩
theorem tw9469481792227503277:True:=⟨⟩
theorem tw4945585973276806793:True:=⟨⟩
theorem tw2154639458724292295:True:=⟨⟩
theorem tw14221525757524058825:True:=⟨⟩
theorem tw13806648130842272089:True:=⟨⟩
theorem tw7007994404414898702:True:=⟨⟩
theorem tw7791353880644043703:True:=⟨⟩
theorem tw13005623482987415189:True:=⟨⟩
theorem tw12749793723681459693:True:=⟨⟩
theorem tw13358398749037349259:True:=⟨⟩
theorem tw16236387203371579072:True:=⟨⟩
theorem tw10462511173287060174:True:=⟨⟩
theorem tw5100522765160287983:True:=⟨⟩
theorem tw6126638393869595652:True:=⟨⟩
theorem tw7260115620429699858:True:=⟨⟩
theorem tw9912903155275597608:True:=⟨⟩
theorem tw524434913584350752:True:=⟨⟩
theorem tw9595502414939158039:True:=⟨⟩
theorem tw16884470726430427044:True:=⟨⟩
theorem tw2966211480430557929:True:=⟨⟩
theorem tw17337043238471095239:True:=⟨⟩
theorem tw17973559488401773943:True:=⟨⟩
theorem tw1525805645177039493:True:=⟨⟩
theorem tw14516536099899385543:True:=⟨⟩
theorem tw17245362529793123204:True:=⟨⟩
theorem tw14426618141671075326:True:=⟨⟩
theorem tw6333495898373170199:True:=⟨⟩
theorem tw6413594020462042071:True:=⟨⟩
theorem tw14073723431191389791:True:=⟨⟩
theorem tw6592602271299746706:True:=⟨⟩
theorem tw4782375812393515588:True:=⟨⟩
theorem tw1322864751404547709:True:=⟨⟩
theorem tw15539153989171396933:True:=⟨⟩
theorem tw7033573983951671550:True:=⟨⟩
theorem tw9847169970882851896:True:=⟨⟩
theorem tw8305416121448447433:True:=⟨⟩
theorem tw2372482899737676097:True:=⟨⟩
theorem tw5748916562139349684:True:=⟨⟩
theorem tw9245221845467447344:True:=⟨⟩
theorem tw2258214528650496701:True:=⟨⟩
theorem tw16046213306292212240:True:=⟨⟩
theorem tw15417443847190110546:True:=⟨⟩
theorem tw4747241659002188949:True:=⟨⟩
theorem tw16513015848881690010:True:=⟨⟩
theorem tw16484030112296592312:True:=⟨⟩
theorem tw2104208936537500068:True:=⟨⟩
theorem tw15069946971943912709:True:=⟨⟩
theorem tw2319518454649191653:True:=⟨⟩
theorem tw5369955056448285919:True:=⟨⟩
theorem tw1215263721386896634:True:=⟨⟩
theorem tw10542596495979634108:True:=⟨⟩
theorem tw2582898263629041075:True:=⟨⟩
theorem tw14236587416209329975:True:=⟨⟩
theorem tw7499396959835074333:True:=⟨⟩
theorem tw11255728518883582663:True:=⟨⟩
theorem tw9695477854951295750:True:=⟨⟩
theorem tw2161842489489755158:True:=⟨⟩
theorem tw9952494108254554368:True:=⟨⟩
theorem tw13889676270476633188:True:=⟨⟩
theorem tw11243779160908095812:True:=⟨⟩
theorem tw781703707587958646:True:=⟨⟩
theorem tw9042861265080255270:True:=⟨⟩
theorem tw16259056194469556941:True:=⟨⟩
theorem tw5685832289514432997:True:=⟨⟩
theorem tw7329431918618603604:True:=⟨⟩
theorem tw15857817974035578194:True:=⟨⟩
theorem tw1694040142055778733:True:=⟨⟩
theorem tw1679627662619811577:True:=⟨⟩
theorem tw7492025254729841426:True:=⟨⟩
theorem tw3880380037103350890:True:=⟨⟩
theorem tw6118638023649740167:True:=⟨⟩
theorem tw6225909402785359414:True:=⟨⟩
theorem tw12631512207449687751:True:=⟨⟩
theorem tw165414967147874453:True:=⟨⟩
theorem tw10941577085751225391:True:=⟨⟩
theorem tw17599562237917375489:True:=⟨⟩
theorem tw2699794676724145102:True:=⟨⟩
theorem tw2361387571663474984:True:=⟨⟩
theorem tw13422845787023676800:True:=⟨⟩
theorem tw14183896053145174315:True:=⟨⟩
theorem tw8919460165206688009:True:=⟨⟩
theorem tw911691042761468481:True:=⟨⟩
theorem tw12378570039206621188:True:=⟨⟩
theorem tw7705931386473804521:True:=⟨⟩
theorem tw12379574383267459519:True:=⟨⟩
theorem tw9395006829150666061:True:=⟨⟩
theorem tw1699647845150419094:True:=⟨⟩
theorem tw15870862645548243944:True:=⟨⟩
theorem tw1068378938480374790:True:=⟨⟩
theorem tw3556194464906664587:True:=⟨⟩
theorem tw1365279047184989552:True:=⟨⟩
theorem tw7132619578639252650:True:=⟨⟩
theorem tw16912657709597561635:True:=⟨⟩
theorem tw14131753414296815313:True:=⟨⟩
theorem tw14047658939958969569:True:=⟨⟩
theorem tw14489177235734918219:True:=⟨⟩
theorem tw558638354031410923:True:=⟨⟩
theorem tw4090595655645958970:True:=⟨⟩
theorem tw6042993867796329122:True:=⟨⟩
theorem tw4331906545343069286:True:=⟨⟩
theorem tw11640348199230408454:True:=⟨⟩
theorem tw14488908246705162169:True:=⟨⟩
theorem tw14281753818831834150:True:=⟨⟩
theorem tw5116098761311436248:True:=⟨⟩
theorem tw6168314311247853213:True:=⟨⟩
theorem tw9531682205495771470:True:=⟨⟩
theorem tw11529821970183640212:True:=⟨⟩
theorem tw12190893088556288318:True:=⟨⟩
theorem tw17640887454414459335:True:=⟨⟩
theorem tw8684096318979047026:True:=⟨⟩
theorem tw11203647152276728281:True:=⟨⟩
theorem tw2231234293591773474:True:=⟨⟩
theorem tw6556262854027280887:True:=⟨⟩
theorem tw7245150934783182219:True:=⟨⟩
theorem tw16050136332191354166:True:=⟨⟩
theorem tw3698056921110791498:True:=⟨⟩
theorem tw3985066821044823314:True:=⟨⟩
theorem tw3126872291240987351:True:=⟨⟩
theorem tw8609794102169675298:True:=⟨⟩
theorem tw9230157458485976976:True:=⟨⟩
theorem tw14732119479104732916:True:=⟨⟩
theorem tw10732890342416261158:True:=⟨⟩
theorem tw1766516911204257671:True:=⟨⟩
theorem tw8581557244494043904:True:=⟨⟩
theorem tw9269646974230934705:True:=⟨⟩
theorem tw15297649489584535640:True:=⟨⟩
theorem tw8423872504782451785:True:=⟨⟩
theorem tw16366091233856521288:True:=⟨⟩
theorem tw15718114001120920790:True:=⟨⟩
theorem tw7445927267332172116:True:=⟨⟩
theorem tw14623499798023493168:True:=⟨⟩
theorem tw14444932774443382984:True:=⟨⟩
theorem tw2522090011258868334:True:=⟨⟩
theorem tw6965775583934378679:True:=⟨⟩
theorem tw9469072841300324933:True:=⟨⟩
theorem tw13475233794677475782:True:=⟨⟩
theorem tw5533460626837159446:True:=⟨⟩
theorem tw11612359169505990015:True:=⟨⟩
theorem tw11893806378374667222:True:=⟨⟩
theorem tw14575072858973956805:True:=⟨⟩
theorem tw16829906350461148373:True:=⟨⟩
theorem tw15983841307749794310:True:=⟨⟩
theorem tw13529543862976690775:True:=⟨⟩
theorem tw883250217572482867:True:=⟨⟩
theorem tw834801871801722380:True:=⟨⟩
theorem tw14773717651645083859:True:=⟨⟩
theorem tw16994542843301980709:True:=⟨⟩
theorem tw15551486960822252040:True:=⟨⟩
theorem tw3191771466909283910:True:=⟨⟩
theorem tw16223565450695039437:True:=⟨⟩
theorem tw8674103005615132570:True:=⟨⟩
theorem tw6338719448766531837:True:=⟨⟩
theorem tw5584835083203797254:True:=⟨⟩
theorem tw8572597055267444992:True:=⟨⟩
theorem tw13415931657964835320:True:=⟨⟩
theorem tw1569577337577934638:True:=⟨⟩
theorem tw3285517595177170663:True:=⟨⟩
theorem tw2423057678960906372:True:=⟨⟩
theorem tw17324855515538342887:True:=⟨⟩
theorem tw13998364185428986540:True:=⟨⟩
theorem tw16366751617871276276:True:=⟨⟩
theorem tw14028639153866867788:True:=⟨⟩
theorem tw9874224820412355153:True:=⟨⟩
theorem tw13994652399727880822:True:=⟨⟩
theorem tw16548867752065047016:True:=⟨⟩
theorem tw5939518809789094456:True:=⟨⟩
theorem tw11408090756681715130:True:=⟨⟩
theorem tw2017489081894576865:True:=⟨⟩
theorem tw2243073047415806143:True:=⟨⟩
theorem tw2491445461972307037:True:=⟨⟩
theorem tw5928519673808796427:True:=⟨⟩
theorem tw106786000002773145:True:=⟨⟩
theorem tw8833607017259687759:True:=⟨⟩
theorem tw8493034883337150926:True:=⟨⟩
theorem tw5459859559727683112:True:=⟨⟩
theorem tw11195430641099339886:True:=⟨⟩
theorem tw4886236399212180100:True:=⟨⟩
theorem tw8666579048129245052:True:=⟨⟩
theorem tw6953702340321977407:True:=⟨⟩
theorem tw4783864022375576447:True:=⟨⟩
theorem tw14331196858714234006:True:=⟨⟩
theorem tw7050021053649310123:True:=⟨⟩
theorem tw9291618477918883692:True:=⟨⟩
theorem tw5105371264658997368:True:=⟨⟩
theorem tw2996184692961611137:True:=⟨⟩
theorem tw959265642324937478:True:=⟨⟩
theorem tw5604849673327127864:True:=⟨⟩
theorem tw5847108285288299954:True:=⟨⟩
theorem tw6077408596001362315:True:=⟨⟩
theorem tw17085123559224956377:True:=⟨⟩
theorem tw15404058406282003053:True:=⟨⟩
theorem tw18194422408504294288:True:=⟨⟩
theorem tw305019824025510635:True:=⟨⟩
theorem tw2294424081606082706:True:=⟨⟩
theorem tw14640168751158322215:True:=⟨⟩
theorem tw7964778629346799171:True:=⟨⟩
theorem tw9997972389386252095:True:=⟨⟩
theorem tw1068548187941413780:True:=⟨⟩
theorem tw16160077328986883497:True:=⟨⟩
theorem tw17385287758656950430:True:=⟨⟩
theorem tw17843114365601418376:True:=⟨⟩
theorem tw3877575429952993216:True:=⟨⟩
theorem tw7130145245622130384:True:=⟨⟩
theorem tw15185581772847611079:True:=⟨⟩
theorem tw7164069915830020061:True:=⟨⟩
theorem tw3951079001567733561:True:=⟨⟩
theorem tw10600725628343310171:True:=⟨⟩
theorem tw10971759319842684624:True:=⟨⟩
theorem tw14333651416303156520:True:=⟨⟩
theorem tw15780335833464326610:True:=⟨⟩
theorem tw14028228360428789778:True:=⟨⟩
theorem tw352314972537157283:True:=⟨⟩
theorem tw1732712590331908645:True:=⟨⟩
theorem tw16907665065995939622:True:=⟨⟩
theorem tw9167272593035922747:True:=⟨⟩
end PySem.W.Fast
set_option maxRecDepth 100000 in
set_option maxHeartbeats 0 in
theorem PySem.Challenge.cw_twoforone_k93_desk_asked_holds : PySem.Challenge.rw_twoforone_k93_desk_asked.Holds := by
  w_on;o_law;k_head;(case hw=>w_witness2)
  k_fill
  refine Mz.walk (l:=PySem.Challenge.rw_twoforone_k93_desk_asked) rfl rfl (fun w h Y=>PySem.W.kIn_of Y) ?F
  case F =>
    intro w mg fa h KX G hmg
    refine' Mz.all_mk KX G hmg ?ia0 ?ib0 ?id0 ?ia1 ?ib1 ?id1 ?da ?db1 ?db2 ?db3 ?dc ?db4 ?db5 ?db6 ?ma0 ?ml0 ?mc0 ?mk0 ?mf0 ?ma1 ?ml1 ?mc1 ?mk1 ?mf1 ?ma2 ?ml2 ?mc2 ?mk2 ?mf2 ?ma3 ?ml3 ?mc3 ?mk3 ?mf3 ?D ?Z ?gg0 ?gg1 ?gg2 ?gg3 ?gg4 ?gg5 ?xa0 ?xa1 ?xa2 ?xa3 ?xa4 ?xa5 ?xa6 ?xa7 ?xa8 ?xa9 ?xa10 ?xa11 ?xa12 ?xa13 ?xc7 ?xb7
    case ia0=>k_is
    case ib0=>k_is
    case id0=>decide
    case ia1=>k_is
    case ib1=>k_is
    case id1=>decide
    case da=>k_is
    case db1=>kernel_rfl
    case db2=>kernel_rfl
    case db3=>kernel_rfl
    case dc=>k_is
    case db4=>kernel_rfl
    case db5=>kernel_rfl
    case db6=>kernel_rfl
    case ma0=>k_is
    case ml0=>k_is
    case mc0=>k_is
    case mk0=>k_is
    case mf0=>k_is
    case ma1=>k_is
    case ml1=>k_is
    case mc1=>k_is
    case mk1=>k_is
    case mf1=>k_is
    case ma2=>k_is
    case ml2=>k_is
    case mc2=>k_is
    case mk2=>k_is
    case mf2=>k_is
    case ma3=>k_is
    case ml3=>k_is
    case mc3=>k_is
    case mk3=>k_is
    case mf3=>k_is
    case D =>
      repeat
        refine' Dl.Dx_cons (Dl.mkX KX G ?_ ?_ ?_ ?_ ?_ ?_) ?_
        any_goals k_is
        · intro _ _ _ _ _ _ us hl
          repeat' first|rfl | (exfalso;revert hl;simp;done) | (rcases us with _|⟨_,us⟩)
        · first|exact .inl rfl|exact .inr ⟨_,rfl,rfl⟩
      exact fun _ h=>nomatch h
    case Z =>
      repeat
        refine' Dl.Z_cons ?_ ?_
        · k_is
      exact fun _ h=>nomatch h
    case gg0|gg1|gg2|gg3|gg4|gg5|xa0|xa1|xa2|xa3|xa4|xa5|xa6|xa7|xa8|xa9|xa10|xa11|xa12|xa13=>k_is
    case xc7|xb7=>kernel_rfl
