import PyProof.Rows.All
import Wide.All
import OpenK.AllK
import Wide.FinOn
import Lean
import PyProof.EqAt
import PyProof.EqKinds
import PyProof.TupleCall
import PyProof.NeKinds
import KE.KIntText
import PySem.Challenge.RW_twoforone_k95_rows_that_are_none
set_option Elab.async false
set_option linter.all false
set_option maxRecDepth 100000
set_option maxHeartbeats 4000000
namespace L2
open PySem PySem.Spec PyProof.Rows
noncomputable abbrev Key:=Sum Int Str
noncomputable def zbF:Key->Value->Bool
 | .inl k,v=>Value.isInt k v
 | .inr x,v=>Value.isStrOf x v
noncomputable def keyH (w:World):Key->Int
 | .inl k=>hashInt k
 | .inr x=>hashStr w x
theorem z8:∀ {k:Key} {v:Value},zbF k v=true->(∃ i t,k=Sum.inl i/\v=Value.int i t)\/(∃ x t,k=Sum.inr x/\v=Value.str x t)
 | .inl i,v,h=>by
  obtain⟨t,e⟩:=Value.isInt_shape (k:=i) (v:=v) h
  exact .inl ⟨i,t,rfl,e⟩
 | .inr x,v,h=>by
  obtain⟨t,e⟩:=Value.isStrOf_shape (x:=x) (v:=v) h
  exact .inr ⟨x,t,rfl,e⟩
theorem zb5 (i:Int)(t:Tok):zbF (.inl i) (.int i t)=true:=by simp[zbF,Value.isInt]
theorem zd1 (x:Str)(t:Tok):zbF (.inr x) (.str x t)=true:=by simp[zbF,Value.isStrOf]
theorem zk7 (a b:Int):decide ((Sum.inl a:Key)=Sum.inl b)=(a == b):=by
 by_cases e:a=b
 .subst e;simp
 .have h:¬ (Sum.inl a:Key)=Sum.inl b:=λq=>e (Sum.inl.inj q)
  rw[decide_eq_false h]
  exact(beq_eq_false_iff_ne.mpr e).symm
theorem zju (a b:Str):decide ((Sum.inr a:Key)=Sum.inr b)=decide (a=b):=by
 by_cases e:a=b
 .subst e;simp
 .have h:¬ (Sum.inr a:Key)=Sum.inr b:=λq=>e (Sum.inr.inj q)
  rw[decide_eq_false h,decide_eq_false e]
theorem zku (a:Int)(b:Str):decide ((Sum.inl a:Key)=Sum.inr b)=false:=decide_eq_false (λq=>nomatch q)
theorem zkS (a:Str)(b:Int):decide ((Sum.inr a:Key)=Sum.inl b)=false:=decide_eq_false (λq=>nomatch q)
noncomputable def yU (prog:Program)(w:World):PySem.KeyKind prog w Key where
 is:=zbF
 hash:=keyH w
 inj:=λv a b ha hb=>by
  rcases z8 ha with ⟨i,t,rfl,rfl⟩ | ⟨x,t,rfl,rfl⟩
  .rcases z8 hb with ⟨j,u,rfl,e⟩ | ⟨y,u,rfl,e⟩
   .injection e with e1 _;rw[e1]
   .exact nomatch e
  .rcases z8 hb with ⟨j,u,rfl,e⟩ | ⟨y,u,rfl,e⟩
   .exact nomatch e
   .injection e with e1 _;rw[e1]
 byValue:=λk v h=>by
  rcases z8 h with ⟨i,t,rfl,rfl⟩ | ⟨x,t,rfl,rfl⟩ <;> rfl
 pyHash:=λhv h=>by
  rcases z8 hv with ⟨i,t,rfl,rfl⟩ | ⟨x,t,rfl,rfl⟩
  .exact wpAny_pyHash_int h
  .exact wpAny_pyHash_str h
 eqBool:=λhu hv h=>by
  rcases z8 hu with ⟨i,t,rfl,rfl⟩ | ⟨x,t,rfl,rfl⟩
  .rcases z8 hv with ⟨j,u,rfl,rfl⟩ | ⟨y,u,rfl,rfl⟩
   .rw[zk7]at h;exact wpAny_eqBool_int h
   .rw[zku]at h;exact SeqAt.EqAt.int_str i t y u _ _ _ _ h
  .rcases z8 hv with ⟨j,u,rfl,rfl⟩ | ⟨y,u,rfl,rfl⟩
   .rw[zkS]at h;exact SeqAt.EqAt.str_int x t j u _ _ _ _ h
   .rw[zju]at h;exact wpAny_eqBool_str h
 «strs»:=λk x t v h=>by
  rcases z8 h with ⟨i,u,rfl,e⟩ | ⟨y,u,rfl,e⟩
  .exact nomatch e
  .injection e with e1 _
   subst e1
   cases v <;> rfl
theorem VG (a:Program)(w:World)(i:Int)(t:Tok):(yU a w).is (.inl i) (.int i t)=true:=zb5 i t
theorem zal (a:Program)(w:World)(x:Str)(t:Tok):(yU a w).is (.inr x) (.str x t)=true:=zd1 x t
inductive V where
 | non | bl (b:Bool) | int (i:Int) | str (x:Str) | byt (b:Array UInt8) | flt (b:UInt64) | ref (a:Addr) | ty (n:String)
 deriving DecidableEq
noncomputable def yl:V->Value->Prop
 | .non,u=>u=Value.none
 | .bl b,u=>u=Value.bool b
 | .int i,u=>∃ t,u=Value.int i t
 | .str x,u=>∃ t,u=Value.str x t
 | .byt b,u=>∃ t,u=Value.bytes b t
 | .flt b,u=>∃ t,u=Value.float b t
 | .ref a,u=>u=Value.ref a
 | .ty n,u=>u=Value.type n
noncomputable abbrev zT:List V->List Value->Prop:=Paired yl
theorem zT.length {a:List V}{b:List Value}(r:zT a b):a.length=b.length:=Paired.length r
theorem zT.get:∀ {a:List V} {b:List Value} {i:Nat} {x:V},zT a b->a[i]?=some x->∃ u,b[i]?=some u/\yl x u
 | _,_,_,_,.nil,e=>by simp at e
 | _,_,0,_,.cons r _,e=>by simp at e;subst e;exact⟨_,rfl,r⟩
 | _,_,i+1,x,.cons _ t,e=>by
  obtain⟨u,d,c⟩:=zT.get (i:=i) (x:=x) t (by simpa using e)
  exact⟨u,by simpa using d,c⟩
theorem zT.append:∀ {b d:List V} {c a:List Value},zT b c->zT d a->zT (b++d) (c++a):=by
 intro b d c a h s
 induction h with
 | nil=>exact s
 | cons r t e=>exact .cons r e
theorem zT.take:∀ {a:List V} {b:List Value} (n:Nat),zT a b->zT (a.take n) (b.take n)
 | _,_,0,_=>.nil
 | _,_,_+1,.nil=>.nil
 | _,_,n+1,.cons r t=>.cons r (zT.take n t)
theorem zT.drop:∀ {a:List V} {b:List Value} (n:Nat),zT a b->zT (a.drop n) (b.drop n)
 | _,_,0,r=>r
 | _,_,_+1,.nil=>.nil
 | _,_,n+1,.cons _ t=>zT.drop n t
noncomputable def za1:Option V->Option Value->Prop
 | some v,some u=>yl v u
 | none,none=>True
 | _,_=>False
noncomputable def KV {κ:Type}:List (κ × V)->List (κ × Value)->Prop:=Paired λ(p:κ × V) (q:κ × Value)=>p.1=q.1/\yl p.2 q.2
noncomputable def kV:Key->V
 | .inl i=>.int i
 | .inr x=>.str x
inductive HO where
 | lst (xs:List V)
 | tup (xs:List V)
 | dK (kvs:List (Key × V)) | dT (kvs:List (List Key × V))
 | set (S:Int->Bool) (n:Nat)
 | ins (C dx:Addr) (fs:List (Str × V))
 | own (x:Addr)
 | xd (fs:List (Str × V))
 | met (f x:Addr)
 | rng (lo hi:Int)
 | frz (o:Obj) (u:HO)
 | tbl (ps:Array Value)
 | ext (φ:Heap->Prop)
noncomputable abbrev Hp:=Addr->Option HO
noncomputable def upd (H:Hp)(a:Addr)(o:HO):Hp:=λb=>if b=a then some o else H b
theorem zf {H:Hp}{a:Addr}{o:HO}:upd H a o a=some o:=by unfold upd;rw[if_pos rfl]
theorem ze {H:Hp}{a b:Addr}{o:HO}(h:b≠a):upd H a o b=H b:=by unfold upd;rw[if_neg h]
theorem zdi {H:Hp}{a:Addr}{o u:HO}:upd (upd H a o) a u=upd H a u:=by
 funext b;unfold upd;split <;> rfl
theorem ziW {H:Hp}{a b:Addr}{o u:HO}(h:H a=some o)(c:H b=some u)(d:o≠u):a≠b:=by
 intro e;subst e;rw[h]at c;exact d (Option.some.inj c)
theorem zd {H:Hp}{a b:Addr}{o:HO}(h:H a=some o)(c:H b=none):a≠b:=by
 intro e;subst e;rw[h]at c;cases c
section
variable (P:Program)(w:World)
noncomputable def yb (H:Hp)(h:Heap)(a:Addr):HO->Prop
 | .lst d=>d.length<=sizeLine/\∃ (b:List Value) (n:Nat),zT d b/\h.get? a=some { cls:=.type "list",data:=.seq b.toArray n }
 | .tup d=>d.length<=sizeLine/\∃ b:List Value,zT d b/\IsTup h a b.toArray
 | .dK c=>c.length<=sizeLine/\(a == sysModules)=false/\∃ j,KV c j/\h.DictOf (yU P w) a j
 | .dT c=>c.length<=sizeLine/\(a == sysModules)=false/\∃ d:List (List Key × Addr × Value),
  Paired (λ(p:List Key × V) (q:List Key × Addr × Value)=>p.1=q.1/\H q.2.1=some (.tup (p.1.map kV))/\yl p.2 q.2.2) c d /\
  ∃ o m z,h.get? a=some o/\o.ExactDict/\o.data=.dict m z/\m.toList=d.map (entryOfKey (tupleKind (yU P w)))/\(d.map (·.1)).Nodup
 | .set S n=>h.SetOf (intKind P w) a S n
 | .ins C i g=>H i=some (.own a)/\g.length<=1000/\i≠a/\h.get? a=some (W.instObj C i) /\
  ∃ e,h.Ns1 i e/\(∀ f,za1 (g.lookup f) (e f))/\PySem.Within e (g.map (·.1))
 | .own _=>∃ o,h.get? a=some o
 | .xd g=>∃ e,h.Ns1 a e/\∀ f,za1 (g.lookup f) (e f)
 | .rng r y=>∃ t u v,h.get? a=some { cls:=.type "range",data:=.fields #[.int r t,.int y u,.int 1 v] }
 | .frz o u=>h.get? a=some o/\yb H h a u
 | .tbl s=>h.get? a=some { cls:=.none,data:=.fields s }
 | .met f x=>h.get? a=some (W.methodObj (.ref f) (.ref x))
 | .ext φ=>φ h/\(∃ o,h.get? a=some o)/\∀ l k:Heap,φ l->(∀ o,l.get? a=some o->k.get? a=some o)->φ k
noncomputable def HOk (H:Hp)(h:Heap):Prop:=∀ a o,H a=some o->yb P w H h a o
end
section
variable {P:Program}{w:World}{H H':Hp}{h h':Heap}{a:Addr}{o:HO}
theorem yb.lt (x:yb P w H h a o):a < h.objs.size:=by
 cases o with
 | lst d=>obtain⟨_,_,_,_,e⟩:=x;exact Heap.lt_size e
 | tup d=>obtain⟨_,_,_,p⟩:=x;exact p.lt
 | dK b=>obtain⟨_,_,_,_,o,_,_,e,_⟩:=x;exact Heap.lt_size e
 | dT b=>obtain⟨_,_,_,_,o,_,_,e,_⟩:=x;exact Heap.lt_size e
 | set S n=>obtain⟨o,_,_,_,e,_⟩:=x;exact Heap.lt_size e
 | ins C g c=>obtain⟨_,_,_,e,_⟩:=x;exact Heap.lt_size e
 | own y=>obtain⟨_,e⟩:=x;exact Heap.lt_size e
 | xd c=>obtain⟨_,⟨_,_,_,e,_⟩,_⟩:=x;exact Heap.lt_size e
 | rng k j=>obtain⟨_,_,_,e⟩:=x;exact Heap.lt_size e
 | frz i u=>obtain⟨e,_⟩:=x;exact Heap.lt_size e
 | tbl l=>exact Heap.lt_size (show h.get? a=some _ from x)
 | met f y=>exact Heap.lt_size (show h.get? a=some _ from x)
 | ext φ=>obtain⟨_,⟨_,e⟩,_⟩:=x;exact Heap.lt_size e
theorem Paired.mapP {α β:Type}{F G:α->β->Prop}:∀ {c:List α} {d:List β},Paired F c d->(∀ a b,F a b->G a b)->Paired G c d:=by
 intro g i h f
 induction h with
 | nil=>exact .nil
 | cons r t e=>exact .cons (f _ _ r) e
theorem yb.stay (x:yb P w H h a o)(k:∀ b u,(b=a\/H b=some (.own a))->h.get? b=some u->h'.get? b=some u)
 (G:∀ b,H b=some (.own a)->H' b=some (.own a)) (K:∀ b m,H b=some (.tup m)->H' b=some (.tup m)):yb P w H' h' a o:=by
 induction o with
 | lst m=>obtain⟨z,l,n,r,e⟩:=x;exact⟨z,l,n,r,k _ _ (.inl rfl) e⟩
 | tup m=>obtain⟨z,l,r,g,e,c⟩:=x;exact⟨z,l,r,g,k _ _ (.inl rfl) e,c⟩
 | dK A=>obtain⟨z,y,I,r,g,i,j,e,c⟩:=x;exact⟨z,y,I,r,g,i,j,k _ _ (.inl rfl) e,c⟩
 | dT A =>
  obtain⟨z,y,m,r,g,i,j,e,c⟩:=x
  exact⟨z,y,m,Paired.mapP r λp q z=>⟨z.1,K _ _ z.2.1,z.2.2⟩,g,i,j,k _ _ (.inl rfl) e,c⟩
 | set S n=>obtain⟨g,i,j,t,e,c⟩:=x;exact⟨g,i,j,t,k _ _ (.inl rfl) e,c⟩
 | ins C N F =>
  obtain⟨d,z,L,e,s,⟨B,i,j,J,c⟩,r⟩:=x
  exact⟨G _ d,z,L,k _ _ (.inl rfl) e,s,⟨B,i,j,k _ _ (.inr d) J,c⟩,r⟩
 | own y=>obtain⟨g,e⟩:=x;exact⟨g,k _ _ (.inl rfl) e⟩
 | xd F=>obtain⟨s,⟨B,i,j,e,c⟩,r⟩:=x;exact⟨s,⟨B,i,j,k _ _ (.inl rfl) e,c⟩,r⟩
 | rng O Q=>obtain⟨t,u,v,e⟩:=x;exact⟨t,u,v,k _ _ (.inl rfl) e⟩
 | frz g u M=>obtain⟨e,q⟩:=x;exact⟨k _ _ (.inl rfl) e,M q⟩
 | tbl E =>
  have e:h.get? a=some { cls:=.none,data:=.fields E }:=x
  show h'.get? a=some { cls:=.none,data:=.fields E }
  exact k a _ (.inl rfl) e
 | met f y =>
  have e:h.get? a=some (W.methodObj (.ref f) (.ref y)):=x
  show h'.get? a=some (W.methodObj (.ref f) (.ref y))
  exact k a _ (.inl rfl) e
 | ext φ=>obtain⟨p,⟨o,e⟩,D⟩:=x;exact⟨D _ _ p λo q=>k _ _ (.inl rfl) q,⟨o,k _ _ (.inl rfl) e⟩,D⟩
theorem HOk.lt (x:HOk P w H h)(e:H a=some o):a < h.objs.size:=(x a o e).lt
theorem HOk.fresh (x:HOk P w H h)(e:h.objs.size<=a):H a=none:=by
 cases q:H a with
 | none=>rfl
 | some u=>exact absurd (Nat.lt_of_lt_of_le (x.lt q) e) (Nat.lt_irrefl _)
theorem HOk.kept (x:HOk P w H h)(k:∀ b u,h.get? b=some u->h'.get? b=some u):HOk P w H h':=λa o e =>
 (x a o e).stay (λb u _ q=>k b u q) (λ_ q=>q) λ_ _ q=>q
theorem HOk.laid (x:HOk P w H h)(k:∀ b u,h.get? b=some u->h'.get? b=some u)(i:h.objs.size<=a)(d:yb P w (upd H a o) h' a o):HOk P w (upd H a o) h':=λb u e=>by
 have g:=x.fresh i
 by_cases f:b=a
 .subst f;rw[zf]at e;cases e;exact d
 .rw[ze f]at e
  exact(x b u e).stay (λc v _ q=>k c v q) (λc q=>by rw[ze (zd q g)];exact q) λc j q=>by rw[ze (zd q g)];exact q
end
noncomputable def Rd (H:Hp)(a:Addr)(u:HO):Prop:=H a=some u\/∃ o,H a=some (.frz o u)
theorem Rd.ok {P:Program}{w:World}{H:Hp}{h:Heap}{a:Addr}{u:HO}(r:Rd H a u)(x:HOk P w H h):yb P w H h a u:=by
 rcases r with r | ⟨o,r⟩
 .exact x a u r
 .obtain⟨_,q⟩:=x a _ r
  exact q
noncomputable def Mut:Option HO->Prop
 | some (.lst _)=>True
 | some (.dK _)=>True
 | some (.dT _)=>True
 | some (.set _ _)=>True
 | some (.ins _ _ _)=>True
 | some (.ext _)=>True
 | _=>False
section
variable {P:Program}{w:World}{H:Hp}{h h':Heap}{x e:Addr}{o':HO}
theorem HOk.write (ok:HOk P w H h)(g:Mut (H x))(p:e=x\/H e=some (.own x))(k:∀ b u,b≠e->h.get? b=some u->h'.get? b=some u)(n:∃ u,h'.get? e=some u)
 (m:yb P w (upd H x o') h' x o'):HOk P w (upd H x o') h':=λb u q=>by
 have d:∀ c y,H c=some (.own y)->c≠x:=λc y r z=>by subst z;rw[r]at g;exact g
 have f:∀ c j,H c=some (.tup j)->c≠x:=λc j r z=>by subst z;rw[r]at g;exact g
 by_cases l:b=x
 .subst l;rw[zf]at q;cases q;exact m
 .rw[ze l]at q
  by_cases a:b=e
  .have o:H b=some (.own x):=by
    rcases p with z | z
    .exact absurd (a.trans z) l
    .rw[a];exact z
   rw[q]at o;cases o
   obtain⟨v,s⟩:=n
   exact⟨v,by rw[a];exact s⟩
  .refine(ok b u q).stay (λc v i r=>k c v ?_ r) (λc r=>by rw[ze (d c b r)];exact r) λc j r=>by rw[ze (f c j r)];exact r
   rcases i with rfl | i
   .exact a
   .rintro rfl
    rcases p with z | z
    .exact d c b i z
    .rw[i]at z;cases z;exact l rfl
end
structure Un (fs ex:List Addr) (H H':Hp) (h h':Heap):Prop where
 keep:∀ b o,h.get? b=some o->H b=none->b∉fs->b∉ex->h'.get? b=some o
 slot:∀ b o,h.get? b=some o->H b=none->b∈fs->b∉ex->∃ sl,h'.get? b=some { o with slots:=sl }
 free:∀ b o,h.get? b=some o->H b=none->b∉ex->H' b=none
 there:∀ b o,h.get? b=some o->b∉ex->∃ o',h'.get? b=some o'
 tups:∀ b xs,H b=some (.tup xs)->H' b=some (.tup xs)
 frzs:∀ b o u,H b=some (.frz o u)->H' b=some (.frz o u)
 tbls:∀ b ps,H b=some (.tbl ps)->∃ more,H' b=some (.tbl (ps++more))
section
variable {fs fs' ex ex':List Addr}{H H1 H2:Hp}{h h1 h2 h':Heap}{a x e:Addr}{o:HO}
theorem Un.any (u:Un fs ex H H1 h h1){b:Addr}{a:Obj}(q:h.get? b=some a)(n:H b=none)(d:b∉ex):∃ e,h1.get? b=some { a with slots:=e }:=by
 by_cases c:b∈fs
 .exact u.slot b a q n c d
 .exact⟨a.slots,u.keep b a q n c d⟩
theorem Un.kept (k:∀ b u,h.get? b=some u->h'.get? b=some u):Un fs ex H H h h' :=
 ⟨λb a q _ _ _=>k b a q,λb a q _ _ _=>⟨a.slots,k b a q⟩,λ_ _ _ n _=>n,λb a q _=>⟨a,k b a q⟩,λ_ _ q=>q,λ_ _ _ q=>q,λ_ c q=>⟨#[],by rw[q];simp⟩⟩
theorem Un.refl:Un fs ex H H h h:=Un.kept λ_ _ q=>q
theorem Un.laid (k:∀ b u,h.get? b=some u->h'.get? b=some u)(hp:h.objs.size<=a)(hn:H a=none):Un fs ex H (upd H a o) h h' where
 keep:=λb u q _ _ _=>k b u q
 slot:=λb u q _ _ _=>⟨u.slots,k b u q⟩
 free:=λb u q n _=>by rw[ze (Nat.ne_of_lt (Nat.lt_of_lt_of_le (Heap.lt_size q) hp))];exact n
 there:=λb u q _=>⟨u,k b u q⟩
 tups:=λb xs q=>by rw[ze (zd q hn)];exact q
 frzs:=λb u xs q=>by rw[ze (zd q hn)];exact q
 tbls:=λb ps q=>⟨#[],by rw[ze (zd q hn),q];simp⟩
theorem Un.write (c:Mut (H x))(m:e=x\/H e=some (.own x))(k:∀ b u,b≠e->h.get? b=some u->h'.get? b=some u)(d:∃ u,h'.get? e=some u):Un fs ex H (upd H x o) h h':=by
 have i:∀ b,H b=none->b≠x:=λb n z=>by subst z;rw[n]at c;exact c
 have g:∀ b,H b=none->b≠e:=λb n z=>by
  subst z
  rcases m with r | r
  .exact i b n r
  .rw[n]at r;cases r
 have f:∀ b u,H b=some u->¬ Mut (some u)->b≠x:=λb u q l z=>by subst z;rw[q]at c;exact l c
 refine⟨λb u q n _ _=>k b u (g b n) q,λb u q n _ _=>⟨u.slots,k b u (g b n) q⟩,λb u q n _=>by rw[ze (i b n)];exact n,λb u q _=>?_,
  λb j q=>by rw[ze (f b _ q λz=>z)];exact q,λb u j q=>by rw[ze (f b _ q λz=>z)];exact q,λb p q=>⟨#[],by rw[ze (f b _ q λz=>z),q];simp⟩⟩
 by_cases a:b=e
 .subst a;exact d
 .exact⟨u,k b u a q⟩
end
noncomputable def trk (h:Heap)(H:Hp):List Addr:=(List.range h.objs.size).filter λa=>(H a).isSome
noncomputable def zfD (h:Heap)(H:Hp):Heap:=W.hideAll h (trk h H)
theorem zew (h:Heap)(H:Hp):(zfD h H).objs.size=h.objs.size:=W.hideAll_size _ _
theorem zeT {h:Heap}{H:Hp}{b:Addr}{o:Obj}(e:h.get? b=some o)(n:H b=none):(zfD h H).get? b=some o :=
 W.hideAll_get _ e λa=>by
  have q:(H b).isSome=true:=(List.mem_filter.mp a).2
  rw[n]at q;simp at q
theorem zij {h:Heap}{H:Hp}{b:Addr}{o:Obj}(e:(zfD h H).get? b=some o):h.get? b=some o/\H b=none:=by
 have a:h.get? b=some o:=W.of_hideAll (trk h H) e
 refine⟨a,?_⟩
 cases q:H b with
 | none=>rfl
 | some x =>
  have c:b∈trk h H:=List.mem_filter.mpr ⟨List.mem_range.mpr (Heap.lt_size a),by simp[q]⟩
  have z:(zfD h H).get? b=none:=W.hideAll_none (trk h H) c
  rw[z]at e;cases e
noncomputable def zit (g h:Heap)(L:Addr):List (Addr × Obj):=(List.range h.objs.size).filterMap λa=>if a=L\/(g.get? a).isSome=true then none else (h.get? a).map λo=>(a,o)
noncomputable def rest (g h:Heap)(L d:Addr):List (Addr × Obj):=(zit g h L).filter λp=>decide (p.1≠d)
structure Mod (K:W.Frag) (mg:Str->Option Value) (base:Heap):Prop where
 kin:K.In base
 glob:base.Ns mainGlobals mg
 blt:∃ mb,base.Ns builtinsNs mb/\∀ x:Str,x≠"__name__"->mb x=bootBuiltins x
 nolimit:base.NoLimit
structure Cx where
 prog:Program
 w:World
 K:W.Frag
 mg:Str->Option Value
 base:Heap
 A:Around
 N:List Str
 s₀:Shared
 H₀:Hp
 env:Env
 outer:List Env
 stack:List Env
 ex:List Addr
 fn:Str->Bool
 calm:Bool
 pn:List (Addr × Obj)
 xe:Value->Shared->Prop
noncomputable def frs (l:List Env):List Addr:=l.filterMap (·.frame)
noncomputable abbrev Cx.fs (X:Cx):List Addr:=frs X.outer
noncomputable def Vis (sc:Scope)(x:Str):Prop:=sc.names.lookup x=some .local\/sc.names.lookup x=some .cell\/sc.names.lookup x=some .free
noncomputable def Loc (sc:Scope)(x:Str):Prop:=sc.names.lookup x=some .local\/sc.names.lookup x=some .cell
noncomputable def Look (env:Env)(h:Heap)(m:Str->Option Value)(x:Str)(u:Value):Prop :=
 (env.kindOf x=some .local/\m x=some u)\/((env.kindOf x=some .cell\/env.kindOf x=some .free)/\∃ c,env.cells.lookup x=some c/\h.IsCell c (some u))
structure Cx.Ok (X:Cx):Prop where
 mod:Mod X.K X.mg X.base
 kind:X.env.scope.kind=.function
 glob:X.env.globals=mainGlobals
 blt:X.env.builtins=builtinsNs
 above:X.s₀.heap.objs.size<=X.env.locals
 inj:∀ x y c,X.env.cells.lookup x=some c->X.env.cells.lookup y=some c->x=y
 has:∀ x,(X.env.kindOf x=some .cell\/X.env.kindOf x=some .free)->∃ c,X.env.cells.lookup x=some c
 cab:∀ x c,X.fn x=true->X.env.cells.lookup x=some c->X.s₀.heap.objs.size<=c
 hd:X.calm=true->X.A.handled=none
 frames:X.A.frames=some X.stack
 stk:X.stack=X.outer\/(X.stack=X.env::X.outer/\X.env.frame=some X.env.locals)
 exf:∀ b∈X.ex,b≠X.env.locals/\∀ x c,X.env.cells.lookup x=some c->c≠b
 bs:∀ b o,X.base.get? b=some o->X.s₀.heap.get? b=some o/\X.H₀ b=none
 bsz:X.base.objs.size<=X.s₀.heap.objs.size
 noex:∀ b o,X.base.get? b=some o->b∉X.ex
 exfs:∀ b∈X.ex,b∉X.fs
 funs:X.s₀.heap.FunFrames X.base X.outer
 frf:∀ b∈X.fs,X.H₀ b=none
structure Inv (X:Cx) (pins:List (Addr × Obj)) (σ:List (Option V)) (H:Hp) (s:Shared):Prop where
 ok:X.Ok
 os:s.os=X.s₀.os
 bare:AllBare s.gens
 base:Un X.fs X.ex X.H₀ H X.s₀.heap s.heap
 loc:∃ m,s.heap.Ns X.env.locals m/\∀ (i:Nat) (x:Str) (v:V),X.N[i]?=some x->σ[i]?=some (some v)->Vis X.env.scope x->∃ u,yl v u/\Look X.env s.heap m x u
 cell:∀ x c,X.env.cells.lookup x=some c->∃ v,s.heap.IsCell c v
 free:H X.env.locals=none
 freeC:∀ x c,X.env.cells.lookup x=some c->H c=none
 pin:∀ p∈X.pn++pins,s.heap.get? p.1=some p.2/\H p.1=none/\p.1≠X.env.locals/\p.1∉X.fs/\∀ v,p.2.data≠.cell v
 hok:HOk X.prog X.w H s.heap
 len:σ.length=X.N.length
section
variable {X:Cx}{pins:List (Addr × Obj)}{σ:List (Option V)}{H H':Hp}{s:Shared}{h':Heap}
theorem Cx.Ok.nofr (ok:X.Ok){b:Addr}{o:Obj}(e:X.base.get? b=some o):b∉X.fs:=λa=>by
 have:=(ok.funs.mem a).1
 rw[e]at this;cases this
theorem Inv.bs (I:Inv X pins σ H s):∀ b o,X.base.get? b=some o->s.heap.get? b=some o/\H b=none:=λb o e =>
 ⟨I.base.keep b o (I.ok.bs b o e).1 (I.ok.bs b o e).2 (I.ok.nofr e) (I.ok.noex b o e),I.base.free b o (I.ok.bs b o e).1 (I.ok.bs b o e).2 (I.ok.noex b o e)⟩
theorem Inv.bk (I:Inv X pins σ H s):∀ b o,X.base.get? b=some o->s.heap.get? b=some o:=λb o e=>(I.bs b o e).1
theorem Inv.mod (I:Inv X pins σ H s):Mod X.K X.mg X.base:=I.ok.mod
theorem Inv.kIn (I:Inv X pins σ H s):X.K.In s.heap:=I.ok.mod.kin.keeps I.bk
theorem Inv.fr (I:Inv X pins σ H s):∃ m,Fr X.base X.env.locals s.heap m :=
 let ⟨m,hn,_⟩:=I.loc
 ⟨m,hn,I.bk,Nat.le_trans I.ok.bsz I.ok.above⟩
theorem Inv.lt (I:Inv X pins σ H s):X.env.locals < s.heap.objs.size:=let ⟨_,hn,_⟩:=I.loc;hn.lt
theorem Inv.sz (I:Inv X pins σ H s):X.s₀.heap.objs.size<=s.heap.objs.size:=Nat.le_trans I.ok.above (Nat.le_of_lt I.lt)
theorem Inv.nofs (I:Inv X pins σ H s){a:Addr}(h:s.heap.objs.size<=a):a∉X.fs:=λb=>by
 obtain⟨_,o,c,_⟩:=I.ok.funs.mem b
 exact absurd (Nat.lt_of_lt_of_le (Heap.lt_size c) (Nat.le_trans I.sz h)) (Nat.lt_irrefl _)
theorem Inv.cne (I:Inv X pins σ H s):∀ x c,X.env.cells.lookup x=some c->c≠X.env.locals:=λx c e z=>by
 obtain⟨v,o,d,f⟩:=I.cell x c e
 obtain⟨m,⟨h,g,i,a,b,_⟩,_⟩:=I.loc
 rw[z,a]at d;cases d;rw[b]at f;cases f
theorem Inv.funs (I:Inv X pins σ H s):s.heap.FunFrames X.base X.outer:=by
 have c:∀ (l:List Env),(∀ b∈frs l,b∈X.fs)->X.s₀.heap.FunFrames X.base l->s.heap.FunFrames X.base l:=by
  intro l
  induction l with
  | nil=>intro _ _;trivial
  | cons env r k =>
   intro g n
   obtain⟨h,⟨L,o,d,p,m,i⟩,j⟩:=n
   have a:L∈X.fs:=g L (by unfold frs;rw[List.filterMap_cons,d];exact List.mem_cons_self)
   obtain⟨q,e⟩:=I.base.slot L o m (I.ok.frf L a) a λz=>I.ok.exfs L z a
   exact⟨h,⟨L,_,d,p,e,i⟩,k (λb f=>g b (by unfold frs;rw[List.filterMap_cons,d];exact List.mem_cons_of_mem _ f)) j⟩
 exact c X.outer (λ_ f=>f) I.ok.funs
theorem Inv.stack (I:Inv X pins σ H s):s.heap.FunFrames X.base X.stack:=by
 rcases I.ok.stk with e | ⟨e,a⟩
 .rw[e];exact I.funs
 .rw[e]
  obtain⟨m,b,_⟩:=I.loc
  refine .cons (by rw[I.ok.kind];decide) a b ?_ I.funs
  exact Heap.get?_none_of_le (Nat.le_trans I.ok.bsz I.ok.above)
theorem Inv.stkSub (I:Inv X pins σ H s):∀ b∈frs X.stack,b∈X.env.locals::X.fs:=λb a=>by
 rcases I.ok.stk with e | ⟨e,c⟩
 .rw[e]at a;exact List.mem_cons_of_mem _ a
 .rw[e]at a
  unfold frs at a
  rw[List.filterMap_cons,c]at a
  exact a
theorem Inv.stkFree (I:Inv X pins σ H s):∀ b∈frs X.stack,H b=none:=λb a=>by
 rcases List.mem_cons.mp (I.stkSub b a)with e | a
 .rw[e];exact I.free
 .obtain⟨_,o,c,_⟩:=I.ok.funs.mem a
  exact I.base.free b o c (I.ok.frf b a) λz=>I.ok.exfs b z a
theorem Inv.step {g':Array GenState}{t':Nat}{d':Drawn}{ch:List Addr}(I:Inv X pins σ H s)
 (j:∀ b∈ch,(b∈X.ex\/X.s₀.heap.objs.size<=b)/\b≠X.env.locals/\(∀ x c,X.env.cells.lookup x=some c->c≠b)/\∀ p∈X.pn++pins,p.1≠b)
 (keep:∀ b o,b≠X.env.locals->b∉X.fs->b∉ch->s.heap.get? b=some o->H b=none->h'.get? b=some o)
 (y:∀ b o,b≠X.env.locals->b∈X.fs->b∉ch->s.heap.get? b=some o->H b=none->∃ R,h'.get? b=some { o with slots:=R }) (f:∀ b o,b∉ch->s.heap.get? b=some o->H b=none->H' b=none)
 (B:∀ b o,b∉ch->s.heap.get? b=some o->∃ E,h'.get? b=some E)
 (M:∀ b A,H b=some (.tup A)->H' b=some (.tup A)) (F:∀ b o u,H b=some (.frz o u)->H' b=some (.frz o u)) (K:∀ b N,H b=some (.tbl N)->∃ L,H' b=some (.tbl (N++L)))
 (ns:∀ m,s.heap.Ns X.env.locals m->h'.Ns X.env.locals m) (O:HOk X.prog X.w H' h') (hg:AllBare g') :
 Inv X pins σ H' { s with heap:=h',gens:=g',drawn:=d',toks:=t' }:=by
 have G:∀ b o,X.s₀.heap.get? b=some o->b≠X.env.locals:=λb o e=>Nat.ne_of_lt (Nat.lt_of_lt_of_le (Heap.lt_size e) I.ok.above)
 have t:∀ b o,X.s₀.heap.get? b=some o->b∉X.ex->b∉ch:=λb o e a C=>by
  rcases(j b C).1 with z | z
  .exact a z
  .exact absurd (Nat.lt_of_lt_of_le (Heap.lt_size e) z) (Nat.lt_irrefl _)
 have h:∀ x c,X.env.cells.lookup x=some c->∀ v,s.heap.IsCell c v->h'.IsCell c v:=λx c e v ⟨o,D,P⟩=>by
  have g:c∉ch:=λz=>(j c z).2.2.1 x c e rfl
  by_cases S:c∈X.fs
  .obtain⟨R,q⟩:=y c o (I.cne x c e) S g D (I.freeC x c e)
   exact⟨_,q,P⟩
  .exact⟨o,keep c o (I.cne x c e) S g D (I.freeC x c e),P⟩
 refine⟨I.ok,I.os,hg,⟨λb o e n C a=>?_,λb o e n C a=>?_,λb o e n a=>?_,λb o e a=>?_,λb A e=>M b A (I.base.tups b A e),λb o A e=>F b o A (I.base.frzs b o A e),λb N e=>?_⟩,?_,λx c e=>?_,?_,λx c e=>?_,λp V=>?_,O,I.len⟩
 .exact keep b o (G b o e) C (t b o e a) (I.base.keep b o e n C a) (I.base.free b o e n a)
 .obtain⟨R,w⟩:=I.base.slot b o e n C a
  obtain⟨Q,J⟩:=y b _ (G b o e) C (t b o e a) w (I.base.free b o e n a)
  exact⟨Q,J⟩
 .obtain⟨E,w⟩:=I.base.there b o e a
  exact f b E (t b o e a) w (I.base.free b o e n a)
 .obtain⟨E,w⟩:=I.base.there b o e a
  exact B b E (t b o e a) w
 .obtain⟨W,w⟩:=I.base.tbls b N e
  obtain⟨Z,J⟩:=K b _ w
  exact⟨W++Z,by rw[J,Array.append_assoc]⟩
 .obtain⟨m,hn,hl⟩:=I.loc
  refine⟨m,ns m hn,λi x v w J Y=>?_⟩
  obtain⟨u,r,l⟩:=hl i x v w J Y
  refine⟨u,r,?_⟩
  rcases l with l | ⟨k,c,e,z⟩
  .exact .inl l
  .exact .inr ⟨k,c,e,h x c e _ z⟩
 .obtain⟨v,z⟩:=I.cell x c e
  exact⟨v,h x c e v z⟩
 .obtain⟨m,⟨o,_,_,D,_⟩,_⟩:=I.loc
  exact f _ o (λz=>(j _ z).2.1 rfl) D I.free
 .obtain⟨v,o,D,P⟩:=I.cell x c e
  exact f c o (λz=>(j c z).2.2.1 x c e rfl) D (I.freeC x c e)
 .obtain⟨e,n,U,T,d⟩:=I.pin p V
  have g:p.1∉ch:=λz=>(j p.1 z).2.2.2 p V rfl
  exact⟨keep p.1 p.2 U T g e n,f p.1 p.2 g e n,U,T,d⟩
theorem Inv.un {t':Nat}(I:Inv X pins σ H s)(u:Un X.fs [] H H' s.heap h')(c:HOk X.prog X.w H' h'):Inv X pins σ H' { s with heap:=h',toks:=t' }:=by
 obtain⟨m,⟨o,p,v,h,r⟩,_⟩:=id I.loc
 obtain⟨q,i⟩:=u.any h I.free (by simp)
 exact I.step (g':=s.gens) (d':=s.drawn) (ch:=[]) (λ_ z=>nomatch z) (λb o _ g _ e n=>u.keep b o e n g (by simp)) (λb o _ g _ e n=>u.slot b o e n g (by simp)) (λb o _ e n=>u.free b o e n (by simp)) (λb o _ e=>u.there b o e (by simp)) u.tups u.frzs u.tbls (λl k=>by
  obtain⟨t,d,f,a,j⟩:=k
  rw[h]at a;cases a
  exact⟨_,d,f,i,j⟩) c I.bare
theorem Inv.call {g':Array GenState}{t':Nat}{d':Drawn}{ch:List Addr}(I:Inv X pins σ H s)(u:Un (frs X.stack) ch H H' s.heap h')(i:HOk X.prog X.w H' h')(t:AllBare g')
 (f:∀ b∈ch,(b∈X.ex\/X.s₀.heap.objs.size<=b)/\b≠X.env.locals/\(∀ x c,X.env.cells.lookup x=some c->c≠b)/\∀ p∈X.pn++pins,p.1≠b) :
 Inv X pins σ H' { s with heap:=h',gens:=g',drawn:=d',toks:=t' }:=by
 obtain⟨m,⟨o,A,C,k,r⟩,_⟩:=id I.loc
 obtain⟨B,h⟩:=u.any k I.free λz=>(f _ z).2.1 rfl
 exact I.step (ch:=ch) f (λb o h l a e n=>u.keep b o e n (λz=>(List.mem_cons.mp (I.stkSub b z)).elim h l) a) (λb o _ _ a e n=>u.any e n a) (λb o a e n=>u.free b o e n a) (λb o a e=>u.there b o e a) u.tups u.frzs u.tbls (λy v=>by
  obtain⟨w,j,g,d,q⟩:=v
  rw[k]at d;cases d
  exact⟨_,j,g,h,q⟩) i t
theorem Inv.turned {t':Nat}{a:Addr}(I:Inv X pins σ H s)(k:∀ b o,b≠a->s.heap.get? b=some o->h'.get? b=some o)(A:H a=none)(g:a≠X.env.locals)
 (t:a∈X.ex\/X.s₀.heap.objs.size<=a) (l:∀ x c,X.env.cells.lookup x=some c->c≠a) (y:∀ p∈X.pn++pins,p.1≠a):Inv X pins σ H { s with heap:=h',toks:=t' }:=by
 have f:∀ b u,H b=some u->b≠a:=λb u e z=>by rw[z,A]at e;cases e
 refine I.step (g':=s.gens) (d':=s.drawn) (ch:=[a]) (λb j=>?_) (λb o _ _ d e _=>k b o (λz=>d (by simp[z])) e) (λb o _ _ d e _=>⟨o.slots,k b o (λz=>d (by simp[z])) e⟩) (λ_ _ _ _ n=>n)
  (λb o d e=>⟨o,k b o (λz=>d (by simp[z])) e⟩) (λ_ _ e=>e) (λ_ _ _ e=>e) (λb C e=>⟨#[],by rw[e];simp⟩) (λm B=>?_) (λb u e=>?_) I.bare
 .have e:b=a:=by simpa using j
  subst e
  exact⟨t,g,l,y⟩
 .obtain⟨o,w,h,i,r⟩:=B
  exact⟨o,w,h,k _ o (Ne.symm g) i,r⟩
 .refine(I.hok b u e).stay (λc v d q=>k c v ?_ q) (λ_ q=>q) λ_ _ q=>q
  rcases d with z | z
  .rw[z];exact f b u e
  .exact f c _ z
theorem Inv.tok (I:Inv X pins σ H s)(t:Nat):Inv X pins σ H { s with toks:=t }:=I.un (h':=s.heap) (t':=t) Un.refl I.hok
theorem Inv.kept {t':Nat}(I:Inv X pins σ H s)(k:∀ b u,s.heap.get? b=some u->h'.get? b=some u):Inv X pins σ H { s with heap:=h',toks:=t' }:=I.un (Un.kept k) (I.hok.kept k)
theorem Inv.laid {a:Addr}{o:HO}{t':Nat}(I:Inv X pins σ H s)(k:∀ b u,s.heap.get? b=some u->h'.get? b=some u)(d:s.heap.objs.size<=a)(c:yb X.prog X.w (upd H a o) h' a o) :
 Inv X pins σ (upd H a o) { s with heap:=h',toks:=t' }:=I.un (Un.laid k d (I.hok.fresh d)) (I.hok.laid k d c)
theorem Inv.write {x e:Addr}{o:HO}{t':Nat}(I:Inv X pins σ H s)(d:Mut (H x))(f:e=x\/H e=some (.own x))(k:∀ b u,b≠e->s.heap.get? b=some u->h'.get? b=some u)(a:∃ u,h'.get? e=some u)
 (c:yb X.prog X.w (upd H x o) h' x o):Inv X pins σ (upd H x o) { s with heap:=h',toks:=t' }:=I.un (Un.write d f k a) (I.hok.write d f k a c)
theorem Inv.weak {a:List (Option V)}(I:Inv X pins σ H s)(c:a.length=σ.length)(w:∀ (i:Nat) v,a[i]?=some (some v)->σ[i]?=some (some v)):Inv X pins a H s :=
 ⟨I.ok,I.os,I.bare,I.base,let ⟨m,hn,hl'⟩:=I.loc;⟨m,hn,λi x v b d e=>hl' i x v b (w i v d) e⟩,I.cell,I.free,I.freeC,I.pin,I.hok,c.trans I.len⟩
theorem Inv.pins_of {a:List (Addr × Obj)}(I:Inv X pins σ H s)(h:∀ p∈a,s.heap.get? p.1=some p.2/\H p.1=none/\p.1≠X.env.locals/\p.1∉X.fs/\∀ v,p.2.data≠.cell v):Inv X a σ H s :=
 ⟨I.ok,I.os,I.bare,I.base,I.loc,I.cell,I.free,I.freeC,λp b=>(List.mem_append.mp b).elim (λz=>I.pin p (List.mem_append_left _ z)) (h p),I.hok,I.len⟩
theorem Xv {N:List Str}(d:N.Nodup){i j:Nat}{x:Str}(a:N[i]?=some x)(b:N[j]?=some x):i=j:=by
 obtain⟨g,c⟩:=List.getElem?_eq_some_iff.mp a
 obtain⟨f,e⟩:=List.getElem?_eq_some_iff.mp b
 exact(List.getElem_inj d).mp (c.trans e.symm)
theorem zdU {M:Model}{A:Around}{E:Value->Shared->Prop}{i:Nat}{x:Str}{v:V}{u:Value}{Q:Unit->Shared->Prop}(I:Inv X pins σ H s)(hN:X.N.Nodup)(S:X.N[i]?=some x)(w:Loc X.env.scope x)(r:yl v u)
 (h:∀ s',Inv X pins (σ.set i (some v)) H s'->(∃ a,Heap.SameBut a s.heap s'.heap/\(a=X.env.locals\/X.env.cells.lookup x=some a))->Q () s') (hf:X.fn x=true\/X.env.scope.names.lookup x=some .local:=by first | exact .inl rfl | exact .inr rfl | assumption):wpAny M A (storeName X.env x u) Q E s:=by
 obtain⟨m,hn,hl⟩:=id I.loc
 have L:(X.env.scope.kind == .class||(X.env.scope.kind == .module&&X.env.locals != X.env.globals))=false:=by rw[I.ok.kind];rfl
 have P:i < σ.length:=by rw[I.len];exact(List.getElem?_eq_some_iff.mp S).1
 have K:=I.cne
 have g:∀ {a:Addr} {h':Heap},(∃ o,s.heap.get? a=some o/\H a=none)->Heap.SameBut a s.heap h'->HOk X.prog X.w H h':=λ{a h'} ha f b ob e=>by
  obtain⟨_,_,B⟩:=ha
  refine(I.hok b ob e).stay (λc U t q=>(f.2 c ?_).trans q) (λ_ q=>q) λ_ _ q=>q
  rintro rfl
  rcases t with rfl | t
  .rw[B]at e;cases e
  .rw[B]at t;cases t
 rcases w with D | D
 .refine wpAny_storeName_local D hn (λh' a0 f=>?_) L
  obtain⟨oL,_,_,a1,_⟩:=id hn
  refine h _ ⟨I.ok,I.os,I.bare,⟨λb o e n J w=>?_,λb o e n J w=>?_,I.base.free,λb o e w=>?_,I.base.tups,I.base.frzs,I.base.tbls⟩,⟨_,a0,λj y Z l C e3=>?_⟩,λy c e=>?_,I.free,I.freeC,λp hp=>?_,g ⟨oL,a1,I.free⟩ f,by simpa using I.len⟩ ⟨_,f,.inl rfl⟩
  .exact(f.2 b (Nat.ne_of_lt (Nat.lt_of_lt_of_le (Heap.lt_size e) I.ok.above))).trans (I.base.keep b o e n J w)
  .obtain⟨sl,l⟩:=I.base.slot b o e n J w
   exact⟨sl,(f.2 b (Nat.ne_of_lt (Nat.lt_of_lt_of_le (Heap.lt_size e) I.ok.above))).trans l⟩
  .obtain⟨o',l⟩:=I.base.there b o e w
   exact⟨o',(f.2 b (Nat.ne_of_lt (Nat.lt_of_lt_of_le (Heap.lt_size e) I.ok.above))).trans l⟩
  .by_cases G:j=i
   .subst G
    rw[S]at l;cases l
    rw[List.getElem?_set_self P]at C
    cases C
    exact⟨u,r,.inl ⟨D,by simp⟩⟩
   .rw[List.getElem?_set_ne (Ne.symm G)]at C
    obtain⟨u',r',q⟩:=hl j y Z l C e3
    refine⟨u',r',?_⟩
    rcases q with ⟨k,e⟩ | ⟨k,c,e,z⟩
    .refine .inl ⟨k,?_⟩
     have:y≠x:=λe=>G (Xv hN l (e ▸ S))
     simp[this,e]
    .exact .inr ⟨k,c,e,z.sameBut f (K y c e)⟩
  .obtain⟨U,z⟩:=I.cell y c e
   exact⟨U,z.sameBut f (K y c e)⟩
  .obtain⟨e,n,Y,nf,d⟩:=I.pin p hp
   exact⟨(f.2 p.1 Y).trans e,n,Y,nf,d⟩
 .have F:X.fn x=true:=by
   rcases hf with z | z
   .exact z
   .rw[z]at D;cases D
  obtain⟨c,t⟩:=I.ok.has x (.inl D)
  obtain⟨U,z⟩:=I.cell x c t
  refine wpAny_storeName_cell I.ok.kind D t z (λh' R f=>?_)
  obtain⟨oc,T,O⟩:=id z
  refine h { s with heap:=h' } ⟨I.ok,I.os,I.bare,⟨λb o e n J w=>?_,λb o e n J w=>?_,I.base.free,λb o e w=>?_,I.base.tups,I.base.frzs,I.base.tbls⟩,⟨m,hn.sameBut f (Ne.symm (K x c t)),λj y Z l C e3=>?_⟩,λy W e=>?_,I.free,I.freeC,λp hp=>?_,g ⟨oc,T,I.freeC x c t⟩ f,by simpa using I.len⟩ ⟨c,f,.inr t⟩
  .exact(f.2 b (Nat.ne_of_lt (Nat.lt_of_lt_of_le (Heap.lt_size e) (I.ok.cab x c F t)))).trans (I.base.keep b o e n J w)
  .obtain⟨sl,l⟩:=I.base.slot b o e n J w
   exact⟨sl,(f.2 b (Nat.ne_of_lt (Nat.lt_of_lt_of_le (Heap.lt_size e) (I.ok.cab x c F t)))).trans l⟩
  .obtain⟨o',l⟩:=I.base.there b o e w
   exact⟨o',(f.2 b (Nat.ne_of_lt (Nat.lt_of_lt_of_le (Heap.lt_size e) (I.ok.cab x c F t)))).trans l⟩
  .by_cases G:j=i
   .subst G
    rw[S]at l;cases l
    rw[List.getElem?_set_self P]at C
    cases C
    exact⟨u,r,.inr ⟨.inl D,c,t,R⟩⟩
   .rw[List.getElem?_set_ne (Ne.symm G)]at C
    obtain⟨u',r',q⟩:=hl j y Z l C e3
    refine⟨u',r',?_⟩
    rcases q with q | ⟨k,W,e,z'⟩
    .exact .inl q
    .refine .inr ⟨k,W,e,z'.sameBut f ?_⟩
     rintro rfl
     exact G (Xv hN l (I.ok.inj _ _ _ e t ▸ S))
  .by_cases N:W=c
   .subst N;exact⟨_,R⟩
   .obtain⟨w2,z2⟩:=I.cell y W e
    exact⟨w2,z2.sameBut f N⟩
  .obtain⟨e,n,Y,nf,d⟩:=I.pin p hp
   refine⟨(f.2 p.1 ?_).trans e,n,Y,nf,d⟩
   intro q
   rw[q,T]at e
   have q':oc=p.2:=Option.some.inj e
   exact d U (by rw[<-q'];exact O)
theorem Xm {M:Model}{A:Around}{E:Value->Shared->Prop}{i:Nat}{x:Str}{v:V}{u:Value}{Q:Unit->Shared->Prop}(I:Inv X pins σ H s)(d:X.N.Nodup)(c:X.N[i]?=some x)(e:Loc X.env.scope x)(r:yl v u)
 (h:∀ a,Inv X pins (σ.set i (some v)) H a->Q () a) (b:X.fn x=true\/X.env.scope.names.lookup x=some .local:=by first | exact .inl rfl | exact .inr rfl | assumption):wpAny M A (storeName X.env x u) Q E s :=
 zdU I d c e r (λa I' _=>h a I') b
theorem Inv.call' {s':Shared}{ch:List Addr}(I:Inv X pins σ H s)(i:s'.os=s.os)(u:Un (frs X.stack) ch H H' s.heap s'.heap)(d:HOk X.prog X.w H' s'.heap)(k:AllBare s'.gens)
 (a:∀ b∈ch,(b∈X.ex\/X.s₀.heap.objs.size<=b)/\b≠X.env.locals/\(∀ x c,X.env.cells.lookup x=some c->c≠b)/\∀ p∈X.pn++pins,p.1≠b):Inv X pins σ H' s':=by
 obtain⟨h',g,f,h,j⟩:=s'
 have e:j=s.os:=i
 subst e
 exact I.call (g':=g) (t':=h) (d':=f) u d k a
end
noncomputable abbrev XK:=Value->Option Addr->Hp->Prop
noncomputable abbrev St:=List (Option V)
noncomputable abbrev VK:=V->Hp->Prop
noncomputable abbrev TE:=St->Hp->VK->Prop
noncomputable abbrev TT:=St->Hp->(Bool->Hp->Prop)->Prop
noncomputable abbrev TA:=St->Hp->(List V->Hp->Prop)->Prop
structure Wg where
 nx:St->Hp->Prop
 rt:VK
 bk:St->Hp->Prop:=λ_ _=>False
 ct:St->Hp->Prop:=λ_ _=>False
noncomputable abbrev TS:=Wg->St->Hp->Prop
noncomputable def EP (X:Cx)(a:List (Addr × Obj))(σ:St)(Q:VK)(u:Value)(b:Shared):Prop:=∃ v H',Inv X a σ H' b/\yl v u/\Q v H'
noncomputable def TP (X:Cx)(a:List (Addr × Obj))(σ:St)(Q:Bool->Hp->Prop)(b:Bool)(c:Shared):Prop:=∃ H',Inv X a σ H' c/\Q b H'
noncomputable def AP (X:Cx)(a:List (Addr × Obj))(σ:St)(Q:List V->Hp->Prop)(d:List Value)(c:Shared):Prop:=∃ b H',Inv X a σ H' c/\zT b d/\Q b H'
noncomputable def SP (X:Cx)(a:List (Addr × Obj))(D:Wg)(f:Flow)(c:Shared):Prop :=
 match f with
 | .next=>∃ b H',Inv X a b H' c/\D.nx b H'
 | .brk=>∃ b H',Inv X a b H' c/\D.bk b H'
 | .cont=>∃ b H',Inv X a b H' c/\D.ct b H'
 | .ret u=>∃ v b H',Inv X a b H' c/\yl v u/\D.rt v H'
noncomputable def PE (X:Cx)(e:Expr)(t:TE):Prop :=
 ∀ (a:List (Addr × Obj)) (s:Shared) (σ:St) (H:Hp) (Q:VK),Inv X a σ H s->t σ H Q->wpAny (model X.prog X.w) X.A (eval e X.env) (EP X a σ Q) X.xe s
noncomputable def PT (X:Cx)(e:Expr)(t:TT):Prop :=
 ∀ (a:List (Addr × Obj)) (s:Shared) (σ:St) (H:Hp) (Q:Bool->Hp->Prop),Inv X a σ H s->t σ H Q->wpAny (model X.prog X.w) X.A (isTrue e X.env (eval e X.env)) (TP X a σ Q) X.xe s
noncomputable def PW (X:Cx)(e:Expr)(t:TT):Prop :=
 ∀ (b:Sem Value) (a:List (Addr × Obj)) (s:Shared) (σ:St) (H:Hp) (Q:Bool->Hp->Prop),Inv X a σ H s->t σ H Q->wpAny (model X.prog X.w) X.A (isTrue e X.env b) (TP X a σ Q) X.xe s
theorem PW.pt {X:Cx}{e:Expr}{t:TT}(h:PW X e t):PT X e t:=h _
noncomputable def PA (X:Cx)(c:List Expr)(t:TA):Prop :=
 ∀ (b:Pos) (a:List (Addr × Obj)) (s:Shared) (σ:St) (H:Hp) (Q:List V->Hp->Prop),Inv X a σ H s->t σ H Q->wpAny (model X.prog X.w) X.A (spliced (backTo b (starEach c X.env))) (AP X a σ Q) X.xe s
noncomputable def PS (X:Cx)(b:Stmt)(t:TS):Prop :=
 ∀ (a:List (Addr × Obj)) (s:Shared) (σ:St) (H:Hp) (D:Wg),Inv X a σ H s->t D σ H->wpAny (model X.prog X.w) X.A (exec b X.env) (SP X a D) X.xe s
noncomputable def PSs (X:Cx)(b:List Stmt)(t:TS):Prop :=
 ∀ (a:List (Addr × Obj)) (s:Shared) (σ:St) (H:Hp) (D:Wg),Inv X a σ H s->t D σ H->wpAny (model X.prog X.w) X.A (execs b X.env) (SP X a D) X.xe s
theorem thn {α:Type}{t:Sem α}{Q Q':α->Shared->Prop}{M:Model}{A:Around}{E:Value->Shared->Prop}{s:Shared}(h:wpAny M A t Q E s)(b:∀ a s,Q a s->Q' a s):wpAny M A t Q' E s:=wpAny_mono h b λ_ _ x=>x
section
variable {X:Cx}
theorem bin {a b:Expr}{g e:TE}(o:PE X a g)(q:PE X b e){c:List (Addr × Obj)}{s:Shared}{σ:St}{H:Hp}{R:V->V->Hp->Prop}(I:Inv X c σ H s)(h:g σ H λx H1=>e σ H1 λy H2=>R x y H2)
 {α:Type} {Q:α->Shared->Prop} {f:Value->Value->Sem α}
 (n:∀ v u d x y H2,Inv X c σ H2 d->yl x v->yl y u->R x y H2->wpAny (model X.prog X.w) X.A (f v u) Q X.xe d) :
 wpAny (model X.prog X.w) X.A (eval a X.env) (λv k=>wpAny (model X.prog X.w) X.A (eval b X.env) (λu l=>wpAny (model X.prog X.w) X.A (f v u) Q X.xe l) X.xe k) X.xe s:=by
 refine thn (o c s σ H _ I h) λv i hh9=>?_
 obtain⟨x,H1,I1,j,p⟩:=hh9
 refine thn (q c i σ H1 _ I1 p) λu d hh9=>?_
 obtain⟨y,H2,I2,r,m⟩:=hh9
 exact n v u d x y H2 I2 j r m
noncomputable def Yl (i:Nat):TE:=fun σ H Q=>∃ v,σ[i]?=some (some v)/\Q v H
noncomputable def tC (v:V):TE:=λ_ H Q=>Q v H
theorem zkU {i:Nat} {x:Str} {j:Pos} (o:X.N[i]?=some x) (n:Vis X.env.scope x) (f:(x == ("__debug__":Str))=false:=by decide) (g:(x == ("__classdict__":Str))=false:=by decide):PE X (.Name x j) (Yl i):=by
 intro d s σ H Q I h
 obtain⟨v,e,h⟩:=h
 obtain⟨m,q,p⟩:=I.loc
 obtain⟨u,r,l⟩:=p i x v o e n
 have fin:EP X d σ Q u s:=⟨v,H,I,r,h⟩
 rcases l with ⟨b,t⟩ | ⟨b,c,k,a⟩
 .exact wpAny_Name (wpAny_loadName_local I.ok.kind b q t fin) f
 .rcases b with b | b
  .exact wpAny_Name (wpAny_loadName_cell I.ok.kind b k a fin) f
  .exact wpAny_Name (wpAny_loadName_free I.ok.kind b k a fin g) f
theorem zr {i j pos}:PE X (.Constant (.int i) j pos) (tC (.int i)):=λ_ _ _ H _ I h=>wpAny_Constant_int ⟨.int i,H,I.tok _,⟨_,rfl⟩,h⟩
theorem zbw {b j pos}:PE X (.Constant (.bool b) j pos) (tC (.bl b)):=λ_ _ _ H _ I h=>Constant_bool ⟨.bl b,H,I,rfl,h⟩
theorem WS {j pos}:PE X (.Constant .none j pos) (tC .non):=λ_ _ _ H _ I h=>Constant_none ⟨.non,H,I,rfl,h⟩
theorem zj {x j pos}:PE X (.Constant (.str x) j pos) (tC (.str x)):=λ_ _ _ H _ I h=>Calls.Constant_str ⟨.str x,H,I.tok _,⟨_,rfl⟩,h⟩
noncomputable def Gl (X:Cx)(x:Str):Prop:=X.env.kindOf x=some .globalImplicit
theorem wJ {E:Value->Shared->Prop}{a:List (Addr × Obj)}{s:Shared}{σ:St}{H:Hp}{x:Str}{u:Value}{b:Pos}{Q:Value->Shared->Prop}(I:Inv X a σ H s)(d:Gl X x)(e:X.mg x=some u)(h:Q u s)
 (c:(x == ("__debug__":Str))=false:=by decide):wpAny (model X.prog X.w) X.A (eval (.Name x b) X.env) Q E s :=
 Calls.Name_function_global I.ok.kind d (Calls.loadGlobal_global (by rw[I.ok.glob];exact I.mod.glob.keeps I.bk) e h) c
theorem Z5 {E:Value->Shared->Prop}{a:List (Addr × Obj)}{s:Shared}{σ:St}{H:Hp}{x:Str}{u:Value}{b:Pos}{Q:Value->Shared->Prop}(I:Inv X a σ H s)(f:Gl X x)(j:X.mg x=none)(e:bootBuiltins x=some u)(h:Q u s)
 (g:x≠"__name__":=by decide) (c:(x == ("__debug__":Str))=false:=by decide):wpAny (model X.prog X.w) X.A (eval (.Name x b) X.env) Q E s:=by
 obtain⟨k,d,i⟩:=I.mod.blt
 exact Calls.Name_function_global I.ok.kind f (Calls.loadGlobal_builtin (by rw[I.ok.glob];exact I.mod.glob.keeps I.bk) j (by rw[I.ok.blt];exact d.keeps I.bk) ((i x g).trans e) h) c
theorem ye {x:Str} {v:V} {u:Value} {a:Pos} (c:Gl X x) (d:X.mg x=some u) (r:yl v u) (b:(x == ("__debug__":Str))=false:=by decide):PE X (.Name x a) (tC v) :=
 λ_ _ _ H _ I h=>wJ I c d ⟨v,H,I,r,h⟩ b
theorem vl {x:Str} {v:V} {u:Value} {a:Pos} (d:Gl X x) (f:X.mg x=none) (b:bootBuiltins x=some u) (r:yl v u) (e:x≠"__name__":=by decide) (c:(x == ("__debug__":Str))=false:=by decide):PE X (.Name x a) (tC v) :=
 λ_ _ _ H _ I h=>Z5 I d f b ⟨v,H,I,r,h⟩ e c
variable {a b:Expr}{ta tb:TE}{pos:Pos}
noncomputable def PC (X:Cx)(e:CmpOp)(a b:Expr)(t:TE):Prop :=
 ∀ (c:List (Addr × Obj)) (s:Shared) (σ:St) (H:Hp) (Q:VK),Inv X c σ H s->t σ H Q ->
  wpAny (model X.prog X.w) X.A (eval a X.env) (λv f=>wpAny (model X.prog X.w) X.A (eval b X.env) (λu d=>wpAny (model X.prog X.w) X.A (compareOp e v u) (EP X c σ Q) X.xe d) X.xe f) X.xe s
theorem zfp (b:Expr){a:CmpOp}(h:a≠.In)(d:a≠.NotIn):behindInMarks a b=false:=by
 have c:(a == CmpOp.In)=false:=by cases a <;> first | rfl | exact absurd rfl h
 have e:(a == CmpOp.NotIn)=false:=by cases a <;> first | rfl | exact absurd rfl d
 cases b <;> simp[behindInMarks,c,e]
noncomputable def tB (t:TE):TT:=fun σ H Q=>t σ H λx H1=>∃ c,x=.bl c/\Q c H1
theorem pt_cmp {g:CmpOp}{t:TE}(h:PC X g a b t)(f:behindInMarks g b=false:=by first | exact zfp _ (by decide) (by decide) | rfl):PT X (.Compare a [g] [b] pos) (tB t):=by
 intro e s σ H Q I hw
 refine wpAny_isTrue_Compare1 (thn (h e s σ H _ I hw) λv n f=>thn f λu m k=>thn k λc l hh9=>?_) f
 obtain⟨x,H1,I1,i,j⟩:=hh9
 obtain⟨d,rfl,q⟩:=j
 cases i
 exact wpAny_truthy_bool ⟨H1,I1,q⟩
theorem zgE {e:Expr}{t:TE}(h:PE X e t)(f:∀ a,isTrue e X.env a=(do let v<-a;standAt e.pos;holding [v] (truthy v)):=by intro _;rfl):PT X e (tB t):=by
 intro b s σ H Q I hw
 refine isTrue_plain (thn (h b s σ H _ I hw) λv i hh9=>?_) (f _)
 obtain⟨x,H1,I1,c,g⟩:=hh9
 obtain⟨d,rfl,q⟩:=g
 cases c
 exact wpAny_truthy_bool ⟨H1,I1,q⟩
variable {tA tB':TT}{rest:List Expr}
noncomputable def tAnd (t u:TT):TT:=fun σ H Q=>t σ H λc H1=>if c=true then u σ H1 Q else Q false H1
noncomputable def tOr (t u:TT):TT:=fun σ H Q=>t σ H λc H1=>if c=true then Q true H1 else u σ H1 Q
noncomputable def tNot (t:TT):TT:=fun σ H Q=>t σ H λc H1=>Q (!c) H1
theorem ziT (d:PT X a tA):PW X (.BoolOp .And [a] pos) tA:=by
 intro g b s σ H Q I h
 refine isTrue_and (thn (d b s σ H Q I h) λc f e=>?_)
 cases c with
 | true=>exact isTrue_and_nil e
 | false=>exact e
theorem zgY (d:PT X a tA):PW X (.BoolOp .Or [a] pos) tA:=by
 intro g b s σ H Q I h
 refine isTrue_or (thn (d b s σ H Q I h) λc f e=>?_)
 cases c with
 | false=>exact isTrue_or_nil e
 | true=>exact e
theorem zj9 (f:PT X a tA)(i:PW X (.BoolOp .And (b::rest) pos) tB'):PW X (.BoolOp .And (a::b::rest) pos) (tAnd tA tB'):=by
 intro j d s σ H Q I h
 refine isTrue_and (thn (f d s σ H _ I h) λc g hh9=>?_)
 obtain⟨H1,I1,e⟩:=hh9
 cases c with
 | true=>exact i j d g σ H1 Q I1 e
 | false=>exact⟨H1,I1,e⟩
theorem zkL (f:PT X a tA)(i:PW X (.BoolOp .Or (b::rest) pos) tB'):PW X (.BoolOp .Or (a::b::rest) pos) (tOr tA tB'):=by
 intro j d s σ H Q I h
 refine isTrue_or (thn (f d s σ H _ I h) λc g hh9=>?_)
 obtain⟨H1,I1,e⟩:=hh9
 cases c with
 | true=>exact⟨H1,I1,e⟩
 | false=>exact i j d g σ H1 Q I1 e
theorem zgv (d:PT X a tA):PT X (.UnaryOp .Not a pos) (tNot tA):=by
 intro b s σ H Q I h
 exact isTrue_not (d b s σ H (λc H1=>Q (!c) H1) I h)
noncomputable def zmj (ta tb:TE):TE:=fun σ H Q=>ta σ H λx H1=>∃ c,x=.bl c/\if c=true then tb σ H1 Q else Q (.bl false) H1
noncomputable def zmn (ta:TE):TE:=fun σ H Q=>ta σ H λx H1=>∃ c,x=.bl c/\Q (.bl (!c)) H1
theorem zgJ {op}{t:TE}(h:PE X a t):PE X (.BoolOp op [a] pos) t:=λb s σ H Q I hw=>BoolOp_one (h b s σ H Q I hw)
theorem zgG (i:PE X a ta)(j:PE X (.BoolOp .And (b::rest) pos) tb):PE X (.BoolOp .And (a::b::rest) pos) (zmj ta tb):=by
 intro d s σ H Q I h
 refine BoolOp_and (thn (i d s σ H _ I h) λv f hh9=>?_)
 obtain⟨x,H1,I1,g,e⟩:=hh9
 obtain⟨c,rfl,e⟩:=e
 cases g
 refine wpAny_truthy_bool ?_
 cases c with
 | true=>exact j d f σ H1 Q I1 e
 | false=>exact⟨.bl false,H1,I1,rfl,e⟩
theorem zka (f:PE X a ta):PE X (.UnaryOp .Not a pos) (zmn ta):=by
 intro b s σ H Q I h
 refine UnaryOp_ (thn (f b s σ H _ I h) λv g hh9=>?_)
 obtain⟨x,H1,I1,e,d⟩:=hh9
 obtain⟨c,rfl,d⟩:=d
 cases e
 exact not_of (wpAny_truthy_bool ⟨.bl (!c),H1,I1,rfl,d⟩)
end
noncomputable def SqL (K:W.Frag)(H:Hp)(a:Addr)(c:List V):Prop :=
 Rd H a (.lst c) \/
  ∃ (o:Obj) (b:Array Value) (n:Nat),K.lookup a=some o/\o.cls=.type "list"/\o.dict=none/\o.data=.seq b n/\b.size<=sizeLine/\zT c b.toList
noncomputable def SqT (K:W.Frag)(H:Hp)(a:Addr)(c:List V):Prop :=
 Rd H a (.tup c) \/
  ∃ (o:Obj) (b:Array Value) (n:Nat),K.lookup a=some o/\o.cls=.type "tuple"/\o.data=.seq b n/\b.size<=sizeLine/\zT c b.toList
noncomputable def absV:Value->Option V
 | .none=>some .non
 | .bool b=>some (.bl b)
 | .int i _=>some (.int i)
 | .str x _=>some (.str x)
 | .bytes b _=>some (.byt b)
 | .float b _=>some (.flt b)
 | .ref a=>some (.ref a)
 | .type n=>some (.ty n)
 | _=>none
theorem yl.abs {x:V}{u:Value}(r:yl x u):absV u=some x:=by
 cases x with
 | non=>cases r;rfl
 | bl _=>cases r;rfl
 | int _=>obtain⟨t,rfl⟩:=r;rfl
 | str _=>obtain⟨t,rfl⟩:=r;rfl
 | byt _=>obtain⟨t,rfl⟩:=r;rfl
 | flt _=>obtain⟨t,rfl⟩:=r;rfl
 | ref _=>cases r;rfl
 | ty _=>cases r;rfl
theorem yl.inj {x y:V}{u:Value}(r:yl x u)(q:yl y u):x=y:=Option.some.inj (r.abs.symm.trans q.abs)
theorem zT.inj:∀ {b a:List V} {d:List Value},zT b d->zT a d->b=a:=by
 intro b a d h
 induction h generalizing a with
 | nil=>intro c;cases c;rfl
 | cons r t g=>intro c;cases c with | cons e f=>rw[r.inj e,g f]
section
variable {X:Cx}{pins:List (Addr × Obj)}{σ:St}{H:Hp}{s:Shared}{a:Addr}{xs ys:List V}
theorem SqL.of {K:W.Frag}(h:H a=some (.lst xs)):SqL K H a xs:=.inl (.inl h)
theorem SqT.of {K:W.Frag}(h:H a=some (.tup xs)):SqT K H a xs:=.inl (.inl h)
theorem Inv.list (I:Inv X pins σ H s)(h:SqL X.K H a xs):∃ b:List Value,zT xs b/\PlainL s.heap a b.toArray/\xs.length<=sizeLine:=by
 rcases h with h | ⟨o,b,n,c,d,f,g,i,r⟩
 .obtain⟨z,b,n,r,e⟩:=h.ok I.hok
  exact⟨b,r,⟨_,n,e,rfl,rfl,rfl⟩,z⟩
 .refine⟨b.toList,r,⟨o,n,I.kIn a o c,d,f,by simpa using g⟩,?_⟩
  have e:=r.length
  simp only[Array.length_toList]at e
  omega
theorem Inv.tuple (I:Inv X pins σ H s)(h:SqT X.K H a xs):∃ b:List Value,zT xs b/\IsTup s.heap a b.toArray/\xs.length<=sizeLine:=by
 rcases h with h | ⟨o,b,n,c,d,f,g,r⟩
 .obtain⟨z,b,r,p⟩:=h.ok I.hok
  exact⟨b,r,p,z⟩
 .refine⟨b.toList,r,⟨o,I.kIn a o c,d,n,by simpa using f⟩,?_⟩
  have e:=r.length
  simp only[Array.length_toList]at e
  omega
theorem Inv.list_inj (I:Inv X pins σ H s)(h:SqL X.K H a xs)(j:SqL X.K H a ys):xs=ys:=by
 obtain⟨c,r,⟨o,n,e,_,_,d⟩,_⟩:=I.list h
 obtain⟨b,i,⟨k,l,g,_,_,f⟩,_⟩:=I.list j
 rw[e]at g;cases g
 rw[d]at f
 injection f with d1 _
 have:c=b:=by simpa using congrArg Array.toList d1
 subst this
 exact r.inj i
theorem Inv.tuple_inj (I:Inv X pins σ H s)(h:SqT X.K H a xs)(j:SqT X.K H a ys):xs=ys:=by
 obtain⟨c,r,⟨o,e,_,n,d⟩,_⟩:=I.tuple h
 obtain⟨b,i,⟨k,g,_,l,f⟩,_⟩:=I.tuple j
 rw[e]at g;cases g
 rw[d]at f
 injection f with d1 _
 have:c=b:=by simpa using congrArg Array.toList d1
 subst this
 exact r.inj i
end
noncomputable abbrev Cx.wish (X:Cx)(E:Value->Shared->Prop):Cx:={ X with xe:=E }
noncomputable abbrev Cx.nox (X:Cx):Cx:=X.wish λ_ _=>False
theorem Cx.Ok.wish {X:Cx}(ok:X.Ok)(E:Value->Shared->Prop):(X.wish E).Ok :=
 ⟨ok.mod,ok.kind,ok.glob,ok.blt,ok.above,ok.inj,ok.has,ok.cab,ok.hd,ok.frames,ok.stk,ok.exf,ok.bs,ok.bsz,ok.noex,ok.exfs,ok.funs,ok.frf⟩
theorem Cx.Ok.unwish {X:Cx}{E:Value->Shared->Prop}(ok:(X.wish E).Ok):X.Ok :=
 ⟨ok.mod,ok.kind,ok.glob,ok.blt,ok.above,ok.inj,ok.has,ok.cab,ok.hd,ok.frames,ok.stk,ok.exf,ok.bs,ok.bsz,ok.noex,ok.exfs,ok.funs,ok.frf⟩
section
variable {X:Cx}{pins:List (Addr × Obj)}{σ:St}{H:Hp}{s:Shared}{E:Value->Shared->Prop}
theorem Inv.wish (I:Inv X pins σ H s)(E:Value->Shared->Prop):Inv (X.wish E) pins σ H s:=⟨I.ok.wish E,I.os,I.bare,I.base,I.loc,I.cell,I.free,I.freeC,I.pin,I.hok,I.len⟩
theorem Inv.unwish (I:Inv (X.wish E) pins σ H s):Inv X pins σ H s:=⟨I.ok.unwish,I.os,I.bare,I.base,I.loc,I.cell,I.free,I.freeC,I.pin,I.hok,I.len⟩
theorem SP.unwish {D:Wg}{f:Flow}{b:Shared}(h:SP (X.wish E) pins D f b):SP X pins D f b:=by
 cases f with
 | next=>obtain⟨a,H',I,q⟩:=h;exact⟨a,H',I.unwish,q⟩
 | brk=>obtain⟨a,H',I,q⟩:=h;exact⟨a,H',I.unwish,q⟩
 | cont=>obtain⟨a,H',I,q⟩:=h;exact⟨a,H',I.unwish,q⟩
 | ret u=>obtain⟨v,a,H',I,r,q⟩:=h;exact⟨v,a,H',I.unwish,r,q⟩
theorem PSs.nox {a:List Stmt}{t:TS}(h:PSs X.nox a t):PSs X a t:=λpins s σ H D I hw =>
 wpAny_mono (h pins s σ H D (I.wish _) hw) (λ_ _ q=>q.unwish) λ_ _ z=>False.elim z
end
section
variable {X:Cx}{st:Stmt}{rest:List Stmt}{t u:TS}{e:Expr}{te:TE}{pos:Pos}
noncomputable def zkG:TS:=λD σ H=>D.nx σ H
noncomputable def zlg (t u:TS):TS:=λD σ H=>t { D with nx:=u D } σ H
theorem zcK:PSs X [] zkG:=λ_ _ σ H _ I h=>wpAny_execs_nil ⟨σ,H,I,h⟩
theorem yK (e:PS X st t)(d:PSs X rest u):PSs X (st::rest) (zlg t u):=by
 intro a s σ H D I h
 refine wpAny_execs_cons (thn (e a s σ H { D with nx:=u D } I h) λf c q=>?_)
 cases f with
 | next =>
  obtain⟨b,H',I',q⟩:=q
  exact d a c b H' D I' q
 | ret v=>exact q
 | brk=>exact q
 | cont=>exact q
theorem vb (b:PS X st t):PSs X [st] t:=by
 intro a s σ H D I h
 refine wpAny_execs_cons (thn (b a s σ H D I h) λf c q=>?_)
 cases f with
 | next=>exact wpAny_execs_nil q
 | ret v=>exact q
 | brk=>exact q
 | cont=>exact q
theorem Inv.quiet {a:List (Addr × Obj)}{σ:St}{H:Hp}{s:Shared}(I:Inv X a σ H s):interactive X.env=false:=by simp[interactive,I.ok.kind]
noncomputable def zlN (te:TE):TS:=λD σ H=>te σ H λ_ H1=>D.nx σ H1
theorem Zs (c:PE X e te)(d:swapsWith e none pos.line X.env=pure false:=by rfl):PS X (.Expr e pos) (zlN te):=by
 intro a s σ H D I h
 exact wpAny_Expr_any (thn (c a s σ H _ I h) λv f ⟨x,H1,I1,g,b⟩=>⟨σ,H1,I1,b⟩) I.quiet d
noncomputable def zl7 (te:TE):TS:=λD σ H=>te σ H D.rt
theorem Z6 (d:PE X e te):PS X (.Return (some e) pos) (zl7 te):=by
 intro a s σ H D I h
 exact wpAny_Return_some (thn (d a s σ H _ I h) λv f ⟨x,H1,I1,c,b⟩=>⟨x,σ,H1,I1,c,b⟩)
noncomputable def tIfS (c:TT)(t u:TS):TS:=λD σ H=>c σ H λb H1=>if b=true then t D σ H1 else u D σ H1
theorem zg9 {c:Expr}{a b:List Stmt}{f:TT}(j:PT X c f)(k:PSs X a t)(l:PSs X b u):PS X (.If c a b pos) (tIfS f t u):=by
 intro e s σ H D I h
 refine wpAny_If (thn (j e s σ H _ I h) λd g hh9=>?_)
 obtain⟨H1,I1,i⟩:=hh9
 cases d with
 | true=>exact k e g σ H1 D I1 i
 | false=>exact l e g σ H1 D I1 i
noncomputable def zgS:TS:=λ_ _ _=>False
theorem zav:PS X st zgS:=λ_ _ _ _ _ _ h=>h.elim
theorem zb7 {a:List Stmt}:PSs X a zgS:=λ_ _ _ _ _ _ h=>h.elim
end
noncomputable abbrev TG:=V->St->Hp->(St->Hp->Prop)->Prop
noncomputable abbrev TGs:=List V->St->Hp->(St->Hp->Prop)->Prop
noncomputable def PG (X:Cx)(a:Expr)(t:TG):Prop :=
 ∀ (b:List (Addr × Obj)) (s:Shared) (σ:St) (H:Hp) (v:V) (u:Value) (Q:St->Hp->Prop),Inv X b σ H s->yl v u->t v σ H Q ->
  wpAny (model X.prog X.w) X.A (assign a X.env u) (λ_ d=>∃ c H',Inv X b c H' d/\Q c H') X.xe s
noncomputable def PGs (X:Cx)(e:List Expr)(t:TGs):Prop :=
 ∀ (a:List (Addr × Obj)) (s:Shared) (σ:St) (H:Hp) (c:List V) (d:List Value) (Q:St->Hp->Prop),Inv X a σ H s->zT c d->t c σ H Q ->
  wpAny (model X.prog X.w) X.A (assignInOrder ((assignEach e X.env).map (·.2)) d) (λ_ f=>∃ b H',Inv X a b H' f/\Q b H') X.xe s
section
variable {X:Cx}{pos:Pos}
noncomputable def ZN (i:Nat):TG:=λv σ H Q=>Q (σ.set i (some v)) H
theorem xh {i:Nat}{x:Str}(e:X.N.Nodup)(d:X.N[i]?=some x)(b:Loc X.env.scope x)(c:X.fn x=true\/X.env.scope.names.lookup x=some .local:=by first | exact .inl rfl | exact .inr rfl | assumption):PG X (.Name x pos) (ZN i):=by
 intro a s σ H v u Q I r h
 exact wpAny_assign_Name (Xm I e d b r (λf I'=>⟨_,H,I',h⟩) c)
noncomputable def gNil:TGs:=λa σ H Q=>a=[]/\Q σ H
noncomputable def zlS (t:TG)(u:TGs):TGs:=λa σ H Q=>∃ v r,a=v::r/\t v σ H λb H'=>u r b H' Q
theorem zhv:PGs X [] gNil:=by
 intro a s σ H b c Q I r h
 obtain⟨e,h⟩:=h
 subst e
 cases r
 exact assignInOrder_nil ⟨σ,H,I,h⟩
theorem zeJ {e:Expr}{b:List Expr}{t:TG}{u:TGs}(f:PG X e t)(j:PGs X b u)
 (l:(assignEach (e::b) X.env).map (·.2)=assign e X.env::(assignEach b X.env).map (·.2):=by rfl):PGs X (e::b) (zlS t u):=by
 intro a s σ H o n Q I r h
 obtain⟨v,m,c,h⟩:=h
 subst c
 cases r with
 | cons r i =>
  rw[l]
  refine assignInOrder_cons (thn (f a s σ H _ _ _ I r h) λ_ d hh9=>?_)
  obtain⟨k,H1,I1,g⟩:=hh9
  exact j a d k H1 _ _ Q I1 i g
noncomputable def gTup (K:W.Frag)(n:Nat)(t:TGs):TG:=λv σ H Q=>∃ a b,v=.ref a/\SqT K H a b/\b.length=n/\t b σ H Q
theorem zjn {d:List Expr}{k:Nat}{t:TGs}{n:Nat}(q:X.calm=true)(h:PGs X d t)
 (x:(assignEach d X.env).length=n:=by rfl) (f:(assignEach d X.env).findIdx? (·.1)=none:=by rfl):PG X (.Tuple d k pos) (gTup X.K n t):=by
 intro c s σ H v u Q I r hw
 obtain⟨a,w,j,p,y,hw⟩:=hw
 subst j
 cases r
 obtain⟨z,g,i,A⟩:=I.tuple p
 refine assign_Tuple_tuple (I.ok.hd q) i (by simp[x,<- y,g.length]) f λl m=>?_
 have I1:Inv X c σ H { s with heap:=l }:=I.kept (t':=s.toks) λb o e=>m b o (Nat.ne_of_lt (Heap.lt_size e)) e
 exact h c _ σ H w _ Q I1 (by simpa using g) hw
noncomputable def zk2 (a:TE)(g:TG):TS:=λD σ H=>a σ H λx H1=>g x σ H1 D.nx
theorem ww {i:Nat}{x:Str}{e:Expr}{c:TE}{a:Pos}(l:X.N.Nodup)(j:X.N[i]?=some x)(f:Loc X.env.scope x)(m:PE X e c)(n:swapsWith e (some (.Name x a)) pos.line X.env=pure false:=by rfl)(g:X.fn x=true\/X.env.scope.names.lookup x=some .local:=by first | exact .inl rfl | exact .inr rfl | assumption) :
 PS X (.Assign [.Name x a] e pos) (zk2 c (ZN i)):=by
 intro b s σ H D I h
 refine wpAny_Assign_Name (thn (m b s σ H _ I h) λv p hh9=>?_) n
 obtain⟨y,H1,I1,d,k⟩:=hh9
 exact Xm I1 l j f d (λo I2=>⟨_,H1,I2,k⟩) g
end
structure It where
 go:Nat->Hp->Prop
 yld:Nat->Hp->V->Hp->Prop
 stop:Nat->Hp->Prop
noncomputable def zbO (X:Cx)(a:List (Addr × Obj))(H:Hp)(b:Addr):Prop :=
 H b=none/\b≠X.env.locals/\b∉X.fs/\(b∈X.ex\/X.s₀.heap.objs.size<=b)/\(∀ x c,X.env.cells.lookup x=some c->c≠b)/\∀ p∈X.pn++a,p.1≠b
theorem Inv.fpOk {X:Cx}{a:List (Addr × Obj)}{σ:St}{H H':Hp}{s:Shared}{b:Addr}(I:Inv X a σ H s)(d:s.heap.objs.size<=b)(f:H' b=none):zbO X a H' b:=by
 refine⟨f,Nat.ne_of_gt (Nat.lt_of_lt_of_le I.lt d),I.nofs d,.inr (Nat.le_trans I.sz d),λx c e z=>?_,λp g z=>?_⟩
 .obtain⟨v,q⟩:=I.cell x c e
  exact absurd (Nat.lt_of_lt_of_le q.lt (by rw[z];exact d)) (Nat.lt_irrefl _)
 .exact absurd (Nat.lt_of_lt_of_le (Heap.lt_size (I.pin p g).1) (by rw[z];exact d)) (Nat.lt_irrefl _)
structure ziV (P:Program) (w:World) (K:W.Frag) (tg:Expr) (J:It) (fp:List Addr) (it:Addr) (tn:Nat->Heap->Prop):Prop where
 mem:it∈fp
 obj:∀ i h,tn i h->∀ b∈fp,∃ o,h.get? b=some o/\∀ v,o.data≠.cell v
 keep:∀ i h h',tn i h->(∀ b∈fp,∀ o,h.get? b=some o->h'.get? b=some o)->tn i h'
 item:∀ (X:Cx),X.prog=P->X.w=w->X.K=K->X.calm=true->∀ (i:Nat) (pins:List (Addr × Obj)) (s:Shared) (σ:St) (H:Hp) (E:Value->Shared->Prop),Inv X pins σ H s->(∀ b∈fp,zbO X pins H b)->tn i s.heap->J.go i H ->
  wpAny (model P w) X.A (pyNext (.ref it)) (λr s1=>∃ u,r=some u /\
   wpAny (model P w) X.A (letOwnedTupleGo tg (.ref it) u) (λ_ s2=>∃ x H',Inv X pins σ H' s2/\yl x u/\J.yld i H x H'/\tn (i+1) s2.heap/\∀ b∈fp,H' b=none) E s1) E s
 done:∀ (X:Cx),X.prog=P->X.w=w->X.K=K->X.calm=true->∀ (i:Nat) (pins:List (Addr × Obj)) (s:Shared) (σ:St) (H:Hp) (E:Value->Shared->Prop),Inv X pins σ H s->(∀ b∈fp,zbO X pins H b)->tn i s.heap->J.stop i H ->
  wpAny (model P w) X.A (pyNext (.ref it)) (λr s1=>r=none/\Inv X pins σ H s1) E s
 self:∀ (A:Around) (i:Nat) (s:Shared) (Q:Value->Shared->Prop) (E:Value->Shared->Prop),tn i s.heap->Q (.ref it) s->wpAny (model P w) A (pyIter (.ref it)) Q E s
noncomputable abbrev TI:=St->Hp->(It->Hp->Prop)->Prop
noncomputable def PIE (X:Cx)(a:List (Addr × Obj))(σ:St)(h:Expr)(R:It->Hp->Prop)(c:Value)(d:Shared):Prop :=
 ∃ (f:Addr) (g:List Addr) (e:Nat->Heap->Prop) (J:It) (H':Hp),c=.ref f/\Inv X a σ H' d/\ziV X.prog X.w X.K h J g f e/\e 0 d.heap/\(∀ b∈g,zbO X a H' b)/\R J H'
noncomputable def PI (X:Cx)(c b:Expr)(d:TI):Prop :=
 ∀ (a:List (Addr × Obj)) (s:Shared) (σ:St) (H:Hp) (R:It->Hp->Prop),Inv X a σ H s->d σ H R ->
  wpAny (model X.prog X.w) X.A (eval b X.env) (λv e=>wpAny (model X.prog X.w) X.A (pyIter v) (PIE X a σ c R) X.xe e) X.xe s
theorem zf1 {M:Model}{A:Around}{E:Value→Shared→Prop}{s:Shared}{tg:Expr}{it:Addr}{u:Value}{o:Obj}{n:String}{vs:Array Value}{Q:Unit→Shared→Prop}(ho:s.heap.get? it=some o)(hc:o.cls=.type n)(hd:o.data=.fields vs)
    (hn:["enumerate","zip","dict_itemiterator","dict_reverseitemiterator","odict_iterator","itertools.zip_longest","itertools.pairwise"].contains n=false) (hQ:Q () s):wpAny M A (letOwnedTupleGo tg (.ref it) u) Q E s:=by
  unfold letOwnedTupleGo
  cases tg <;> first
    | exact wpAny_pure hQ
    | (cases u <;> first
        | exact wpAny_pure hQ
        | (refine wpAny_bind (wpAny_load ho ?_)
           rw [hc,hd]
           show wpAny M A (if (["enumerate","zip","dict_itemiterator","dict_reverseitemiterator","odict_iterator","itertools.zip_longest","itertools.pairwise"].contains n&&vs[0]? == some (rawInt _))=true then _ else _) Q E s
           rw [if_neg (by intro h;rw [hn,Bool.false_and] at h;cases h)]
           exact wpAny_pure hQ))
noncomputable def Itl (K:W.Frag)(a:Addr):It :=
 ⟨λi H=>∃ b x,SqL K H a b/\b[i]?=some x,λi H x H'=>H'=H/\∀ b,SqL K H a b->b[i]?=some x,λi H=>∃ b,SqL K H a b/\b.length<=i⟩
noncomputable def Itt (K:W.Frag)(a:Addr):It :=
 ⟨λi H=>∃ b x,SqT K H a b/\b[i]?=some x,λi H x H'=>H'=H/\∀ b,SqT K H a b->b[i]?=some x,λi H=>∃ b,SqT K H a b/\b.length<=i⟩
noncomputable def Itr (a:Int)(n:Nat):It:=⟨λi _=>i < n,λi H x H'=>H'=H/\x=.int (a+i),λi _=>n<=i⟩
theorem zen {P:Program}{w:World}{K:W.Frag}{tg:Expr}(a it:Addr):ziV P w K tg (Itl K a) [it] it (λi h=>h.IsListIter it a i) where
 mem:=by simp
 obj:=λi h st b hb=>by
  have e:b=it:=by simpa using hb
  subst e
  obtain⟨o,e,c,d⟩:=st
  exact⟨o,e,λv z=>by rw[d]at z;cases z⟩
 keep:=λi h h' st k=>st.at λo e=>k it (by simp) o e
 item:=by
  intro X hP hw hK hc i pins s σ H E I hf st hg
  subst hP hw hK
  obtain⟨xs,x,hq,hx⟩:=hg
  obtain⟨its,rv,p,hz⟩:=I.list hq
  obtain⟨u,hu,ru⟩:=rv.get hx
  obtain⟨f0,f1,f2,f3,f4,f5⟩:=hf it (by simp)
  refine wpAny_pyNext_list_item st p.isList (x:=u) (by simpa using hu) λh' st' sb=>?_
  have I1:Inv X pins σ H { s with heap:=h' }:=I.turned (t':=s.toks) (λb o hb e=>(sb.2 b hb).trans e) f0 f1 f3 f4 f5
  obtain⟨o,e,c,d⟩:=id st'
  exact⟨u,rfl,zf1 (s:={ s with heap:=h' }) e c d (by decide) ⟨x,H,I1,ru,⟨rfl,λys hy=>by rw[I.list_inj hy hq];exact hx⟩,st',λb hb=>(hf b hb).1⟩⟩
 done:=by
  intro X hP hw hK hc i pins s σ H E I hf st hg
  subst hP hw hK
  obtain⟨xs,hq,hx⟩:=hg
  obtain⟨its,rv,p,hz⟩:=I.list hq
  obtain⟨f0,f1,f2,f3,f4,f5⟩:=hf it (by simp)
  have hl:=rv.length
  exact wpAny_pyNext_list_end (I.ok.hd hc) st p.isList (by simp;omega) λh' eb=>⟨rfl,I.turned (t':=s.toks) (λb o hb e=>eb b o hb e) f0 f1 f3 f4 f5⟩
 self:=λ_ _ _ _ _ st h=>wpAny_pyIter_listiter st h
theorem zbl {P:Program}{w:World}{K:W.Frag}{tg:Expr}(a it:Addr):ziV P w K tg (Itt K a) [it] it (λi h=>h.IsTupleIter it a i) where
 mem:=by simp
 obj:=λi h st b hb=>by
  have e:b=it:=by simpa using hb
  subst e
  obtain⟨o,e,c,d⟩:=st
  exact⟨o,e,λv z=>by rw[d]at z;cases z⟩
 keep:=λi h h' st k=>st.at λo e=>k it (by simp) o e
 item:=by
  intro X hP hw hK hc i pins s σ H E I hf st hg
  subst hP hw hK
  obtain⟨xs,x,hq,hx⟩:=hg
  obtain⟨its,rv,p,hz⟩:=I.tuple hq
  obtain⟨u,hu,ru⟩:=rv.get hx
  obtain⟨f0,f1,f2,f3,f4,f5⟩:=hf it (by simp)
  refine wpAny_pyNext_tuple_item st (show s.heap.IsTuple a its.toArray from p) (x:=u) (by simpa using hu) λh' st' sb=>?_
  have I1:Inv X pins σ H { s with heap:=h' }:=I.turned (t':=s.toks) (λb o hb e=>(sb.2 b hb).trans e) f0 f1 f3 f4 f5
  obtain⟨o,e,c,d⟩:=id st'
  exact⟨u,rfl,zf1 (s:={ s with heap:=h' }) e c d (by decide) ⟨x,H,I1,ru,⟨rfl,λys hy=>by rw[I.tuple_inj hy hq];exact hx⟩,st',λb hb=>(hf b hb).1⟩⟩
 done:=by
  intro X hP hw hK hc i pins s σ H E I hf st hg
  subst hP hw hK
  obtain⟨xs,hq,hx⟩:=hg
  obtain⟨its,rv,p,hz⟩:=I.tuple hq
  obtain⟨f0,f1,f2,f3,f4,f5⟩:=hf it (by simp)
  have hl:=rv.length
  exact wpAny_pyNext_tuple_end (I.ok.hd hc) st (show s.heap.IsTuple a its.toArray from p) (by simp;omega) λh' eb=>⟨rfl,I.turned (t':=s.toks) (λb o hb e=>eb b o hb e) f0 f1 f3 f4 f5⟩
 self:=λ_ _ _ _ _ st h=>wpAny_pyIter_tupleiter st h
theorem zbq {P:Program}{w:World}{K:PySem.W.Frag}{tg:Expr}(it:Addr)(lo:Int)(n:Nat):ziV P w K tg (Itr lo n) [it] it (λi h=>IsRangeIter h it (lo+(i:Nat)*1) ((n:Int) - (i:Nat)) 1) where
 mem:=by simp
 obj:=λi h st b hb=>by
  have e:b=it:=by simpa using hb
  subst e
  exact⟨_,st,λv z=>by
   have z':Data.fields _=Data.cell v:=z
   cases z'⟩
 keep:=λi h h' st k=>k it (by simp) _ st
 item:=by
  intro X hP hw hK hc i pins s σ H E I hf st hg
  subst hP hw hK
  obtain⟨f0,f1,f2,f3,f4,f5⟩:=hf it (by simp)
  have W:=Walks.range (prog:=X.prog) (w:=X.w) (I.ok.hd hc) it lo 1 n
  refine W.item i s _ _ hg st λv h' tk hv st' kk=>?_
  obtain⟨t,rfl⟩:=hv
  have I1:Inv X pins σ H { s with heap:=h',toks:=tk }:=I.turned (λb o hb e=>kk b o (by simpa using hb) e) f0 f1 f3 f4 f5
  refine⟨_,rfl,zf1 (s:={ s with heap:=h',toks:=tk }) (n:="range_iterator") st' rfl rfl (by decide) ⟨.int (lo+i),H,I1,⟨t,?_⟩,⟨rfl,rfl⟩,st',λb hb=>(hf b hb).1⟩⟩
  rw[Int.mul_one]
 done:=by
  intro X hP hw hK hc i pins s σ H E I hf st hg
  subst hP hw hK
  obtain⟨f0,f1,f2,f3,f4,f5⟩:=hf it (by simp)
  exact wpAny_pyNext_range_end (I.ok.hd hc) st (by have:n<=i:=hg;omega) λh' eb=>⟨rfl,I.turned (t':=s.toks) (λb o hb e=>eb b o hb e) f0 f1 f3 f4 f5⟩
 self:=λ_ _ _ _ _ st h=>wpAny_pyIter_rangeiter st h
section
variable {X:Cx}{tg:Expr}
theorem zay {d:List (Addr × Obj)}{σ:St}{H:Hp}{s:Shared}{R:It->Hp->Prop}{E:Value->Shared->Prop}{a c:Int}{t u v:Tok}{f:Nat}(I:Inv X d σ H s)(h:-(2 ^ 62)<=a)(l:a < 2 ^ 62)(i:-(2 ^ 62)<=c)(m:c < 2 ^ 62)
 (q:R (Itr a (c - a).toNat) H):wpAny (model X.prog X.w) X.A (pyIter (.ref s.heap.objs.size)) (PIE X d σ tg R) E { s with heap:=s.heap.push { cls:=.type "range",data:=.fields #[.int a t,.int c u,.int 1 v] },toks:=f }:=by
 refine wpAny_pyIter_range (IsRange.new ..) (small_one h l i m) ?_
 have I1:Inv X d σ H { s with heap:=s.heap.push { cls:=.type "range",data:=.fields #[.int a t,.int c u,.int 1 v] },toks:=f }:=I.kept λb o e=>Heap.get?_push_of_some _ e
 refine⟨(s.heap.push { cls:=.type "range",data:=.fields #[.int a t,.int c u,.int 1 v] }).objs.size,[(s.heap.push { cls:=.type "range",data:=.fields #[.int a t,.int c u,.int 1 v] }).objs.size],_,_,H,rfl,
  I1.kept (t':=f) λb o e=>Heap.get?_push_of_some _ e,zbq _ a (c - a).toNat,?_,λb j=>?_,q⟩
 .have g:a+((0:Nat):Int)*1=a:=by simp
  have k:(((c - a).toNat:Nat):Int) - ((0:Nat):Int)=Builtin.Range.rangeSize a c 1:=by rw[rangeSize_one];split <;> omega
  show IsRangeIter _ _ (a+((0:Nat):Int)*1) ((((c - a).toNat:Nat):Int) - ((0:Nat):Int)) 1
  rw[g,k]
  exact Heap.get?_push_size _ rfl
 .have e:b=(s.heap.push { cls:=.type "range",data:=.fields #[.int a t,.int c u,.int 1 v] }).objs.size:=by simpa using j
  subst e
  exact I1.fpOk (Nat.le_refl _) (I1.hok.fresh (Nat.le_refl _))
noncomputable def zl0 (b:TA):TI:=fun σ H R=>b σ H λa H1=>∃ j:Int,a=[.int j]/\-(2 ^ 62)<=j/\j < 2 ^ 62/\R (Itr 0 j.toNat) H1
noncomputable def zlK (b:TA):TI:=fun σ H R=>b σ H λa H1=>∃ i j:Int,a=[.int i,.int j]/\(-(2 ^ 62)<=i/\i < 2 ^ 62/\-(2 ^ 62)<=j/\j < 2 ^ 62)/\R (Itr i (j - i).toNat) H1
theorem zcr {a:Expr} {f:TA} {p c:Pos} (n:Gl X "range") (o:X.mg "range"=none) (l:PA X [a] f) (g:starEach [a] X.env=[(false,eval a X.env)]:=by rfl):PI X tg (.Call (.Name "range" p) [a] [] c) (zl0 f):=by
 intro b s σ H R I h
 refine Call_ (Z5 I n o boot_range (PyProof.Rows.callWith_type1 (thn (l c b s σ H _ I h) λw u hh9=>?_) g rfl))
 obtain⟨v,H1,I1,i,d⟩:=hh9
 obtain⟨j,e,d,k,q⟩:=d
 subst e
 cases i with
 | cons r m =>
  cases m
  obtain⟨t,rfl⟩:=r
  exact call_range_1 (zay I1 (by omega) (by omega) d k (by simpa using q))
theorem WG {a b:Expr} {l:TA} {p f:Pos} (x:Gl X "range") (y:X.mg "range"=none) (w:PA X [a,b] l) (z:starEach [a,b] X.env=[(false,eval a X.env),(false,eval b X.env)]:=by rfl) (d:starEach [b] X.env=[(false,eval b X.env)]:=by rfl) :
 PI X tg (.Call (.Name "range" p) [a,b] [] f) (zlK l):=by
 intro c s σ H R I h
 refine Call_ (Z5 I x y boot_range (PyProof.Rows.callWith_type1 (thn (w f c s σ H _ I h) λA B hh9=>?_) (by rw[z,d]) (by rw[d];rfl)))
 obtain⟨C,H1,I1,n,g⟩:=hh9
 obtain⟨i,j,e,⟨g,v,o,m⟩,q⟩:=g
 subst e
 cases n with
 | cons r k =>
  cases k with
  | cons u k =>
   cases k
   obtain⟨t,rfl⟩:=r
   obtain⟨D,rfl⟩:=u
   exact call_range_2 (zay I1 g v o m q)
noncomputable def tFor (d:TI)(g:TG)(c:TS):TS:=λD σ H=>d σ H λJ H1=>∃ W:Nat->Nat->St->Hp->Prop,(∃ m,W 0 m σ H1)/\∀ i m σ H,W i m σ H ->
 (J.stop i H/\D.nx σ H)\/(J.go i H/\∃ N:St->Hp->Prop,(∀ b H',N b H'->∃ a,a < m/\W (i+1) a b H')/\∀ x H',J.yld i H x H'->g x σ H' λe H2=>c { D with nx:=N,ct:=N,bk:=D.nx } e H2)
noncomputable def ZV (a:List Addr)(h:Heap):List (Addr × Obj):=a.filterMap λb=>(h.get? b).map λo=>(b,o)
theorem xX {a:List Addr}{h:Heap}{b:Addr}{o:Obj}(c:b∈a)(e:h.get? b=some o):(b,o)∈ZV a h:=List.mem_filterMap.mpr ⟨b,c,by rw[e];rfl⟩
theorem zee {a:List Addr}{h:Heap}{p:Addr × Obj}(c:p∈ZV a h):p.1∈a/\h.get? p.1=some p.2:=by
 obtain⟨b,d,e⟩:=List.mem_filterMap.mp c
 cases q:h.get? b with
 | none=>rw[q]at e;cases e
 | some o =>
  rw[q]at e
  have f:(b,o)=p:=Option.some.inj e
  subst f
  exact⟨d,q⟩
theorem Inv.pinned {a:List (Addr × Obj)}{σ:St}{H:Hp}{s:Shared}{fp:List Addr}(I:Inv X a σ H s)(k:∀ b∈fp,zbO X a H b)(j:∀ b∈fp,∃ o,s.heap.get? b=some o/\∀ v,o.data≠.cell v):Inv X (a++ZV fp s.heap) σ H s :=
 I.pins_of λp l=>(List.mem_append.mp l).elim (λz=>I.pin p (List.mem_append_right _ z)) λz=>by
  obtain⟨c,e⟩:=zee z
  obtain⟨h,g,i,_⟩:=k p.1 c
  obtain⟨o,f,d⟩:=j p.1 c
  rw[e]at f;cases f
  exact⟨e,h,g,i,d⟩
theorem Inv.unpinned {a pl:List (Addr × Obj)}{σ:St}{H:Hp}{s:Shared}(I:Inv X (a++pl) σ H s):Inv X a σ H s:=I.pins_of λp b=>I.pin p (List.mem_append_right _ (List.mem_append_left _ b))
theorem zc1 {l:Expr}{t:List Stmt}{wi:TI}{g:TG}{U:TS}{O:Pos}(B:PassesOwn (model X.prog X.w) X.A X.env X.xe)(R:X.calm=true)(hi:PI X tg l wi)(hg:PG X tg g)(c:PSs X t U)
 (hs:∀ x,foldedSetIterable l X.env x=pure x:=by intro _;rfl):PS X (.For tg l t [] O) (tFor wi g U):=by
 intro a s σ H D I h
 refine wpAny_For (thn (hi a s σ H _ I h) λv s1 h1=>thn h1 λa0 s2 h2=>?_) hs
 obtain⟨it,F,Y,J,H2,e,I2,T,L,V,W,⟨m0,w0⟩,turn⟩:=h2
 subst e
 -- what stays true of the iterator's objects through the loop
 have k:∀ {H':Hp},(∀ b∈F,H' b=none)->∀ b∈F,zbO X a H' b:=λhn b c=>⟨hn b c,(V b c).2⟩
 refine codeAny_forLoop_any (λn Z=>∃ i y H',Inv X a y H' Z/\Y i Z.heap/\(∀ b∈F,H' b=none)/\W i n y H') ?_ m0 ⟨0,σ,H2,I2,L,λb c=>(V b c).1,w0⟩
 rintro n S ⟨i,z,H3,I3,C,K,w3⟩
 rcases turn i n z H3 w3 with ⟨G,qn⟩ | ⟨go,N,hN,A⟩
 .refine wpAny_passesOwn B (thn (T.done X rfl rfl rfl R i a S z H3 X.xe I3 (k K) C G) λr s4 hh9=>?_)
  obtain⟨M,I4⟩:=hh9
  subst M
  exact wpAny_execs_nil ⟨z,H3,I4,qn⟩
 .refine wpAny_passesOwn B (thn (T.item X rfl rfl rfl R i a S z H3 X.xe I3 (k K) C go) λr s4 hh9=>?_)
  obtain⟨u,M,h4⟩:=hh9
  subst M
  refine wpAny_passesOwn B (thn h4 λ_ s5 hh9=>?_)
  obtain⟨x,H5,I5,r5,y5,w,Q⟩:=hh9
  have I5':=I5.pinned (k Q) (T.obj _ _ w)
  refine wpAny_passesOwn B (thn (hg _ s5 z H5 x u _ I5' r5 (A x H5 y5)) λ_ s6 hh9=>?_)
  obtain⟨σ6,H6,I6,q6⟩:=hh9
  refine wpAny_passesOwn B (thn (c _ s6 σ6 H6 _ I6 q6) λf P q=>?_)
  have p:∀ {j:St} {H7:Hp},Inv X (a++ZV F s5.heap) j H7 P->N j H7->∃ m,m < n/\∃ i y H',Inv X a y H' P/\Y i P.heap/\(∀ b∈F,H' b=none)/\W i m y H':=λ{j H7} I7 E=>by
   obtain⟨m',hm,w7⟩:=hN j H7 E
   refine⟨m',hm,i+1,j,H7,I7.unpinned,T.keep _ _ _ w λb c o e=>(I7.pin (b,o) (List.mem_append_right _ (List.mem_append_right _ (xX c e)))).1,λb c=>?_,w7⟩
   obtain⟨o,e,d⟩:=T.obj _ _ w b c
   exact(I7.pin (b,o) (List.mem_append_right _ (List.mem_append_right _ (xX c e)))).2.1
  cases f with
  | next=>obtain⟨j,H7,I7,E⟩:=q;exact p I7 E
  | cont=>obtain⟨j,H7,I7,E⟩:=q;exact p I7 E
  | brk=>obtain⟨j,H7,I7,q⟩:=q;exact⟨j,H7,I7.unpinned,q⟩
  | ret v=>obtain⟨x7,j,H7,I7,r7,q⟩:=q;exact⟨x7,j,H7,I7.unpinned,r7,q⟩
end
noncomputable abbrev R2:=V->V->Hp->VK->Prop
noncomputable def OpR (X:Cx)(f:Value->Value->Sem Value)(r:R2):Prop :=
 ∀ (a:List (Addr × Obj)) (s:Shared) (σ:St) (H:Hp) (x y:V) (v u:Value) (Q:VK),Inv X a σ H s->yl x v->yl y u->r x y H Q ->
  wpAny (model X.prog X.w) X.A (f v u) (EP X a σ Q) X.xe s
noncomputable def UnR (X:Cx)(f:Value->Sem Value)(r:V->Hp->VK->Prop):Prop :=
 ∀ (a:List (Addr × Obj)) (s:Shared) (σ:St) (H:Hp) (x:V) (v:Value) (Q:VK),Inv X a σ H s->yl x v->r x H Q ->
  wpAny (model X.prog X.w) X.A (f v) (EP X a σ Q) X.xe s
noncomputable def wb (X:Cx)(f:Value)(r:List V->Hp->VK->Prop):Prop :=
 ∀ (a:List (Addr × Obj)) (s:Shared) (σ:St) (H:Hp) (b:List V) (c:List Value) (Q:VK),Inv X a σ H s->zT b c->r b H Q ->
  wpAny (model X.prog X.w) X.A (call f c) (EP X a σ Q) X.xe s
noncomputable def tOp (r:R2)(b a:TE):TE:=fun σ H Q=>b σ H λx H1=>a σ H1 λy H2=>r x y H2 Q
noncomputable def tUn (r:V->Hp->VK->Prop)(a:TE):TE:=fun σ H Q=>a σ H λx H1=>r x H1 Q
noncomputable def rI (C:Int->Int->Prop)(g:Int->Int->V):R2:=λx y H Q=>∃ i j,x=.int i/\y=.int j/\C i j/\Q (g i j) H
noncomputable def rI0 (g:Int->Int->V):R2:=λx y H Q=>∃ i j,x=.int i/\y=.int j/\Q (g i j) H
noncomputable def rU (g:Int->V):V->Hp->VK->Prop:=λx H Q=>∃ i,x=.int i/\Q (g i) H
section
variable {X:Cx}{a b c:Expr}{ta tb tc:TE}{pos:Pos}
theorem zlT (o:PE X a ta)(k:PE X b tb){c:List (Addr × Obj)}{s:Shared}{σ:St}{H:Hp}{R:V->V->Hp->Prop}(I:Inv X c σ H s)
 (h:ta σ H λx H1=>tb σ H1 λy H2=>R x y H2) {Q:Value->Shared->Prop} {f:Value->Value->Sem Value}
 (n:∀ v u d x y H2,Inv X c σ H2 d->yl x v->yl y u->R x y H2->wpAny (model X.prog X.w) X.A (f v u) Q X.xe d) :
 wpAny (model X.prog X.w) X.A (eval a X.env) (λv g=>wpAny (model X.prog X.w) X.A (eval b X.env) (λu i=>wpAny (model X.prog X.w) X.A (f v u) Q X.xe i) X.xe g) X.xe s:=by
 refine thn (o c s σ H _ I h) λv e hh9=>?_
 obtain⟨x,H1,I1,l,j⟩:=hh9
 refine thn (k c e σ H1 _ I1 j) λu d hh9=>?_
 obtain⟨y,H2,I2,p,m⟩:=hh9
 exact n v u d x y H2 I2 l p m
theorem zeP {d:Operator}{r:R2}(g:OpR X (binaryOp d) r)(i:PE X a ta)(k:PE X b tb):PE X (.BinOp a d b pos) (tOp r ta tb):=by
 intro c s σ H Q I h
 exact wpAny_BinOp (zlT i k I h λv u f x y H2 I2 j e q=>g c f σ H2 x y v u Q I2 j e q)
theorem zjk {c:UnaryOp}{r:V->Hp->VK->Prop}(d:UnR X (unaryOp c) r)(e:PE X a ta):PE X (.UnaryOp c a pos) (tUn r ta):=by
 intro b s σ H Q I h
 exact UnaryOp_ (thn (e b s σ H _ I h) λv g ⟨x,H1,I1,i,f⟩=>d b g σ H1 x v Q I1 i f)
theorem opI {f:Value->Value->Sem Value}{C:Int->Int->Prop}{g:Int->Int->Int}
 (rule:∀ (i j:Int) (t u:Tok) (s:Shared) (Q:Value->Shared->Prop) (E:Value->Shared->Prop),C i j->Q (.int (g i j) s.toks) { s with toks:=s.toks+1 }->wpAny (model X.prog X.w) X.A (f (.int i t) (.int j u)) Q E s) :
 OpR X f (rI C λi j=>.int (g i j)):=by
 intro a s σ H x y v u Q I d b h
 obtain⟨i,j,rfl,rfl,c,q⟩:=h
 obtain⟨t,rfl⟩:=d
 obtain⟨e,rfl⟩:=b
 exact rule i j t e s _ _ c ⟨.int (g i j),H,I.tok _,⟨_,rfl⟩,q⟩
theorem opI0 {f:Value->Value->Sem Value}{g:Int->Int->Int}
 (rule:∀ (i j:Int) (t u:Tok) (s:Shared) (Q:Value->Shared->Prop) (E:Value->Shared->Prop),Q (.int (g i j) s.toks) { s with toks:=s.toks+1 }->wpAny (model X.prog X.w) X.A (f (.int i t) (.int j u)) Q E s) :
 OpR X f (rI0 λi j=>.int (g i j)):=by
 intro a s σ H x y v u Q I c b h
 obtain⟨i,j,rfl,rfl,q⟩:=h
 obtain⟨t,rfl⟩:=c
 obtain⟨d,rfl⟩:=b
 exact rule i j t d s _ _ ⟨.int (g i j),H,I.tok _,⟨_,rfl⟩,q⟩
theorem zlq {f:Value->Value->Sem Value}{g:Int->Int->Bool}
 (rule:∀ (i j:Int) (t u:Tok) (s:Shared) (Q:Value->Shared->Prop) (E:Value->Shared->Prop),Q (.bool (g i j)) s->wpAny (model X.prog X.w) X.A (f (.int i t) (.int j u)) Q E s) :
 OpR X f (rI0 λi j=>.bl (g i j)):=by
 intro a s σ H x y v u Q I c b h
 obtain⟨i,j,rfl,rfl,q⟩:=h
 obtain⟨t,rfl⟩:=c
 obtain⟨d,rfl⟩:=b
 exact rule i j t d s _ _ ⟨.bl (g i j),H,I,rfl,q⟩
noncomputable def zma (i j:Int):Prop:=(-(2 ^ 64) < i/\i < 2 ^ 64)\/(-(2 ^ 64) < j/\j < 2 ^ 64)
theorem zma.ok {i j:Int}(h:zma i j):IntMulOk i j:=by
 rcases h with ⟨b,a⟩ | ⟨b,a⟩
 .exact .of_left (intBits_le_64 b a)
 .exact .of_right (intBits_le_64 b a)
theorem zbK (k:Nat):(0:Int)<=2 ^ k:=by
 rw[two_pow_cast]
 exact Int.natCast_nonneg _
theorem zj2:OpR X (binaryOp .Add) (rI0 λi j=>.int (i+j)):=opI0 λ_ _ _ _ _ _ _ q=>add_int q
theorem zks:OpR X (binaryOp .Sub) (rI0 λi j=>.int (i - j)):=opI0 λ_ _ _ _ _ _ _ q=>sub_int q
theorem zkH:OpR X (binaryOp .Mult) (rI zma λi j=>.int (i*j)):=opI λ_ _ _ _ _ _ _ a q=>mul_int q a.ok
theorem zkW:OpR X (binaryOp .Mod) (rI (λ_ j=>0 < j) λi j=>.int (i % j)):=opI λi j _ _ _ _ _ a q=>by
 have b:(0:Int) < j:=a
 exact mod_int' (by omega) (by rw[Int.fmod_eq_emod_of_nonneg i (by omega)];exact q)
theorem zjQ:OpR X (binaryOp .RShift) (rI (λ_ j=>0<=j) λi j=>.int (i / 2 ^ j.toNat)):=opI λi j _ _ _ _ _ a q =>
 rshift_int a (by rw[Int.fdiv_eq_ediv_of_nonneg i (zbK _)];exact q)
theorem unI {f:Value->Sem Value}{g:Int->Int}
 (rule:∀ (i:Int) (t:Tok) (s:Shared) (Q:Value->Shared->Prop) (E:Value->Shared->Prop),Q (.int (g i) s.toks) { s with toks:=s.toks+1 }->wpAny (model X.prog X.w) X.A (f (.int i t)) Q E s) :
 UnR X f (rU λi=>.int (g i)):=by
 intro a s σ H x v Q I b h
 obtain⟨i,rfl,q⟩:=h
 obtain⟨t,rfl⟩:=b
 exact rule i t s _ _ ⟨.int (g i),H,I.tok _,⟨_,rfl⟩,q⟩
theorem zgR:UnR X (unaryOp .USub) (rU λi=>.int (-i)):=unI λ_ _ _ _ _ q=>neg_int q
end
noncomputable def scal:V->V->Bool
 | .non,.non=>true | .non,.int _=>true | .int _,.non=>true | .non,.bl _=>true | .bl _,.non=>true | .non,.str _=>true | .str _,.non=>true
 | .int _,.int _=>true | .bl _,.bl _=>true | .str _,.str _=>true | .byt _,.byt _=>true
 | .int _,.str _=>true | .str _,.int _=>true | .bl _,.str _=>true | .str _,.bl _=>true
 | _,_=>false
noncomputable def rEq:R2:=λx y H Q=>scal x y=true/\Q (.bl (decide (x=y))) H
noncomputable def rNe:R2:=λx y H Q=>scal x y=true/\Q (.bl (!decide (x=y))) H
theorem XR {i j:Int}:decide (V.int i=V.int j)=(i == j):=by
 rw[Bool.eq_iff_iff]
 simp
theorem zgZ {i j:Bool}:decide (V.bl i=V.bl j)=(i == j):=by
 rw[Bool.eq_iff_iff]
 simp
theorem zb0 {i j:Str}:decide (V.str i=V.str j)=(i == j):=by
 rw[Bool.eq_iff_iff]
 simp
theorem zc9 {i j:Array UInt8}:decide (V.byt i=V.byt j)=(i.toList == j.toList):=by
 rw[Bool.eq_iff_iff]
 cases i
 cases j
 simp
section
variable {X:Cx}{a b c:Expr}{ta tb tc:TE}{pos:Pos}
theorem zK {a:List (Addr × Obj)}{σ:St}{H:Hp}{s:Shared}{Q:VK}{k b:Bool}(I:Inv X a σ H s)(q:Q (.bl k) H)(e:k=b):EP X a σ Q (.bool b) s:=by
 subst e
 exact⟨.bl k,H,I,rfl,q⟩
theorem zjs:OpR X (compareOp .Eq) rEq:=by
 intro e s σ H x y v u Q I d a h
 obtain⟨c,q⟩:=h
 cases x with
 | non =>
  cases d
  cases y with
  | non=>cases a;exact PySem.EqNone.eq_none_none (zK I q (by simp))
  | bl j=>cases a;exact PySem.EqNone.eq_none_bool (zK I q (by simp))
  | int j=>obtain⟨b,rfl⟩:=a;exact PySem.EqNone.eq_none_int (zK I q (by simp))
  | str j=>obtain⟨b,rfl⟩:=a;exact PySem.EqNone.eq_none_str (zK I q (by simp))
  | _=>exact absurd (show false=true from c) Bool.false_ne_true
 | bl i =>
  cases d
  cases y with
  | non=>cases a;exact PySem.EqNone.eq_bool_none (zK I q (by simp))
  | bl j=>cases a;exact eq_bool (zK I q zgZ)
  | str j=>obtain⟨b,rfl⟩:=a;exact PySem.EqMixed.eq_bool_str (zK I q (by simp))
  | _=>exact absurd (show false=true from c) Bool.false_ne_true
 | int i =>
  obtain⟨t,rfl⟩:=d
  cases y with
  | non=>cases a;exact PySem.EqNone.eq_int_none (zK I q (by simp))
  | int j=>obtain⟨b,rfl⟩:=a;exact eq_int (zK I q XR)
  | str j=>obtain⟨b,rfl⟩:=a;exact PySem.EqMixed.eq_int_str (zK I q (by simp))
  | _=>exact absurd (show false=true from c) Bool.false_ne_true
 | str i =>
  obtain⟨t,rfl⟩:=d
  cases y with
  | non=>cases a;exact PySem.EqNone.eq_str_none (zK I q (by simp))
  | bl j=>cases a;exact PySem.EqMixed.eq_str_bool (zK I q (by simp))
  | int j=>obtain⟨b,rfl⟩:=a;exact PySem.EqMixed.eq_str_int (zK I q (by simp))
  | str j=>obtain⟨b,rfl⟩:=a;exact eq_str (zK I q zb0)
  | _=>exact absurd (show false=true from c) Bool.false_ne_true
 | byt i =>
  obtain⟨t,rfl⟩:=d
  cases y with
  | byt j=>obtain⟨b,rfl⟩:=a;exact W.eq_bytes (zK I q zc9)
  | _=>exact absurd (show false=true from c) Bool.false_ne_true
 | _=>cases y <;> exact absurd (show false=true from c) Bool.false_ne_true
theorem zbm:OpR X (compareOp .NotEq) rNe:=by
 intro e s σ H x y v u Q I d a h
 obtain⟨c,q⟩:=h
 cases x with
 | non =>
  cases d
  cases y with
  | non=>cases a;exact PySem.EqNone.ne_none_none (zK I q (by simp))
  | bl j=>cases a;exact PySem.EqNone.ne_none_bool (zK I q (by simp))
  | int j=>obtain⟨b,rfl⟩:=a;exact PySem.EqNone.ne_none_int (zK I q (by simp))
  | str j=>obtain⟨b,rfl⟩:=a;exact PySem.EqNone.ne_none_str (zK I q (by simp))
  | _=>exact absurd (show false=true from c) Bool.false_ne_true
 | bl i =>
  cases d
  cases y with
  | non=>cases a;exact PySem.EqNone.ne_bool_none (zK I q (by simp))
  | bl j=>cases a;exact ne_bool (zK I q (congrArg not zgZ))
  | str j=>obtain⟨b,rfl⟩:=a;exact PySem.EqMixed.ne_bool_str (zK I q (by simp))
  | _=>exact absurd (show false=true from c) Bool.false_ne_true
 | int i =>
  obtain⟨t,rfl⟩:=d
  cases y with
  | non=>cases a;exact PySem.EqNone.ne_int_none (zK I q (by simp))
  | int j=>obtain⟨b,rfl⟩:=a;exact ne_int (zK I q (congrArg not XR))
  | str j=>obtain⟨b,rfl⟩:=a;exact PySem.EqMixed.ne_int_str (zK I q (by simp))
  | _=>exact absurd (show false=true from c) Bool.false_ne_true
 | str i =>
  obtain⟨t,rfl⟩:=d
  cases y with
  | non=>cases a;exact PySem.EqNone.ne_str_none (zK I q (by simp))
  | bl j=>cases a;exact PySem.EqMixed.ne_str_bool (zK I q (by simp))
  | int j=>obtain⟨b,rfl⟩:=a;exact PySem.EqMixed.ne_str_int (zK I q (by simp))
  | str j=>obtain⟨b,rfl⟩:=a;exact ne_str (zK I q (congrArg not zb0))
  | _=>exact absurd (show false=true from c) Bool.false_ne_true
 | byt i =>
  obtain⟨t,rfl⟩:=d
  cases y with
  | byt j=>obtain⟨b,rfl⟩:=a;exact W.ne_bytes (zK I q (congrArg not zc9))
  | _=>exact absurd (show false=true from c) Bool.false_ne_true
 | _=>cases y <;> exact absurd (show false=true from c) Bool.false_ne_true
theorem zmv:OpR X (compareOp .Lt) (rI0 λi j=>.bl (decide (i < j))):=zlq λ_ _ _ _ _ _ _ q=>lt_int q
theorem XB:OpR X (compareOp .LtE) (rI0 λi j=>.bl (decide (i<=j))):=zlq λ_ _ _ _ _ _ _ q=>le_int q
theorem zjX:OpR X (compareOp .Gt) (rI0 λi j=>.bl (decide (j < i))):=zlq λ_ _ _ _ _ _ _ q=>gt_int q
theorem zlO:OpR X (compareOp .GtE) (rI0 λi j=>.bl (decide (j<=i))):=zlq λ_ _ _ _ _ _ _ q=>ge_int q
theorem zb1:OpR X (compareOp .In) (λx y H Q=>∃ i j,x=.str i/\y=.str j/\Q (.bl (!(Builtin.Str.occurrences j i 0 j.length 1).isEmpty)) H):=by
 intro a s σ H x y v u Q I c b h
 obtain⟨i,j,rfl,rfl,q⟩:=h
 obtain⟨t,rfl⟩:=c
 obtain⟨d,rfl⟩:=b
 exact in_str (zK I q rfl)
theorem OpR.or {f:Value->Value->Sem Value}{r c:R2}(h:OpR X f r)(e:OpR X f c):OpR X f (λx y H Q=>r x y H Q\/c x y H Q):=by
 intro a s σ H x y v u Q I d b q
 rcases q with q | q
 .exact h a s σ H x y v u Q I d b q
 .exact e a s σ H x y v u Q I d b q
theorem yx (b:Expr){a:CmpOp}(h:a≠.In:=by decide)(d:a≠.NotIn:=by decide):behindInMarks a b=false:=by
 have c:(a == CmpOp.In)=false:=by cases a <;> first | rfl | exact absurd rfl h
 have e:(a == CmpOp.NotIn)=false:=by cases a <;> first | rfl | exact absurd rfl d
 cases b <;> simp[behindInMarks,c,e]
theorem V4 {d:CmpOp}{r:R2}(g:OpR X (compareOp d) r)(i:PE X a ta)(k:PE X b tb)(l:behindInMarks d b=false):PE X (.Compare a [d] [b] pos) (tOp r ta tb):=by
 intro c s σ H Q I h
 exact wpAny_Compare1 (zlT i k I h λv u f x y H2 I2 j e q=>g c f σ H2 x y v u Q I2 j e q) l
noncomputable def zbT (t:TE):TT:=fun σ H Q=>t σ H λx H'=>∃ k,x=.bl k/\Q k H'
theorem Vx {f:CmpOp}{r:R2}(m:OpR X (compareOp f) r)(o:PE X a ta)(q:PE X b tb)(w:behindInMarks f b=false):PT X (.Compare a [f] [b] pos) (zbT (tOp r ta tb)):=by
 intro d s σ H Q I h
 refine wpAny_isTrue_Compare1 (thn (o d s σ H _ I h) λv i ⟨x,H1,I1,j,p⟩=>thn (q d i σ H1 _ I1 p) λu g ⟨y,H2,I2,t,n⟩ =>
  thn (m d g σ H2 x y v u _ I2 j t n) λc B ⟨z,H3,I3,A,k,e,l⟩=>?_) w
 subst e
 cases A
 exact wpAny_truthy_bool ⟨H3,I3,l⟩
noncomputable def Wm (r b:R2)(ta tb tc:TE):TE:=fun σ H Q=>ta σ H λx H1=>tb σ H1 λy H2=>r x y H2 λz H3=>∃ k,z=.bl k /\
 (if k=true then tc σ H3 λa H4=>b y a H4 Q else Q (.bl false) H3)
theorem zeF {j g:CmpOp}{r m:R2}(B:OpR X (compareOp j) r)(i:OpR X (compareOp g) m)(M:PE X a ta)(E:PE X b tb)(C:PE X c tc)
 (N:lastMarks [j,g] [b,c]=false:=by with_unfolding_all rfl):PE X (.Compare a [j,g] [b,c] pos) (Wm r m ta tb tc):=by
 intro f s σ H Q I h
 refine Compare_chain (thn (M f s σ H _ I h) λv t ⟨x,H1,I1,K,D⟩=>chain_link (thn (E f t σ H1 _ I1 D) λu o ⟨y,H2,I2,n,L⟩ =>
  thn (B f o σ H2 x y v u _ I2 K n L) λd J ⟨z,H3,I3,F,k,e,l⟩=>?_)) N
 subst e
 cases F
 refine wpAny_truthy_bool ?_
 cases k with
 | false=>exact ite_ff ⟨.bl false,H3,I3,rfl,l⟩
 | true=>exact ite_tt (chain_last (thn (C f J σ H3 _ I3 l) λq A ⟨w,H4,I4,p,G⟩=>i f A σ H4 y w u q Q I4 n p G))
theorem zf9 {j g:CmpOp}{r m:R2}(B:OpR X (compareOp j) r)(i:OpR X (compareOp g) m)(R:PE X a ta)(E:PE X b tb)(C:PE X c tc)
 (S:lastMarks [j,g] [b,c]=false:=by with_unfolding_all rfl):PT X (.Compare a [j,g] [b,c] pos) (zbT (Wm r m ta tb tc)):=by
 intro f s σ H Q I h
 refine isTrue_chain (thn (R f s σ H _ I h) λv t ⟨x,H1,I1,O,D⟩=>test_link (thn (E f t σ H1 _ I1 D) λu o ⟨y,H2,I2,n,P⟩ =>
  thn (B f o σ H2 x y v u _ I2 O n P) λd M ⟨z,H3,I3,K,k,e,l⟩=>?_)) S
 subst e
 cases K
 refine wpAny_truthy_bool ?_
 cases k with
 | false =>
  obtain⟨U,F,N⟩:=l
  cases F
  exact ite_ff ⟨H3,I3,N⟩
 | true =>
  refine ite_tt (test_last (thn (C f M σ H3 _ I3 l) λq A ⟨w,H4,I4,p,L⟩=>thn (i f A σ H4 y w u q _ I4 n p L) λV Y hh9=>?_))
  obtain⟨Z,H5,I5,T,W,G,J⟩:=hh9
  subst G
  cases T
  exact wpAny_truthy_bool ⟨H5,I5,J⟩
theorem ZW:(sizeLine:Nat) < 2 ^ 63:=by rw[sizeLine_eq];decide
theorem zbD:OpR X (binaryOp .Add) (λx y H Q=>∃ i j,x=.str i/\y=.str j/\i.length+j.length<=sizeLine/\Q (.str (i++j)) H):=by
 intro a s σ H x y v u Q I d b h
 obtain⟨i,j,rfl,rfl,c,q⟩:=h
 obtain⟨t,rfl⟩:=d
 obtain⟨e,rfl⟩:=b
 exact add_str (λe f=>⟨.str (i++j),H,I.tok _,⟨_,rfl⟩,q⟩) c
theorem YS {x:V}{a:List Value}(r:zT [x] a):∃ u,a=[u]/\yl x u:=by
 cases r with
 | cons b c=>cases c;exact⟨_,rfl,b⟩
theorem zb8 {x y:V}{b:List Value}(r:zT [x,y] b):∃ u a,b=[u,a]/\yl x u/\yl y a:=by
 cases r with
 | cons d e =>
  cases e with
  | cons f c=>cases c;exact⟨_,_,rfl,d,f⟩
theorem zcn (d:X.calm=true):wb X (.builtin "max") (λc H Q=>∃ i j,c=[.int i,.int j]/\Q (.int (if j > i then j else i)) H):=by
 intro b s σ H c m Q I r h
 obtain⟨i,j,rfl,q⟩:=h
 obtain⟨u,e,rfl,⟨t,rfl⟩,⟨l,rfl⟩⟩:=zb8 r
 refine max_two_ints (I.ok.hd d) λf g k=>⟨_,H,I.kept k,?_,q⟩
 by_cases a:j > i
 .rw[if_pos a,if_pos a];exact⟨_,rfl⟩
 .rw[if_neg a,if_neg a];exact⟨_,rfl⟩
theorem zct (d:X.calm=true):wb X (.builtin "min") (λc H Q=>∃ i j,c=[.int i,.int j]/\Q (.int (if j < i then j else i)) H):=by
 intro b s σ H c m Q I r h
 obtain⟨i,j,rfl,q⟩:=h
 obtain⟨u,e,rfl,⟨t,rfl⟩,⟨l,rfl⟩⟩:=zb8 r
 refine min_two_ints (I.ok.hd d) λf g k=>⟨_,H,I.kept k,?_,q⟩
 by_cases a:j < i
 .rw[if_pos a,if_pos a];exact⟨_,rfl⟩
 .rw[if_neg a,if_neg a];exact⟨_,rfl⟩
theorem xG:wb X (.type "str") (λa H Q=>∃ i,a=[.int i]/\i.natAbs.log2 < 1920/\Q (.str (toString i)) H):=by
 intro b s σ H a d Q I r h
 obtain⟨i,rfl,c,q⟩:=h
 obtain⟨u,rfl,t,rfl⟩:=YS r
 exact PySem.P.str_of_int c ⟨.str _,H,I.tok _,⟨_,rfl⟩,q⟩
end
structure zic (h:Heap) (x dx C:Addr) (mA:Str->Option Value):Prop where
 obj:h.get? x=some (W.instObj C dx)
 ns:h.Ns1 dx mA
 ne:dx≠x
theorem zdf {h:Heap}{g:Addr}{i:Str->Option Value}(n:h.Ns1 g i):∃ f,h.get? g=some f/\∀ b,W.lookIn b f=some (i b):=by
 obtain⟨o,d,s,m,l,j,_,r⟩:=n
 refine⟨o,m,λb=>?_⟩
 have e:=r b
 unfold nsFind findBy at e
 rw[<-Array.find?_toList]at e
 unfold W.lookIn
 rw[l]
 dsimp only
 split
 .rename_i y q
  rw[q]at e
  exact congrArg some e
 .rename_i q
  rw[q]at e
  have a:d.toList.any (·.refKey)=false:=by
   rw[List.any_eq_false]
   intro y k
   obtain⟨z,t,c⟩:=j y (Array.mem_toList_iff.mp k)
   simp[DictEntry.refKey,c]
  have p:¬ d.toList.any (·.refKey)=true:=by rw[a];exact Bool.false_ne_true
  rw[if_neg p]
  exact congrArg some e
theorem zic.look {h:Heap}{x c C:Addr}{d:Str->Option Value}(I:zic h x c C d):∃ b,PySem.W.InstAt h x (W.instObj C c) C (some b)/\∀ a,W.lookIn a b=some (d a) :=
 let ⟨b,ho,hl⟩:=zdf I.ns
 ⟨b,⟨I.obj,rfl,rfl,ho⟩,hl⟩
section
variable {prog:Program}{w:World}{A:Around}{E:Value->Shared->Prop}{s:Shared}{K:W.Frag}{x dx C f:Addr}{mA:Str->Option Value}{name:Str}{v:Value}
theorem zih {a:Bool}{Q:Value->Shared->Prop}(X:K.In s.heap)(I:zic s.heap x dx C mA)(f:W.plainGet K C name=true)(c:W.hasDictIn K C=true)
 (e:W.findIn K (.ref C) name=some none) (d:mA name=some v) (b:W.handedIn v=true) (h:Q v { s with toks:=s.toks+1 }) :
 wpAny (model prog w) A (getAttr (.ref x) name a) Q E s:=by
 obtain⟨i,J,g⟩:=I.look
 exact W.get_value X J (W.plainGet_of f).1 (W.findObj_own c e rfl (by rw[g,d])) b h
theorem zgf {pl:Sem Bool}{Q:Value × List Value->Shared->Prop}(X:K.In s.heap)(I:zic s.heap x dx C mA)(a:W.plainGet K C name=true)
 (e:W.findIn K (.ref C) name=some (some (.ref f))) (b:W.isFn K (.ref f)=true) (d:mA name=none) (h:Q (.ref f,[.ref x]) s) :
 wpAny (model prog w) A (getMethod (.ref x) name pl) Q E s:=by
 obtain⟨c,J,g⟩:=I.look
 exact W.method_fn X J (W.plainGet_of a).1 (W.plainGet_of a).2 e (beq_iff_eq.mp b) (by show(W.lookIn name c).map (·.isSome)=some false;rw[g,d];rfl) h
theorem zik {ns:List Str}{Q:Unit->Shared->Prop}(X:K.In s.heap)(I:zic s.heap x dx C mA)
 (t:W.findIn K (.ref C) "__setattr__"=some (some (.builtin "object.__setattr__"))) (u:W.plainOver K C=true) (l:W.takerIn K C name=some none) (m:W.hasDictIn K C=true)
 (hw:PySem.Within mA ns) (n:ns.length<=sizeLine)
 (h:∀ e,zic e x dx C (λy=>if y=name then some v else mA y)->Heap.SameBut dx s.heap e->Q () { s with heap:=e,toks:=s.toks+2 }) :
 wpAny (model prog w) A (setAttr (.ref x) name v) Q E s:=by
 obtain⟨B,J,F⟩:=I.look
 refine W.set_plain X J t (W.osa_open (s:={ s with toks:=s.toks+1 }) (r:=none) X J u l λb=>?_)
 obtain⟨D,p,f⟩:=W.any_some m
 have o:s.heap.get? x=some ⟨.ref C,some dx,.plain,#[]⟩:=I.obj
 refine wpAny_bind (wpAny_pure (wpAny_bind (wpAny_bind (wpAny_loadPart o (wpAny_bind (PySem.W.Looks.here (s:={ s with toks:=s.toks+1 }) (W.looks_clsIn X p) ?_))))))
 rw[f]
 refine wpAny_pure (a:=some dx) (wpAny_bind (wpAny_pure (wpAny_bind ?_)))
 refine wpAny_nsSet1 (s:={ s with toks:=s.toks+1 }) I.ns λe c d=>?_
 obtain⟨z,k,q,g,i,j⟩:=c.count (PySem.Within.cons name v hw)
 refine wpAny_bind (wpAny_lookBehind g (by rw[i];exact pastItsLine_dict (Nat.le_trans j (by rw[List.length_cons];omega))) ?_)
 exact wpAny_pure (h _ ⟨(d.2 _ (Ne.symm I.ne)).trans I.obj,c,I.ne⟩ d)
theorem ze7 {R:Result->Shared->Prop}{c:List Value}{b:List (Str × Value)}(X:K.In s.heap)(j:W.makesIn K C=true)
 (i:W.findIn K (.ref C) "__init__"=some (some (.ref f))) (e:W.typeIn K (.ref f)=some (.type "function"))
 (h:codeAny (model prog w) (A.under (.builtin "type.__call__" ⟨.ref C::c,b⟩)) (.call (.ref f) ⟨.ref (s.heap.objs.size+1)::c,b⟩) (PySem.W.InitBack (s.heap.objs.size+1) R)
  { s with heap:=(s.heap.push W.emptyDict).push (W.instObj C s.heap.objs.size) }) :
 codeAny (model prog w) A (.call (.ref C) ⟨c,b⟩) R s:=by
 obtain⟨k,g,d,t,os⟩:=s
 exact W.make_core (W.makes_of X j) (W.looks_findIn X i) (λa=>W.bind_fn X a e) (.inl rfl) h
end
noncomputable def XF (f:Str)(v:V):List (Str × V)->List (Str × V)
 | []=>[(f,v)]
 | (g,x)::r=>if g=f then (g,v)::r else (g,x)::XF f v r
theorem Zq (f g:Str)(v:V):∀ c:List (Str × V),(XF f v c).lookup g=if g=f then some v else c.lookup g
 | []=>by
  show List.lookup g [(f,v)]=_
  by_cases h:g=f
  .have a:(g == f)=true:=beq_iff_eq.mpr h
   simp only[List.lookup,a,if_pos h]
  .have a:(g == f)=false:=beq_eq_false_iff_ne.mpr h
   simp only[List.lookup,a,if_neg h]
 | (k,x)::r=>by
  have d:=Zq f g v r
  rw[show XF f v ((k,x)::r)=(if k=f then (k,v)::r else (k,x)::XF f v r)from rfl]
  by_cases b:k=f
  .rw[if_pos b]
   by_cases h:g=k
   .have a:(g == k)=true:=beq_iff_eq.mpr h
    simp only[List.lookup,a,if_pos (h.trans b)]
   .have a:(g == k)=false:=beq_eq_false_iff_ne.mpr h
    simp only[List.lookup,a,if_neg (λe:g=f=>h (e.trans b.symm))]
  .rw[if_neg b]
   by_cases h:g=k
   .have a:(g == k)=true:=beq_iff_eq.mpr h
    simp only[List.lookup,a,if_neg (λe:g=f=>b (h.symm.trans e))]
   .have a:(g == k)=false:=beq_eq_false_iff_ne.mpr h
    simp only[List.lookup,a]
    exact d
theorem Zj (f:Str)(v:V):∀ a:List (Str × V),f∈(XF f v a).map (·.1)/\∀ g,g∈a.map (·.1)->g∈(XF f v a).map (·.1)
 | []=>⟨by simp[XF],λg h=>by simp at h⟩
 | (k,x)::r=>by
  obtain⟨c,d⟩:=Zj f v r
  rw[show XF f v ((k,x)::r)=(if k=f then (k,v)::r else (k,x)::XF f v r)from rfl]
  by_cases b:k=f
  .rw[if_pos b]
   subst b
   exact⟨by simp,λg h=>by simpa using h⟩
  .rw[if_neg b]
   refine⟨?_,λg h=>?_⟩
   .rw[List.map_cons]
    exact List.mem_cons_of_mem _ c
   .rw[List.map_cons]at h ⊢
    rcases List.mem_cons.mp h with e | e
    .exact List.mem_cons.mpr (.inl e)
    .exact List.mem_cons_of_mem _ (d g e)
theorem Zk (f:Str)(v:V):∀ a:List (Str × V),(XF f v a).length<=a.length+1
 | []=>by simp[XF]
 | (k,x)::r=>by
  have c:=Zk f v r
  rw[show XF f v ((k,x)::r)=(if k=f then (k,v)::r else (k,x)::XF f v r)from rfl]
  by_cases b:k=f
  .rw[if_pos b,List.length_cons,List.length_cons];omega
  .rw[if_neg b,List.length_cons,List.length_cons];omega
theorem za1.some_of {v:V}{o:Option Value}(r:za1 (some v) o):∃ u,o=some u/\yl v u:=by
 cases o with
 | none=>exact(show False from r).elim
 | some u=>exact⟨u,rfl,r⟩
theorem za1.none_of {o:Option Value}(r:za1 none o):o=none:=by
 cases o with
 | none=>rfl
 | some u=>exact(show False from r).elim
theorem zcJ {v:V}{u:Value}(r:yl v u):W.handedIn u=true:=by
 cases v with
 | non=>cases (show u=Value.none from r);rfl
 | bl b=>cases (show u=Value.bool b from r);rfl
 | int i=>obtain⟨t,e⟩:=(show ∃ t,u=Value.int i t from r);cases e;rfl
 | str x=>obtain⟨t,e⟩:=(show ∃ t,u=Value.str x t from r);cases e;rfl
 | byt b=>obtain⟨t,e⟩:=(show ∃ t,u=Value.bytes b t from r);cases e;rfl
 | flt b=>obtain⟨t,e⟩:=(show ∃ t,u=Value.float b t from r);cases e;rfl
 | ref a=>cases (show u=Value.ref a from r);rfl
 | ty n=>cases (show u=Value.type n from r);rfl
section
variable {P:Program}{w:World}{H H':Hp}{h h':Heap}{a C dx:Addr}{fs fs':List (Str × V)}
theorem Xz (c:HOk P w H h)(e:H a=some (.ins C dx fs)):∃ b,zic h a dx C b/\(∀ f,za1 (fs.lookup f) (b f))/\PySem.Within b (fs.map (·.1))/\fs.length<=1000/\H dx=some (.own a):=by
 obtain⟨d,z,i,g,b,n,r,q⟩:=(show yb P w H h a (.ins C dx fs)from c a _ e)
 exact⟨b,⟨g,n,i⟩,r,q,z,d⟩
end
structure Cls (K:W.Frag) (C:Addr):Prop where
 pg:W.plainGet K C Str.empty=true
 hd:W.hasDictIn K C=true
 po:W.plainOver K C=true
 sa:W.findIn K (.ref C) "__setattr__"=some (some (.builtin "object.__setattr__"))
theorem Cls.get {K:W.Frag}{C:Addr}(c:Cls K C)(f:Str):W.plainGet K C f=true:=c.pg
noncomputable def wY (K:W.Frag)(C:Addr)(f:Str):Prop:=W.findIn K (.ref C) f=some none
theorem wY.taker {K:W.Frag}{C:Addr}{f:Str}(n:wY K C f):W.takerIn K C f=some none:=by
 unfold W.takerIn
 rw[show W.findIn K (.ref C) f=some none from n]
 rfl
structure zdG (K:W.Frag) (C:Addr) (m:Str) (f:Addr):Prop where
 at_:W.findIn K (.ref C) m=some (some (.ref f))
 fn:W.isFn K (.ref f)=true
 kp:W.keepIn K (.ref f)=true
section
variable {X:Cx}{pins:List (Addr × Obj)}{σ:St}{H:Hp}{s:Shared}{a C dx:Addr}{fs:List (Str × V)}{f:Str}{v:V}{A:Around}{E:Value->Shared->Prop}
theorem zbS {b:Bool}{Q:Value->Shared->Prop}(I:Inv X pins σ H s)(e:H a=some (.ins C dx fs))(c:Cls X.K C)(n:wY X.K C f)(l:fs.lookup f=some v)
 (h:∀ u d,Inv X pins σ H d->yl v u->Q u d):wpAny (model X.prog X.w) A (getAttr (.ref a) f b) Q E s:=by
 obtain⟨j,O,r,_,_,_⟩:=Xz I.hok e
 obtain⟨u,i,g⟩:=za1.some_of (v:=v) (o:=j f) (by rw[<-l];exact r f)
 exact zih I.kIn O (c.get f) c.hd n i (zcJ g) (h u _ (I.tok _) g)
theorem vO {m:Str}{g:Addr}{pl:Sem Bool}{Q:Value × List Value->Shared->Prop}(I:Inv X pins σ H s)(e:H a=some (.ins C dx fs))(c:Cls X.K C)(k:zdG X.K C m g)(l:fs.lookup m=none)
 (h:Q (.ref g,[.ref a]) s):wpAny (model X.prog X.w) A (getMethod (.ref a) m pl) Q E s:=by
 obtain⟨d,O,r,_,_,_⟩:=Xz I.hok e
 have b:d m=none:=za1.none_of (by rw[<-l];exact r m)
 exact zgf I.kIn O (c.get m) k.at_ k.fn b h
theorem zbt {y:V}{u:Value}{Q:Unit->Shared->Prop}(I:Inv X pins σ H s)(e:H a=some (.ins C dx fs))(c:Cls X.K C)(n:wY X.K C f)(D:fs.length < 1000)(t:yl y u)
 (h:∀ i,Inv X pins σ (upd H a (.ins C dx (XF f y fs))) i->Q () i):wpAny (model X.prog X.w) A (setAttr (.ref a) f u) Q E s:=by
 obtain⟨k,O,r,j,_,d⟩:=Xz I.hok e
 have l:(fs.map (·.1)).length<=sizeLine:=by rw[List.length_map,sizeLine_eq];omega
 refine zik I.kIn O c.sa c.po n.taker c.hd j l λw O' m=>h _ ?_
 have v:∃ o,w.get? dx=some o:=let ⟨o,_,_,e',_⟩:=O'.ns;⟨o,e'⟩
 refine I.write (x:=a) (e:=dx) (by rw[e];exact True.intro) (.inr d) (λb q p z=>(m.2 b p).trans z) v ?_
 refine⟨by rw[ze O.ne];exact d,?_,O.ne,O'.obj,_,O'.ns,λg=>?_,λg B=>?_⟩
 .have:=Zk f y fs;omega
 .show za1 ((XF f y fs).lookup g) (if g=f then some u else k g)
  rw[Zq]
  by_cases q:g=f
  .rw[if_pos q,if_pos q];exact t
  .rw[if_neg q,if_neg q];exact r g
 .by_cases q:g=f
  .rw[q];exact(Zj f y fs).1
  .refine(Zj f y fs).2 g (j g λz=>B ?_)
   show(if g=f then some u else k g)=none
   rw[if_neg q];exact z
theorem Inv.made (I:Inv X pins σ H s):Inv X pins σ (upd (upd H s.heap.objs.size (.own (s.heap.objs.size+1))) (s.heap.objs.size+1) (.ins C s.heap.objs.size []))
 { s with heap:=(s.heap.push W.emptyDict).push (W.instObj C s.heap.objs.size) }:=by
 have c:(s.heap.push W.emptyDict).get? s.heap.objs.size=some W.emptyDict:=Heap.get?_push_size s.heap rfl
 have h:((s.heap.push W.emptyDict).push (W.instObj C s.heap.objs.size)).get? (s.heap.objs.size+1)=some (W.instObj C s.heap.objs.size):=by
  have:=Heap.get?_push_size (s.heap.push W.emptyDict) (o:=W.instObj C s.heap.objs.size) rfl
  rwa[Heap.size_push]at this
 have g:(s.heap.push W.emptyDict).Ns s.heap.objs.size (λ_=>none):=⟨W.emptyDict,#[],_,c,rfl,(λe i=>absurd i (by simp)),λ_=>rfl⟩
 have I1:=I.laid (a:=s.heap.objs.size) (o:=.own (s.heap.objs.size+1)) (h':=s.heap.push W.emptyDict) (t':=s.toks) (λb u q=>Heap.get?_push_of_some _ q) (Nat.le_refl _) ⟨_,c⟩
 refine I1.laid (a:=s.heap.objs.size+1) (o:=.ins C s.heap.objs.size []) (t':=s.toks) (λb u q=>Heap.get?_push_of_some _ q) (Nat.le_of_eq (Heap.size_push _ _)) ?_
 have d:s.heap.objs.size≠s.heap.objs.size+1:=Nat.ne_of_lt (Nat.lt_succ_self _)
 refine⟨by rw[ze d,zf],Nat.zero_le _,d,h,λ_=>none,(Heap.Ns1.of_empty g).at λo q=>Heap.get?_push_of_some _ q,λ_=>True.intro,λy f=>absurd rfl f⟩
theorem zhr {a:Program}{w:World}{env:Env}{e:Expr}{f:Str}{b:Pos}{s:Shared}{Q:Value->Shared->Prop}(c:attributeBase e f env (eval e env)=eval e env)
 (h:wpAny (model a w) A (eval e env) (λo d=>wpAny (model a w) A (getAttr o f true) Q E d) E s):wpAny (model a w) A (eval (.Attribute e f b) env) Q E s :=
 Attribute_any_ h (by rw[arm_eval_Attribute,c])
end
noncomputable def tFld (K:W.Frag)(d:TE)(f:Str):TE:=fun σ H Q=>d σ H λx H1=>∃ a C c b v,x=.ref a/\H1 a=some (.ins C c b)/\Cls K C/\wY K C f/\b.lookup f=some v/\Q v H1
noncomputable def zlt (K:W.Frag)(e d:TE)(f:Str):TS:=λD σ H=>d σ H λy H1=>e σ H1 λx H2=>∃ a C c b,x=.ref a/\H2 a=some (.ins C c b)/\Cls K C/\wY K C f/\b.length < 1000 /\
 D.nx σ (upd H2 a (.ins C c (XF f y b)))
section
variable {X:Cx}{o e value:Expr}{f:Str}{pos pos' tpos:Pos}{ta tv:TE}
theorem Vp (k:PE X e ta)(j:attributeBase e f X.env (eval e X.env)=eval e X.env):PE X (.Attribute e f pos) (tFld X.K ta f):=by
 intro b s σ H Q I h
 refine zhr j (thn (k b s σ H _ I h) λu p hh9=>?_)
 obtain⟨x,H1,I1,i,a,C,t,m,v,ex,g,c,n,l,q⟩:=hh9
 subst ex
 obtain rfl:u=Value.ref a:=i
 exact zbS I1 g c n l λr o I2 d=>⟨v,H1,I2,d,q⟩
theorem Vg (k:PE X o ta)(j:PE X value tv)(r:swapsWith value (some (.Attribute o f pos')) pos.line X.env=pure false):PS X (.Assign [.Attribute o f pos'] value pos) (zlt X.K ta tv f):=by
 intro b s σ H D I h
 refine plainObj_wpAny_Assign_Attribute (thn (j b s σ H _ I h) λu e ⟨y,H1,I1,d,q⟩=>thn (k b e σ H1 _ I1 q) λg w hh9=>?_) r
 obtain⟨x,H2,I2,p,a,C,z,t,ex,i,c,n,l,m⟩:=hh9
 subst ex
 obtain rfl:g=Value.ref a:=p
 exact zbt I2 i c n l d λv I3=>⟨σ,_,I3,m⟩
theorem zhU {pl:Sem Bool}{m:Str}{b:Pos}{args:List Expr}{d:List (Addr × Obj)}{s:Shared}{σ:St}{H:Hp}{Q:Value->Shared->Prop}{o:TE}(v:PE X e o)(I:Inv X d σ H s)
 (h:o σ H λx H1=>∃ a C n j g,x=.ref a/\H1 a=some (.ins C n j)/\Cls X.K C/\zdG X.K C m g/\j.lookup m=none /\
  ∀ i,Inv X d σ H1 i->wpAny (model X.prog X.w) X.A (callWith pos (.ref g) [.ref a] (backTo pos (starEach args X.env)) (backToKw pos (keywordEach [] X.env))) Q X.xe i)
 (p:eval (.Call (.Attribute e m b) args [] pos) X.env=(do
  let ov<-eval e X.env
  standAt b.atName
  let (f,first)<-holding [ov] (getMethod ov m pl)
  callWith pos f first (backTo pos (starEach args X.env)) (backToKw pos (keywordEach [] X.env)))) :
 wpAny (model X.prog X.w) X.A (eval (.Call (.Attribute e m b) args [] pos) X.env) Q X.xe s:=by
 refine W.methodCall_KW (pl:=pl) (thn (v d s σ H _ I h) λu i hh9=>?_) p
 obtain⟨x,H1,I1,t,a,C,n,j,g,ex,r,c,k,l,q⟩:=hh9
 subst ex
 obtain rfl:u=Value.ref a:=t
 exact vO I1 r c k l (q i I1)
end
section
variable {X:Cx}{pins:List (Addr × Obj)}{σ:St}{H:Hp}{s:Shared}{A:Around}{E:Value->Shared->Prop}{Q:Value->Shared->Prop}{c:Value}{b:Bool}
inductive zaH (K:W.Frag) (H:Hp):V->Value->Prop where
 | non:zaH K H .non (.type "NoneType")
 | bl (x:Bool):zaH K H (.bl x) (.type "bool")
 | int (i:Int):zaH K H (.int i) (.type "int")
 | str (x:Str):zaH K H (.str x) (.type "str")
 | flt (x:UInt64):zaH K H (.flt x) (.type "float")
 | lst {a:Addr} {xs:List V} (e:H a=some (.lst xs)):zaH K H (.ref a) (.type "list")
 | frz {a:Addr} {o:Obj} {xs:List V} (e:H a=some (.frz o (.lst xs))):zaH K H (.ref a) (.type "list")
 | tup {a:Addr} {xs:List V} (e:H a=some (.tup xs)):zaH K H (.ref a) (.type "tuple")
 | dK {a:Addr} {kvs:List (Key × V)} (e:H a=some (.dK kvs)):zaH K H (.ref a) (.type "dict")
 | dT {a:Addr} {kvs:List (List Key × V)} (e:H a=some (.dT kvs)):zaH K H (.ref a) (.type "dict")
 | ins {a C dx:Addr} {fs:List (Str × V)} (e:H a=some (.ins C dx fs)) (cl:Cls K C) (ha:W.findIn K (.ref C) "__class__"=some (some (.builtin "object.__class__")))
  (hn:W.specialIn K (.builtin "object.__class__") "__get__"=some (some (.builtin "getset_descriptor.__get__"))) (htk:W.takesIn K (.builtin "object.__class__")=some true)
  (hm:W.mroIn K C (.type "object")=some true):zaH K H (.ref a) (.ref C)
theorem zc5 {x:V}{u t:Value}(I:Inv X pins σ H s)(f:yl x u)(ty:zaH X.K H x t)(e:W.kitOne X.K t c=some b)(h:∀ w,Q (.bool b) { s with toks:=w }) :
 wpAny (model X.prog X.w) A (call (.builtin "isinstance") [u,c]) Q E s:=by
 cases ty with
 | non=>cases (show u=Value.none from f);exact W.kia_one W.kitx_none I.kIn True.intro e (λz=>nomatch z) h
 | bl y=>cases (show u=Value.bool y from f);exact W.kia_one W.kitx_bool I.kIn True.intro e (λz=>nomatch z) h
 | int i=>obtain⟨t,q⟩:=(show ∃ t,u=Value.int i t from f);cases q;exact W.kia_one W.kitx_int I.kIn True.intro e (λz=>nomatch z) h
 | str y=>obtain⟨t,q⟩:=(show ∃ t,u=Value.str y t from f);cases q;exact W.kia_one W.kitx_str I.kIn True.intro e (λz=>nomatch z) h
 | flt y=>obtain⟨t,q⟩:=(show ∃ t,u=Value.float y t from f);cases q;exact W.kia_one W.kitx_float I.kIn True.intro e (λz=>nomatch z) h
 | @lst a k d =>
  cases (show u=Value.ref a from f)
  obtain⟨_,_,n,_,g⟩:=(show yb X.prog X.w H s.heap a (.lst k)from I.hok a _ d)
  exact W.kia_one W.kitx_list I.kIn ⟨_,g,rfl⟩ e (λz=>nomatch z) h
 | @frz a v k d =>
  cases (show u=Value.ref a from f)
  obtain⟨_,_,_,n,_,g⟩:=(show yb X.prog X.w H s.heap a (.frz v (.lst k))from I.hok a _ d)
  exact W.kia_one W.kitx_list I.kIn ⟨_,g,rfl⟩ e (λz=>nomatch z) h
 | @tup a k d =>
  cases (show u=Value.ref a from f)
  obtain⟨_,_,_,p⟩:=(show yb X.prog X.w H s.heap a (.tup k)from I.hok a _ d)
  obtain⟨o,g,l,_⟩:=p
  exact W.kia_one W.kitx_tuple I.kIn ⟨o,g,l⟩ e (λz=>nomatch z) h
 | @dK a j d =>
  cases (show u=Value.ref a from f)
  obtain⟨_,_,M,_,p⟩:=(show yb X.prog X.w H s.heap a (.dK j)from I.hok a _ d)
  obtain⟨o,B,K,g,l,_⟩:=p
  exact W.kia_one W.kitx_dict I.kIn ⟨o,g,l.1⟩ e (λz=>nomatch z) h
 | @dT a j d =>
  cases (show u=Value.ref a from f)
  obtain⟨_,_,k,_,o,B,K,g,l,_⟩:=(show yb X.prog X.w H s.heap a (.dT j)from I.hok a _ d)
  exact W.kia_one W.kitx_dict I.kIn ⟨o,g,l.1⟩ e (λz=>nomatch z) h
 | @ins a C N L d r D F m G =>
  cases (show u=Value.ref a from f)
  obtain⟨P,O,_⟩:=Xz I.hok d
  obtain⟨R,J,_⟩:=O.look
  exact W.kia_one (W.kitx_own (r.get _) r.hd D F m G) I.kIn J e (λz=>nomatch z) h
end
structure yL (k:Nat) (A:Around):Prop where
 hd:A.handled=none
 dp:A.depth+3*k+5 < recursionLimit
 un:A.units+16*k+200 < cLine
theorem yL.mono {j k:Nat}{A:Around}(r:yL k A)(h:j<=k):yL j A:=⟨r.hd,by have:=r.dp;omega,by have:=r.un;omega⟩
theorem yL.deeper {k:Nat}{A:Around}(r:yL (k+1) A)(env:Env):yL k (A.deeper env) :=
 ⟨r.hd,by have:=r.dp;show A.depth+1+3*k+5 < _;omega,by have:=r.un;show A.units+3+16*k+200 < _;omega⟩
theorem zbJ {A:Around} {C:Addr} {b:List Value} {a:List (Str × Value)}:(A.under (.builtin "type.__call__" ⟨.ref C::b,a⟩)).depth=A.depth+1:=by
 first | rfl | simp[Around.under,Code.weight,Code.isCreation,Code.isGuard,Code.isCaller,Code.frames,Code.isFrame,guardIds]
theorem zbn {A:Around} {C:Addr} {b:List Value} {a:List (Str × Value)}:(A.under (.builtin "type.__call__" ⟨.ref C::b,a⟩)).units=A.units+1:=by
 first | rfl | simp[Around.under,Code.cUnits,Code.frames,Code.isFrame]
theorem yL.make {k:Nat} {A:Around} (r:yL (k+1) A) (C:Addr) (b:List Value) (a:List (Str × Value)):yL k (A.under (.builtin "type.__call__" ⟨.ref C::b,a⟩)) :=
 ⟨r.hd,by have:=r.dp;rw[zbJ];omega,by have:=r.un;rw[zbn];omega⟩
theorem yL.depth {k:Nat}{A:Around}(r:yL k A):A.depth < recursionLimit:=by have:=r.dp;omega
theorem yL.units {k:Nat}{A:Around}(r:yL k A):A.units+64 < cLine:=by have:=r.un;omega
theorem yL.units0 {k:Nat}{A:Around}(r:yL k A):A.units < cLine:=by have:=r.un;omega
noncomputable def zdj:TA:=λ_ H Q=>Q [] H
noncomputable def YR (b:TE)(c:TA):TA:=fun σ H Q=>b σ H λx H1=>c σ H1 λa H2=>Q (x::a) H2
section
variable {X:Cx}{e:Expr}{es:List Expr}{te:TE}{t:TA}{pos:Pos}
theorem z9:PA X [] zdj:=λ_ _ _ _ H Q I h=>Calls.spliced_nil ⟨[],H,I,.nil,h⟩
theorem zn (i:PE X e te)(c:PA X es t)(b:starEach (e::es) X.env=(false,eval e X.env)::starEach es X.env:=by rfl):PA X (e::es) (YR te t):=by
 intro pos a s σ H Q I h
 rw[b]
 show wpAny _ _ (spliced ((false,eval e X.env)::backTo pos (starEach es X.env))) _ _ s
 refine Calls.spliced_cons (thn (i a s σ H _ I h) λu d hh9=>?_)
 obtain⟨x,H1,I1,f,j⟩:=hh9
 exact thn (c pos a d σ H1 _ I1 j) λn m ⟨k,H2,I2,l,g⟩=>⟨x::k,H2,I2,.cons f l,g⟩
noncomputable def tTup (t:TA):TE:=fun σ H Q=>t σ H λa H1=>a.length<=sizeLine/\∀ p,H1 p=none->Q (.ref p) (upd H1 p (.tup a))
noncomputable def zmk (t:TA):TE:=fun σ H Q=>t σ H λa H1=>a.length<=sizeLine/\∀ p,H1 p=none->Q (.ref p) (upd H1 p (.lst a))
theorem zk4 {x1}(h:PA X es t):PE X (.Tuple es x1 pos) (tTup t):=by
 intro a s σ H Q I d
 refine wpAny_Tuple_spliced (thn (h pos a s σ H _ I d) λi c ⟨g,H1,I1,r,z,q⟩=>⟨by rw[<-r.length];exact z,?_⟩)
 have f:H1 c.heap.objs.size=none:=I1.hok.fresh (Nat.le_refl _)
 refine⟨.ref c.heap.objs.size,upd H1 c.heap.objs.size (.tup g),I1.laid (t':=c.toks) (λb u e=>Heap.get?_push_of_some _ e) (Nat.le_refl _) ?_,rfl,q _ f⟩
 exact⟨z,i,r,⟨_,Heap.get?_push_size _ rfl,rfl,_,rfl⟩⟩
theorem Vl (h:PA X es t):PE X (.List es pos) (zmk t):=by
 intro a s σ H Q I d
 refine wpAny_List_spliced (thn (h pos a s σ H _ I d) λi c ⟨g,H1,I1,r,z,q⟩=>⟨by rw[<-r.length];exact z,?_⟩)
 have f:H1 c.heap.objs.size=none:=I1.hok.fresh (Nat.le_refl _)
 refine⟨.ref c.heap.objs.size,upd H1 c.heap.objs.size (.lst g),I1.laid (t':=c.toks) (λb u e=>Heap.get?_push_of_some _ e) (Nat.le_refl _) ?_,rfl,q _ f⟩
 exact⟨z,i,0,r,Heap.get?_push_size _ rfl⟩
end
noncomputable abbrev Sp:=List V->Hp->VK->XK->Prop
noncomputable abbrev CXT:=List Env->Hp->Shared->XK->Value->Shared->Prop
structure ze9 (P:Program) (w:World) (K:W.Frag) (mg:Str->Option Value) (base:Heap) (A:Around) (outer:List Env) (s:Shared) (H:Hp):Prop where
 frames:A.frames=some outer
 mod:Mod K mg base
 bs:∀ b o,base.get? b=some o->s.heap.get? b=some o/\H b=none
 bsz:base.objs.size<=s.heap.objs.size
 funs:s.heap.FunFrames base outer
 frf:∀ b∈frs outer,H b=none
 hok:HOk P w H s.heap
 bare:AllBare s.gens
noncomputable def CE (outer:List Env)(P:Program)(w:World)(H:Hp)(s:Shared)(Q:VK)(u:Value)(a:Shared):Prop :=
 ∃ v H',a.os=s.os/\AllBare a.gens/\Un (frs outer) [] H H' s.heap a.heap/\HOk P w H' a.heap/\yl v u/\Q v H'
noncomputable def CR (CX:CXT)(outer:List Env)(P:Program)(w:World)(H:Hp)(s:Shared)(Q:VK)(E:XK)(r:Result)(a:Shared):Prop :=
 match r with
 | .ok (.ret u)=>CE outer P w H s Q u a
 | .ok _=>False
 | .error e=>CX outer H s E e a
structure xA (P:Program) (w:World) (K:W.Frag) (mg:Str->Option Value) (base:Heap) (CX:CXT) (k:Nat) (f:Addr) (fd:FuncData) (ps:List Str) (sp:Sp):Prop where
 len:∀ vs H Q E,sp vs H Q E->vs.length=ps.length
 run:∀ (A:Around) (outer:List Env) (s:Shared) (H:Hp) (args:Args) (us:List Value) (vs:List V) (Q:VK) (E:XK),yL k A->ze9 P w K mg base A outer s H->BindsTo s fd args (ps.zip us)->zT vs us->sp vs H Q E ->
  codeAny (model P w) A (.call (.ref f) args) (CR CX outer P w H s Q E) s
theorem xA.mono {P:Program}{w:World}{K:W.Frag}{b:Str->Option Value}{a:Heap}{CX:CXT}{j k:Nat}{f:Addr}{c:FuncData}{ps:List Str}{d:Sp}(F:xA P w K b a CX j f c ps d)(h:j<=k) :
 xA P w K b a CX k f c ps d:=⟨F.len,λA outer s H args g i Q E e=>F.run A outer s H args g i Q E (e.mono h)⟩
theorem xA.imp {P:Program}{w:World}{K:W.Frag}{d:Str->Option Value}{a:Heap}{CX:CXT}{k:Nat}{f:Addr}{e:FuncData}{i:List Str}{g c:Sp}(F:xA P w K d a CX k f e i g)
 (h:∀ b H Q E,c b H Q E->g b H Q E):xA P w K d a CX k f e i c :=
 ⟨λb H Q E q=>F.len b H Q E (h _ _ _ _ q),λA outer s H args l b Q E j p m o n=>F.run A outer s H args l b Q E j p m o (h _ _ _ _ n)⟩
theorem ze9.make {P:Program}{w:World}{K:W.Frag}{b:Str->Option Value}{a:Heap}{A:Around}{outer:List Env}{s:Shared}{H:Hp}(e:ze9 P w K b a A outer s H)(C:Addr)(d:List Value)(c:List (Str × Value)) :
 ze9 P w K b a (A.under (.builtin "type.__call__" ⟨.ref C::d,c⟩)) outer s H:=⟨by first | exact e.frames | (simpa [Around.under,Code.envs,Code.isFrame,pushEnvs]using e.frames),e.mod,e.bs,e.bsz,e.funs,e.frf,e.hok,e.bare⟩
section
variable {X:Cx}{pins:List (Addr × Obj)}{σ:St}{H:Hp}{s s':Shared}
theorem Inv.env0 (I:Inv X pins σ H s):ze9 X.prog X.w X.K X.mg X.base X.A X.stack s H :=
 ⟨I.ok.frames,I.ok.mod,I.bs,Nat.le_trans I.ok.bsz I.sz,I.stack,I.stkFree,I.hok,I.bare⟩
theorem Inv.after {Q:VK}{u:Value}(I:Inv X pins σ H s)(h:CE X.stack X.prog X.w H s Q u s'):EP X pins σ Q u s':=by
 obtain⟨v,H',os,a,i,c,r,q⟩:=h
 obtain⟨f,g,d,t,e⟩:=s'
 obtain rfl:e=s.os:=os
 exact⟨v,H',I.call (h':=f) (g':=g) (d':=d) (t':=t) (ch:=[]) i c a (λb z=>absurd z (by simp)),r,q⟩
end
noncomputable def zhu (c:Sp)(a:List V)(E:XK)(t:TA):TE:=fun σ H Q=>t σ H λb H1=>c (b++a) H1 Q E
noncomputable def ziQ (C:Addr)(m:Str)(g:Sp)(b:List V)(E:XK)(f:TE)(t:TA):TE:=fun σ H Q=>f σ H λx H1=>∃ a e c,x=.ref a/\H1 a=some (.ins C e c)/\c.lookup m=none /\
 t σ H1 λd H2=>g (x::(d++b)) H2 Q E
noncomputable def zmo (C:Addr)(d:Sp)(b:List V)(E:XK)(t:TA):TE:=fun σ H Q=>t σ H λc H1=>∀ x a,H1 x=none->H1 a=none->a≠x ->
 d (.ref x::(c++b)) (upd (upd H1 a (.own x)) x (.ins C a [])) (λv H2=>v=.non/\Q (.ref x) H2) E
noncomputable def xf (K:W.Frag)(d:FuncData)(c:List Str)(b:List Value):Prop :=
 ∀ (s:Shared) (a:List Value),K.In s.heap->(a++b).length=c.length->BindsTo s d ⟨a,[]⟩ (c.zip (a++b))
theorem xf.all {K:W.Frag}{d:FuncData}{b:List Str}(h:∀ a:List Value,a.length=b.length->bindArgs d ⟨a,[]⟩=pure (b.zip a)):xf K d b []:=λs a _ c=>by
 rw[List.append_nil]at c ⊢
 exact .of_eq (h a c)
noncomputable def xB (CX:CXT)(X:Cx)(E:XK):Prop:=∀ (a:List (Addr × Obj)) (σ:St) (H:Hp) (s:Shared) (e:Value) (b:Shared),Inv X a σ H s->CX X.stack H s E e b->X.xe e b
section
variable {X:Cx}{CX:CXT}{k:Nat}{f C:Addr}{fd:FuncData}{ps:List Str}{sp:Sp}{dvs:List V}{ds:List Value}{E:XK}{x m:Str}{p pos apos:Pos}{e o:Expr}{es:List Expr}{ta:TE}{t:TA}
theorem zdT {a:List (Addr × Obj)}{σ:St}{H:Hp}{s:Shared}{Q:VK}{us:List Value}{vs:List V}(F:xA X.prog X.w X.K X.mg X.base CX k f fd ps sp)(d:yL k X.A)(m:xf X.K fd ps ds)(g:zT dvs ds)(i:xB CX X E)
 (I:Inv X a σ H s) (r:zT vs us) (h:sp (vs++dvs) H Q E):wpAny (model X.prog X.w) X.A (call (.ref f) us) (EP X a σ Q) X.xe s:=by
 have c:zT (vs++dvs) (us++ds):=r.append g
 have n:(us++ds).length=ps.length:=by rw[<-c.length];exact F.len _ _ _ _ h
 refine wpAny_call (codeAny_mono (F.run X.A X.stack s H ⟨us,[]⟩ (us++ds) (vs++dvs) Q E d I.env0 (m s us I.kIn n) c h) λr l b=>?_)
 cases r with
 | error e=>exact i a σ H s e l I b
 | ok j =>
  cases j with
  | ret u=>exact I.after b
  | next=>exact False.elim b
  | brk=>exact False.elim b
  | cont=>exact False.elim b
theorem zc7 (F:xA X.prog X.w X.K X.mg X.base CX k f fd ps sp)(g:yL k X.A)(m:Gl X x)(u:X.mg x=some (.ref f))(d:W.keepIn X.K (.ref f)=true)(n:xf X.K fd ps ds)(i:zT dvs ds)(j:xB CX X E)
 (l:PA X (e::es) t) (c:(x == ("__debug__":Str))=false:=by decide) (o:starEach (e::es) X.env=(false,eval e X.env)::starEach es X.env:=by rfl) (b:(backTo pos (starEach es X.env)).any (·.1)=false:=by rfl) :
 PE X (.Call (.Name x p) (e::es) [] pos) (zhu sp dvs E t):=by
 intro a s σ H Q I h
 refine wpAny_Call_Name_kw (wJ I m u ?_ c)
 refine W.callWith_K (h₀:=X.base) I.ok.mod.kin d (thn (l pos a s σ H _ I h) λy v ⟨w,H1,I1,r,q⟩=>⟨I1.kIn,?_⟩) o b
 exact zdT F g n i j I1 r q
theorem zai {pl:Sem Bool}(K:PE X o ta)(c:Cls X.K C)(j:zdG X.K C m f)(F:xA X.prog X.w X.K X.mg X.base CX k f fd ps sp)(p:yL k X.A)(w:xf X.K fd ps ds)(z:zT dvs ds)(A:xB CX X E)(G:PA X (e::es) t)
 (g:starEach (e::es) X.env=(false,eval e X.env)::starEach es X.env:=by rfl) (d:(backTo pos (starEach es X.env)).any (·.1)=false:=by rfl)
 (y:eval (.Call (.Attribute o m apos) (e::es) [] pos) X.env=(do
  let ov<-eval o X.env
  standAt apos.atName
  let (f,first)<-holding [ov] (getMethod ov m pl)
  callWith pos f first (backTo pos (starEach (e::es) X.env)) (backToKw pos (keywordEach [] X.env))):=by rfl) :
 PE X (.Call (.Attribute o m apos) (e::es) [] pos) (ziQ C m sp dvs E ta t):=by
 intro b s σ H Q I h
 refine W.methodCall_KW (pl:=pl) (thn (K b s σ H _ I h) λu v hh9=>?_) y
 obtain⟨x,H1,I1,J,a,N,L,ex,B,l,q⟩:=hh9
 subst ex
 obtain rfl:u=Value.ref a:=J
 refine vO I1 B c j l ?_
 refine W.callWith_K (first:=[.ref a]) (h₀:=X.base) I.ok.mod.kin j.kp (thn (G pos b v σ H1 _ I1 q) λn M ⟨i,H2,I2,r,D⟩=>⟨I2.kIn,?_⟩) g d
 exact zdT (us:=.ref a::n) (vs:=.ref a::i) F p w z A I2 (.cons rfl r) D
theorem ze2 {pl:Sem Bool}(t:PE X o ta)(c:Cls X.K C)(d:zdG X.K C m f)(F:xA X.prog X.w X.K X.mg X.base CX k f fd ps sp)(g:yL k X.A)(r:xf X.K fd ps ds)(i:zT dvs ds)(j:xB CX X E)
 (e:eval (.Call (.Attribute o m apos) [] [] pos) X.env=(do
  let ov<-eval o X.env
  standAt apos.atName
  let (f,first)<-holding [ov] (getMethod ov m pl)
  callWith pos f first (backTo pos (starEach [] X.env)) (backToKw pos (keywordEach [] X.env))):=by rfl) :
 PE X (.Call (.Attribute o m apos) [] [] pos) (ziQ C m sp dvs E ta zdj):=by
 intro b s σ H Q I h
 refine W.methodCall_KW (pl:=pl) (thn (t b s σ H _ I h) λu w hh9=>?_) e
 obtain⟨x,H1,I1,p,a,y,v,ex,n,l,q⟩:=hh9
 subst ex
 obtain rfl:u=Value.ref a:=p
 refine vO I1 n c d l ?_
 exact W.callWith_K0 (first:=[.ref a]) I1.kIn d.kp (zdT (us:=[.ref a]) (vs:=[.ref a]) F g r i j I1 (.cons rfl .nil) q)
structure Mk (K:W.Frag) (C f:Addr):Prop where
 makes:W.makesIn K C=true
 init:W.findIn K (.ref C) "__init__"=some (some (.ref f))
 fn:W.isFn K (.ref f)=true
 kp:W.keepIn K (.ref C)=true
theorem zfs {a:List (Addr × Obj)}{σ:St}{H:Hp}{s:Shared}{Q:VK}{us:List Value}{d:List V}(M:Mk X.K C f)(F:xA X.prog X.w X.K X.mg X.base CX k f fd ps sp)(j:yL (k+1) X.A)(w:xf X.K fd ps ds)(l:zT dvs ds)
 (p:xB CX X E) (I:Inv X a σ H s) (r:zT d us)
 (h:∀ x c,H x=none->H c=none->c≠x->sp (.ref x::(d++dvs)) (upd (upd H c (.own x)) x (.ins C c [])) (λv H2=>v=.non/\Q (.ref x) H2) E) :
 wpAny (model X.prog X.w) X.A (call (.ref C) us) (EP X a σ Q) X.xe s:=by
 have g:=h (s.heap.objs.size+1) s.heap.objs.size (I.hok.fresh (Nat.le_succ _)) (I.hok.fresh (Nat.le_refl _)) (Nat.ne_of_lt (Nat.lt_succ_self _))
 have I2:=Inv.made (C:=C) I
 have i:zT (V.ref (s.heap.objs.size+1)::(d++dvs)) (Value.ref (s.heap.objs.size+1)::(us++ds)):=.cons rfl (r.append l)
 have y:(Value.ref (s.heap.objs.size+1)::us++ds).length=ps.length:=by
  have e:=i.length
  rw[F.len _ _ _ _ g]at e
  exact e.symm
 refine wpAny_call (ze7 (f:=f) I.kIn M.makes M.init (beq_iff_eq.mp M.fn) (codeAny_mono (F.run _ X.stack _ _ ⟨Value.ref (s.heap.objs.size+1)::us,[]⟩ (Value.ref (s.heap.objs.size+1)::(us++ds)) _ _ E (j.make C us [])
  (I2.env0.make C us []) (w _ (Value.ref (s.heap.objs.size+1)::us) I2.kIn y) i g) λr t b=>?_))
 cases r with
 | error e=>exact p a σ _ _ e t I2 b
 | ok q =>
  cases q with
  | ret u =>
   obtain⟨v,H',I3,m,n,o⟩:=I2.after b
   subst n
   exact⟨m,⟨V.ref (s.heap.objs.size+1),H',I3,rfl,o⟩⟩
  | next=>exact False.elim b
  | brk=>exact False.elim b
  | cont=>exact False.elim b
theorem zfR (M:Mk X.K C f)(F:xA X.prog X.w X.K X.mg X.base CX k f fd ps sp)(c:yL (k+1) X.A)(e:Gl X x)(j:X.mg x=some (.ref C))(g:xf X.K fd ps ds)(d:zT dvs ds)(i:xB CX X E)
 (a:(x == ("__debug__":Str))=false:=by decide):PE X (.Call (.Name x p) [] [] pos) (zmo C sp dvs E zdj):=by
 intro b s σ H Q I h
 refine wpAny_Call_Name_kw (wJ I e j ?_ a)
 exact W.callWith_K0 I.kIn M.kp (zfs (us:=[]) M F c g d i I .nil h)
end
structure yf (N P:List Str) (sc:Scope):Prop where
 kind:sc.kind=.function
 co:sc.isCoroutine=false
 gen:sc.isGenerator=false
 nd:N.Nodup
 pre:N.take P.length=P
 par:∀ x∈P,sc.names.lookup x=some .local\/sc.names.lookup x=some .cell
 nofree:∀ y∈sc.names,y.2≠.free
theorem Vd {b:Str->Option NameKind}{x:Str}:∀ {a:List (Str × Value)} {m:Str->Option Value},(∀ v,(x,v)∉a)->bindL b a m x=m x
 | [],_,_=>rfl
 | (n,v)::r,m,h=>by
  unfold bindL
  rw[Vd λw hw=>h w (List.mem_cons_of_mem _ hw)]
  split
  .have:x≠n:=by rintro rfl;exact h v List.mem_cons_self
   simp[this]
  .rfl
theorem Vj {b:Str->Option NameKind}{x:Str}:∀ {a:List (Str × Value)} {m:Str->Option Value},(∀ v,(x,v)∉a)->bindC b a m x=m x
 | [],_,_=>rfl
 | (n,v)::r,m,h=>by
  unfold bindC
  rw[Vj λw hw=>h w (List.mem_cons_of_mem _ hw)]
  split
  .rfl
  .have:x≠n:=by rintro rfl;exact h v List.mem_cons_self
   simp[this]
theorem Vo {a:Str->Option NameKind}{x:Str}{v:Value}:∀ {P:List Str} {b:List Value} {i:Nat} {m:Str->Option Value},P.Nodup->P[i]?=some x->b[i]?=some v->a x=some .local ->
 bindL a (P.zip b) m x=some v
 | [],_,_,_,_,h,_,_=>by simp at h
 | _::_,[],_,_,_,_,h,_=>by simp at h
 | p::P,w::b,0,m,nd,h1,h2,hk=>by
  simp at h1 h2;subst h1;subst h2
  show bindL a ((p,w)::P.zip b) m p=_
  unfold bindL
  rw[Vd λv c=>(List.nodup_cons.mp nd).1 (List.of_mem_zip c).1,if_pos hk]
  simp
 | p::P,w::b,i+1,m,nd,h1,h2,hk=>by
  show bindL a ((p,w)::P.zip b) m x=_
  unfold bindL
  exact Vo (i:=i) (List.nodup_cons.mp nd).2 (by simpa using h1) (by simpa using h2) hk
theorem Vf {a:Str->Option NameKind}{x:Str}{v:Value}:∀ {P:List Str} {b:List Value} {i:Nat} {m:Str->Option Value},P.Nodup->P[i]?=some x->b[i]?=some v->a x≠some .local ->
 bindC a (P.zip b) m x=some v
 | [],_,_,_,_,h,_,_=>by simp at h
 | _::_,[],_,_,_,_,h,_=>by simp at h
 | p::P,w::b,0,m,nd,h1,h2,hk=>by
  simp at h1 h2;subst h1;subst h2
  show bindC a ((p,w)::P.zip b) m p=_
  unfold bindC
  rw[Vj λv c=>(List.nodup_cons.mp nd).1 (List.of_mem_zip c).1,if_neg hk]
  simp
 | p::P,w::b,i+1,m,nd,h1,h2,hk=>by
  show bindC a ((p,w)::P.zip b) m x=_
  unfold bindC
  exact Vf (i:=i) (List.nodup_cons.mp nd).2 (by simpa using h1) (by simpa using h2) hk
noncomputable def start (N:List Str)(a:List V):St:=a.map some++List.replicate (N.length - a.length) none
noncomputable def vR (CX:CXT)(P:Program)(w:World)(K:W.Frag)(mg:Str->Option Value)(base:Heap)(N:List Str)(qual:Str)(scope:Scope)(f:Addr)(cd:Value)(A:Around)(outer:List Env)(s:Shared)(H:Hp)(E:XK):Cx where
 prog:=P
 w:=w
 K:=K
 mg:=mg
 base:=base
 A:=A.deeper (envOfC qual scope s.heap.objs.size f cd)
 N:=N
 s₀:=s
 H₀:=H
 env:=envOfC qual scope s.heap.objs.size f cd
 outer:=outer
 stack:=envOfC qual scope s.heap.objs.size f cd::outer
 ex:=[]
 calm:=true
 fn:=λ_=>true
 pn:=[]
 xe:=λe s'=>wpAny (model P w) (A.deeper (envOfC qual scope s.heap.objs.size f cd)) (leaving (envOfC qual scope s.heap.objs.size f cd) e) (λ_ s''=>CX outer H s E e s'') (λe' s''=>CX outer H s E e' s'') s'
theorem zaO {sc:Scope}{n:Nat}{x:Str}(h:sc.names.lookup x=some .cell):∃ c,(cellsFrom n sc.names []).lookup x=some c:=by
 have q:=W.cellsFrom_some sc.names n [] (.inl h)
 exact Option.isSome_iff_exists.mp q
theorem YZ {CX:CXT}{P:Program}{w:World}{K:PySem.W.Frag}{M:Str->Option Value}{l:Heap}{N C:List Str}{g:Str}{d:Scope}{f:Addr}{G:Value}{A:Around}{outer:List Env}{s O:Shared}{H:Hp}{E:XK}{L:List Value}{t:List V}
 (S:yf N C d) (W:A.handled=none) (m:ze9 P w K M l A outer s H) (Y:t.length=C.length) (r:zT t L)
 (x:InCallC s s.heap.objs.size (bindL (envOfC g d s.heap.objs.size f G).kindOf (C.zip L) λ_=>none) (cellsFrom (s.heap.objs.size+1) d.names []) (bindC (envOfC g d s.heap.objs.size f G).kindOf (C.zip L) λ_=>none) O) :
 Inv (vR CX P w K M l N g d f G A outer s H E) [] (start N t) H O:=by
 have T:C.length<=N.length:=by have:=congrArg List.length S.pre;rw[List.length_take]at this;omega
 obtain⟨I,Z,rfl,R⟩:=x.done
 have B:∀ b:Addr,b∉(vR CX P w K M l N g d f G A outer s H E).ex:=λb z=>absurd (show b∈([]:List Addr)from z) (by simp)
 refine⟨⟨m.mod,S.kind,rfl,rfl,Nat.le_refl _,λy z c I j=>?_,λy o=>?_,λy c _ h=>?_,λ_=>W,Around.frames_deeper m.frames,.inr ⟨rfl,rfl⟩,λb z=>absurd z (B b),m.bs,m.bsz,λb _ _=>B b,λb z=>absurd z (B b),m.funs,m.frf⟩,
  rfl,m.bare,Un.kept R,⟨_,x.toInCall.ns,λi y v I j h3=>?_⟩,λy c h=>⟨_,x.cell y c h⟩,m.hok.fresh (Nat.le_refl _),λy c h=>?_,λp D=>absurd (show p∈([]:List (Addr × Obj))from D) (by simp),m.hok.kept R,?_⟩
 .exact name_of_addr x.apart (PySem.mem_of_lookup I) (PySem.mem_of_lookup j)
 .have o:d.names.lookup y=some .cell\/d.names.lookup y=some .free:=o
  rcases o with o | o
  .exact zaO o
  .exact absurd rfl (S.nofree _ (PySem.mem_of_lookup o))
 .exact Nat.le_of_lt (x.above y c (PySem.mem_of_lookup h))
 .have J:i < t.length:=by
   unfold start at j
   by_cases J:i < t.length
   .exact J
   .rw[List.getElem?_append_right (by simpa using J)]at j
    rw[List.getElem?_replicate]at j
    split at j <;> cases j
  have X:t[i]?=some v:=by
   unfold start at j
   rw[List.getElem?_append_left (by simpa using J),List.getElem?_map]at j
   cases e:t[i]? with
   | none=>rw[e]at j;cases j
   | some a=>rw[e]at j;cases j;rfl
  obtain⟨u,Q,U⟩:=r.get X
  have D:C[i]?=some y:=by
   rw[<-S.pre,List.getElem?_take_of_lt (by omega)];exact I
  have F:C.Nodup:=by rw[<-S.pre];exact S.nd.sublist (List.take_sublist _ _)
  refine⟨u,U,?_⟩
  rcases S.par y (List.mem_of_getElem? D)with k | k
  .exact .inl ⟨k,Vo F D Q k⟩
  .obtain⟨c,e⟩:=zaO (n:=s.heap.objs.size+1) k
   refine .inr ⟨.inl k,c,e,?_⟩
   have q:=x.cell y c e
   rw[Vf F D Q (by show d.names.lookup y≠_;rw[k];decide)]at q
   exact q
 .exact m.hok.fresh (Nat.le_of_lt (x.above y c (PySem.mem_of_lookup h)))
 .unfold start
  show _=N.length
  rw[List.length_append,List.length_map,List.length_replicate]
  omega
theorem zjJ {CX:CXT}{P:Program}{w:World}{K:PySem.W.Frag}{G:Str->Option Value}{g:Heap}{k:Nat}{f:Addr}{l c:Str}{h:Arguments}{i:List Stmt}{a:Scope}{Z kV F pm d ct oc:Value}{an od:Option Addr}
 {W:Array (Option Value)} {N M:List Str} {X:Sp} (lk:K.lookup f=some ⟨oc,od,.func (PySem.W.fnOf l c h i a Z kV F pm an d ct),W⟩) (T:PySem.W.codeIn K d c=true) (S:yf N M a)
 (C:∀ j H Q E,X j H Q E->j.length=M.length)
 (m:∀ (A:Around) (outer:List Env) (s:Shared) (H:Hp) (j:List V) (Q:VK) (E:XK),yL k (A.deeper (envOfC c a s.heap.objs.size f d))->X j H Q E ->
  ∃ t,PSs (vR CX P w K G g N c a f d A outer s H E) i t/\t { nx:=λ_ H'=>Q .non H',rt:=Q } (start N j) H) :
 xA P w K G g CX (k+1) f (PySem.W.fnOf l c h i a Z kV F pm an d ct) M X:=by
 refine⟨C,λA outer s H args us j Q E O B hb r D=>?_⟩
 have hl:=C _ _ _ _ D
 have KX:K.In s.heap:=B.mod.kin.keeps λb o e=>(B.bs b o e).1
 have lim:s.heap.NoLimit:=B.mod.nolimit.keeps λb o e=>(B.bs b o e).1
 have p:∀ y∈M.zip us,a.names.lookup y.1=some .local\/(a.names.lookup y.1=some .cell/\((cellsFrom (s.heap.objs.size+1) a.names []).lookup y.1).isSome=true):=λ⟨n,v⟩ hy=>by
  rcases S.par n (List.of_mem_zip hy).1 with q | q
  .exact .inl q
  .exact .inr ⟨q,PySem.W.cellsFrom_some _ _ _ (.inl q)⟩
 refine codeAny_call_function O.depth (KX _ _ lk) rfl S.co S.gen rfl (PySem.W.codeRec_of KX T) (hb _ _ _ _ ?_)
 refine wpAny_newFunctionEnv_cells S.kind p λenv he Y x=>?_
 subst he
 refine⟨lim.keeps x.toInCall.keep,codeAny_func ?_⟩
 obtain⟨t,ht,hq⟩:=m A outer s H j Q E (O.deeper _) D
 have I:Inv (vR CX P w K G g N c a f d A outer s H E) [] (start N j) H Y:=YZ S O.hd B hl r x
 refine wpAny_mono (ht [] Y (start N j) H _ I hq) (λfl U z=>?_) λe U z=>z
 have fin:∀ {L:St} {H':Hp} {v:V} {u:Value},Inv (vR CX P w K G g N c a f d A outer s H E) [] L H' U->yl v u->Q v H'->CE outer P w H s Q u U :=
  λ{L H' v u} J R q=>⟨v,H',J.os,J.bare,J.base,J.hok,R,q⟩
 cases fl with
 | ret u =>
  obtain⟨v,L,H',J,R,q⟩:=z
  exact fin J R q
 | next =>
  obtain⟨L,H',J,q⟩:=z
  exact fin (v:=V.non) (u:=Value.none) J rfl q
 | brk =>
  obtain⟨_,_,_,q⟩:=z
  exact False.elim q
 | cont =>
  obtain⟨_,_,_,q⟩:=z
  exact False.elim q
section
variable {X:Cx}{x:Str}{p pos:Pos}{e:Expr}{es:List Expr}{t:TA}{id T:String}{r:List V->Hp->VK->Prop}
noncomputable def tCB (r:List V->Hp->VK->Prop)(t:TA):TE:=fun σ H Q=>t σ H λa H1=>r a H1 Q
theorem zN (j:wb X (.builtin id) r) (m:Gl X x) (q:X.mg x=none) (i:bootBuiltins x=some (.builtin id)) (k:PA X (e::es) t) (n:x≠"__name__":=by decide) (c:(x == ("__debug__":Str))=false:=by decide)
 (o:starEach (e::es) X.env=(false,eval e X.env)::starEach es X.env:=by rfl) (b:(backTo pos (starEach es X.env)).any (·.1)=false:=by rfl):PE X (.Call (.Name x p) (e::es) [] pos) (tCB r t):=by
 intro a s σ H Q I h
 refine wpAny_Call_Name_kw (Z5 I m q i ?_ n c)
 exact PyProof.Rows.callWith_builtin1 (thn (k pos a s σ H _ I h) λu d ⟨g,H1,I1,f,l⟩=>j a d σ H1 g u Q I1 f l) o b
theorem Vn (j:wb X (.type T) r) (m:Gl X x) (q:X.mg x=none) (i:bootBuiltins x=some (.type T)) (k:PA X (e::es) t) (n:x≠"__name__":=by decide) (c:(x == ("__debug__":Str))=false:=by decide)
 (o:starEach (e::es) X.env=(false,eval e X.env)::starEach es X.env:=by rfl) (b:(backTo pos (starEach es X.env)).any (·.1)=false:=by rfl):PE X (.Call (.Name x p) (e::es) [] pos) (tCB r t):=by
 intro a s σ H Q I h
 refine wpAny_Call_Name_kw (Z5 I m q i ?_ n c)
 exact PyProof.Rows.callWith_type1 (thn (k pos a s σ H _ I h) λu d ⟨g,H1,I1,f,l⟩=>j a d σ H1 g u Q I1 f l) o b
end
end L2
namespace HT
open PySem PyProof.Rows
noncomputable def lexLt:List Int->List Int->Bool
 | [],[]=>false
 | [],_::_=>true
 | _::_,[]=>false
 | x::xs,y::ys=>if x=y then lexLt xs ys else decide (x < y)
theorem lexLt_cons (x y:Int)(b a:List Int):lexLt (x::b) (y::a)=if x=y then lexLt b a else decide (x < y):=rfl
theorem zgj (A:Around)(s:Shared)(a:Int)(t:Tok)(c:Int)(u:Tok):∃ e,SeqAt.EqAt A s (.int a t) (.int c u) e/\(e=true↔a=c) :=
 ⟨(a == c),SeqAt.EqAt.int_int a t c u,by simp⟩
section
variable {prog:Program}{w:World}{A:Around}{E:Value->Shared->Prop}{s:Shared}
theorem cat_tup {t b:Addr}{d a:List Value}{Q:Value->Shared->Prop}(x:IsTup s.heap t d.toArray)(z:IsTup s.heap b a.toArray)(q:d≠[])
 (y:a=[]->Q (.ref t) s) (B:a≠[]->Q (.ref s.heap.objs.size) { s with heap:=s.heap.push { cls:=.type "tuple",data:=.seq (d++a).toArray } })
 (k:d.length+a.length<=sizeLine):wpAny (model prog w) A (binaryOp .Add (.ref t) (.ref b)) Q E s:=by
 obtain⟨⟨cls,o,data,u⟩,j,r,n,m⟩:=id x
 obtain⟨⟨p,g,l,i⟩,c,h,v,f⟩:=id z
 simp only at r m h f
 subst r m h f
 have e:d.toArray++a.toArray=(d++a).toArray:=by simp
 by_cases hw:a=[]
 .exact concat_meets ⟨_,j,rfl⟩ ⟨_,c,rfl⟩ noFill_tuple_add seq_tuple_add PySem.F.slot_tuple_add PySem.F.entry_tuple_add (PySem.F.args_tuple_add_2 _ _)
   (tuple_addW1 t b d.toArray a.toArray n v o g u i (by simpa using q) (by simp[hw])) ⟨j,c,y hw⟩
 .refine concat_meets ⟨_,j,rfl⟩ ⟨_,c,rfl⟩ noFill_tuple_add seq_tuple_add PySem.F.slot_tuple_add PySem.F.entry_tuple_add (PySem.F.args_tuple_add_2 _ _)
   (tuple_addW2 t b d.toArray a.toArray n v o g u i (by simpa using q) (by simpa using hw) (by rw[List.size_toArray,List.size_toArray];exact k)) ⟨j,c,?_⟩
  rw[e]
  exact B hw
noncomputable def sIx (n d:Nat):Option Int->Nat
 | none=>d
 | some v=>if v < 0 then (v+(n:Int)).toNat else min v.toNat n
theorem zkn (n d:Nat)(b:d<=n)(o:Option Int):sIx n d o<=n:=by
 cases o with
 | none=>exact b
 | some v =>
  show(if v < 0 then (v+(n:Int)).toNat else min v.toNat n)<=n
  by_cases a:v < 0
  .rw[if_pos a];omega
  .rw[if_neg a];exact Nat.min_le_right _ _
theorem zdS (v:Int)(n d:Nat):(if v < 0 then max (v+(n:Int)) 0 else min v (n:Int))=((sIx n d (some v):Nat):Int):=by
 show(if v < 0 then max (v+(n:Int)) 0 else min v (n:Int))=(((if v < 0 then (v+(n:Int)).toNat else min v.toNat n):Nat):Int)
 by_cases a:v < 0
 .simp only[if_pos a];omega
 .simp only[if_neg a];omega
theorem zbA (b a:Option Int)(n:Nat):Builtin.Slice.sliceAdjust b a 1 (n:Int)=(((sIx n 0 b:Nat):Int),((sIx n n a:Nat):Int)):=by
 have c:¬ ((1:Int) < 0):=by omega
 unfold Builtin.Slice.sliceAdjust
 simp only[c,if_false]
 refine Prod.ext ?_ ?_
 .cases b with
  | none=>rfl
  | some v=>exact zdS v n 0
 .cases a with
  | none=>rfl
  | some v=>exact zdS v n n
theorem zbP (i j:Nat):Builtin.Slice.slicePlaces (i:Int) (j:Int) 1=j - i:=by
 unfold Builtin.Slice.slicePlaces
 have a:(1:Int) > 0:=by omega
 simp only[a,if_true,Int.ediv_one]
 split <;> omega
theorem ZY {v:Value}{o:Option Int}{Q:Option Int->Shared->Prop}(p:IsPart v o)(h:Q o s):wpAny (model prog w) A (Builtin.Slice.slicePartIndex v) Q E s:=by
 cases p with
 | none=>exact slicePart_none h
 | int i t=>exact slicePart_int h
theorem wj {g:Addr}{e f:Value}{a c:Option Int}{n:Nat}{Q:Int × Int × Nat->Shared->Prop}(k:s.heap.IsSliceOf g e f .none)(pl:IsPart e a)(j:IsPart f c)
 (h:Q (((sIx n 0 a:Nat):Int),1,sIx n n c - sIx n 0 a) s):wpAny (model prog w) A (Builtin.Slice.sliceApplied (.ref g) (pure (n:Int))) Q E s:=by
 obtain⟨os,b,i,d⟩:=id k
 unfold Builtin.Slice.sliceApplied Builtin.Slice.sliceFields
 refine wpAny_bind (wpAny_bind (wpAny_field b d (x:=e) rfl (wpAny_bind (wpAny_field b d (x:=f) rfl (wpAny_bind (wpAny_field b d (x:=.none) rfl (wpAny_pure ?_)))))))
 refine wpAny_bind (slicePart_none ?_)
 show wpAny _ _ (if ((1:Int) == 0)=true then _ else _) _ _ s
 rw[if_neg (by decide)]
 refine wpAny_bind (ZY pl (wpAny_bind (ZY j (wpAny_bind (wpAny_pure ?_)))))
 show wpAny _ _ (match Builtin.Slice.sliceAdjust a c 1 (n:Int)with | (a,c)=>pure (a,(1:Int),Builtin.Slice.slicePlaces a c 1)) _ _ s
 rw[zbA a c n]
 show wpAny _ _ (pure (((sIx n 0 a:Nat):Int),(1:Int),Builtin.Slice.slicePlaces ((sIx n 0 a:Nat):Int) ((sIx n n c:Nat):Int) 1)) _ _ s
 rw[zbP]
 exact wpAny_pure h
theorem zfY (a:Array Value)(i k:Nat):((List.range k).filterMap λ(m:Nat)=>a[((i:Int)+(m:Int)*1).toNat]?).toArray=((a.toList.drop i).take k).toArray:=by
 have e:(λ(m:Nat)=>a[((i:Int)+(m:Int)*1).toNat]?)=λm=>a[i+m]?:=by
  funext m
  have:((i:Int)+(m:Int)*1).toNat=i+m:=by omega
  rw[this]
 rw[e]
 have:=pick_run a i k
 rw[List.filterMap_map]at this
 have b:((λx=>a[x]?) ∘ λx=>i+x)=λm=>a[i+m]?:=rfl
 rw[b]at this
 rw[this]
theorem getItem_tuple_cut {t i:Addr}{a:Array Value}{n l:Value}{c d:Option Int}{Q:Value->Shared->Prop}(e:IsTup s.heap t a)(o:s.heap.IsSliceOf i n l .none)(pl:IsPart n c)(u:IsPart l d)
 (hw:¬ (sIx a.size 0 c=0/\sIx a.size a.size d=a.size))
 (h:Q (.ref s.heap.objs.size) { s with heap:=s.heap.push { cls:=.type "tuple",data:=.seq ((a.toList.drop (sIx a.size 0 c)).take (sIx a.size a.size d - sIx a.size 0 c)).toArray } })
 (p:a.size<=sizeLine):wpAny (model prog w) A (getItem (.ref t) (.ref i)) Q E s:=by
 have b:sizeOk (.seq ((a.toList.drop (sIx a.size 0 c)).take (sIx a.size a.size d - sIx a.size 0 c)).toArray):=by
  show((a.toList.drop (sIx a.size 0 c)).take (sIx a.size a.size d - sIx a.size 0 c)).toArray.size<=sizeLine
  rw[List.size_toArray,List.length_take,List.length_drop,Array.length_toList]
  omega
 have v:sIx a.size a.size d<=a.size:=zkn _ _ (Nat.le_refl _) d
 obtain⟨os,j,k,r⟩:=id o
 have f:s.TypeIs (.ref i) "slice":=⟨os,j,k⟩
 unfold getItem
 try with_reducible refine wpAny_holding ?_
 first | refine wpAny_bind (wpAny_pure ?_) | skip
 refine wpAny_bind (wpAny_sequenceKey e.typeIs (by decide) ?_)
 refine wpAny_bind (wpAny_callSpecial?_slot (name:=Str.ofString "__getitem__") e.typeIs PyProof.Rows.slot_tuple_getitem
  (wpAny_call_entry PyProof.Rows.slot_tuple_getitem e.typeIs entry_tuple_getitem ?_ (args_tuple_getitem _ _)))
 show wpAny _ _ (Builtin.Tuple.tupleItemsOf (.ref t)>>=_) _ _ s
 refine wpAny_bind (tupleItemsOf_ e ?_)
 refine wpAny_bind (wpAny_typeOf f ?_)
 rw[if_pos (by decide)]
 refine wpAny_bind (wj o pl u ?_)
 have g:¬ ((((sIx a.size 0 c:Nat):Int) == 0&&(1:Int) == 1&&(sIx a.size a.size d - sIx a.size 0 c) == a.size)=true):=by
  intro q
  rw[Bool.and_eq_true,Bool.and_eq_true]at q
  have y:((sIx a.size 0 c:Nat):Int)=0:=eq_of_beq q.1.1
  have x:sIx a.size a.size d - sIx a.size 0 c=a.size:=eq_of_beq q.2
  exact hw ⟨by omega,by omega⟩
 show wpAny _ _ (if (((sIx a.size 0 c:Nat):Int) == 0&&(1:Int) == 1&&(sIx a.size a.size d - sIx a.size 0 c) == a.size)=true then _ else _) _ _ s
 rw[if_neg g,zfY]
 first
  | exact wpAny_bind (m:=Builtin.Tuple.tupleExact _) (wpAny_newObj_type (wpAny_pure ⟨_,rfl,wpAny_pure h⟩) b)
  | exact wpAny_bind (m:=Builtin.Tuple.tupleExact _) (wpAny_newObj_type (wpAny_bind (wpAny_pure (wpAny_pure ⟨_,rfl,wpAny_pure h⟩))) b)
  | exact wpAny_bind (wpAny_bind (m:=Builtin.Tuple.tupleExact _) (wpAny_newObj_type (wpAny_pure (wpAny_pure ⟨_,rfl,wpAny_pure h⟩)) b))
  | exact wpAny_bind (wpAny_bind (m:=Builtin.Tuple.tupleExact _) (wpAny_newObj_type (wpAny_pure ⟨_,rfl,wpAny_pure h⟩) b))
end
end HT
namespace L2
open PySem PySem.Spec PyProof.Rows
noncomputable abbrev TO:=St->Hp->(Option Int->Hp->Prop)->Prop
noncomputable def PO (X:Cx)(e:Option Expr)(t:TO):Prop :=
 ∀ (a:List (Addr × Obj)) (s:Shared) (σ:St) (H:Hp) (Q:Option Int->Hp->Prop),Inv X a σ H s->t σ H Q ->
  wpAny (model X.prog X.w) X.A (evalPart e X.env) (λu b=>∃ o H',Inv X a σ H' b/\IsPart u o/\Q o H') X.xe s
noncomputable def zg5:TO:=λ_ H Q=>Q none H
noncomputable def zmf (t:TE):TO:=fun σ H Q=>t σ H λx H1=>∃ i,x=.int i/\Q (some i) H1
theorem xV {ns:List Int}:∀ {a:List Value},zT (ns.map V.int) a->IntsAre a ns:=by
 induction ns with
 | nil=>intro a r;rw[List.map_nil]at r;cases r;exact .nil
 | cons n ns b =>
  intro a r
  rw[List.map_cons]at r
  cases r with
  | cons c d =>
   obtain⟨t,e⟩:=c
   subst e
   exact .cons n t (b d)
section
variable {X:Cx}{e:Expr}{te:TE}{lo hi:Option Expr}{tl th:TO}{pos p2:Pos}
theorem zhZ:PO X none zg5:=by
 intro a s σ H Q I h
 rw[evalPart_none]
 exact wpAny_pure ⟨none,H,I,.none,h⟩
theorem zhk (h:PE X e te):PO X (some e) (zmf te):=by
 intro a s σ H Q I hw
 rw[evalPart_some]
 refine thn (h a s σ H _ I hw) λu d hh9=>?_
 obtain⟨x,H1,I1,b,c⟩:=hh9
 obtain⟨i,rfl,q⟩:=c
 obtain⟨t,rfl⟩:=b
 exact⟨some i,H1,I1,.int i t,q⟩
noncomputable def SlR (X:Cx)(r:V->Option Int->Option Int->Hp->VK->Prop):Prop :=
 ∀ (a:List (Addr × Obj)) (s:Shared) (σ:St) (H:Hp) (x:V) (v d c:Value) (lo hi:Option Int) (b:Addr) (Q:VK),Inv X a σ H s->yl x v->s.heap.IsSliceOf b d c .none->IsPart d lo->IsPart c hi->r x lo hi H Q ->
  ∃ T id,typeLookup (.type T) "__getitem__"=pure (some (.builtin id))/\s.TypeIs v T/\wpAny (model X.prog X.w) X.A (getItem v (.ref b)) (EP X a σ Q) X.xe s
theorem SlR.or {r d:V->Option Int->Option Int->Hp->VK->Prop}(h:SlR X r)(j:SlR X d):SlR X (λx lo hi H Q=>r x lo hi H Q\/d x lo hi H Q):=by
 intro a s σ H x v c b lo hi e Q I f i pl g q
 rcases q with q | q
 .exact h a s σ H x v c b lo hi e Q I f i pl g q
 .exact j a s σ H x v c b lo hi e Q I f i pl g q
noncomputable def tSl (r:V->Option Int->Option Int->Hp->VK->Prop)(te:TE)(tl th:TO):TE:=fun σ H Q=>te σ H λx H1=>tl σ H1 λl H2=>th σ H2 λu H3=>r x l u H3 Q
theorem zfu {r:V->Option Int->Option Int->Hp->VK->Prop}(i:SlR X r)(B:PE X e te)(z:PO X lo tl)(t:PO X hi th):PE X (.Subscript e (.Slice lo hi none p2) pos) (tSl r te tl th):=by
 intro a s σ H Q I h
 refine Subscript_ (thn (B a s σ H _ I h) λv j hh9=>?_)
 obtain⟨x,H1,I1,o,k⟩:=hh9
 refine wpAny_Slice (thn (z a j σ H1 _ I1 k) λd g ⟨l,H2,I2,pl,w⟩=>thn (t a g σ H2 _ I2 w) λf c hh9=>?_)
 obtain⟨u,H3,I3,A,p⟩:=hh9
 rw[evalPart_none]
 refine wpAny_pure ?_
 have I4:Inv X a σ H3 { c with heap:=c.heap.push { cls:=.type "slice",data:=.fields #[d,f,.none] } }:=I3.kept (t':=c.toks) λb C q=>Heap.get?_push_of_some _ q
 obtain⟨T,id,m,n,y⟩:=i a { c with heap:=c.heap.push { cls:=.type "slice",data:=.fields #[d,f,.none] } } σ H3 x v d f l u c.heap.objs.size Q I4 o (Heap.IsSliceOf.new ..) pl A p
 show wpAny (model X.prog X.w) X.A (subscriptTail e (.Slice lo hi none p2) v (.ref c.heap.objs.size)) (EP X a σ Q) X.xe { c with heap:=c.heap.push { cls:=.type "slice",data:=.fields #[d,f,.none] } }
 exact tail_any (ops:=[.ref c.heap.objs.size,v]) n m y (by with_unfolding_all rfl)
noncomputable def zan (a:List V)(lo hi:Option Int):List V:=(a.drop (HT.sIx a.length 0 lo)).take (HT.sIx a.length a.length hi - HT.sIx a.length 0 lo)
theorem Zb (a:List V)(lo hi:Option Int):(zan a lo hi).length<=a.length:=by
 unfold zan
 rw[List.length_take,List.length_drop]
 omega
noncomputable def rSlT (K:W.Frag):V->Option Int->Option Int->Hp->VK->Prop:=λx lo hi H Q=>∃ a b,x=.ref a/\SqT K H a b /\
 ¬ (HT.sIx b.length 0 lo=0/\HT.sIx b.length b.length hi=b.length)/\∀ p,H p=none->Q (.ref p) (upd H p (.tup (zan b lo hi)))
theorem zkd:SlR X (rSlT X.K):=by
 intro i s σ H x v p n lo hi u Q I k m pl l h
 obtain⟨a,d,rfl,j,hw,q⟩:=h
 cases k
 obtain⟨e,r,f,g⟩:=I.tuple j
 have c:e.toArray.size=d.length:=by rw[List.size_toArray];exact r.length.symm
 refine⟨"tuple",_,PyProof.Rows.slot_tuple_getitem.lookup,f.typeIs,?_⟩
 refine HT.getItem_tuple_cut f m pl l (by rw[c];exact hw) ?_ (by rw[c];exact g)
 rw[c]
 refine⟨.ref s.heap.objs.size,_,I.laid (t':=s.toks) (o:=.tup (zan d lo hi)) (λb t q=>Heap.get?_push_of_some _ q) (Nat.le_refl _) ?_,rfl,q _ (I.hok.fresh (Nat.le_refl _))⟩
 exact⟨Nat.le_trans (Zb d lo hi) g,_,(r.drop (HT.sIx d.length 0 lo)).take (HT.sIx d.length d.length hi - HT.sIx d.length 0 lo),IsTup.new _ _⟩
noncomputable def zlX (K:W.Frag):R2:=λx y H Q=>∃ a b d c,x=.ref a/\y=.ref b/\SqT K H a d/\SqT K H b c/\d≠[]/\d.length+c.length<=sizeLine /\
 (c=[]->Q (.ref a) H)/\(c≠[]->∀ p,H p=none->Q (.ref p) (upd H p (.tup (d++c))))
theorem zT.nil_iff {a:List V}{b:List Value}(r:zT a b):b=[]↔a=[]:=by
 cases r with
 | nil=>simp
 | cons _ _=>simp
theorem ziF:OpR X (binaryOp .Add) (zlX X.K):=by
 intro g s σ H x y v u Q I n i h
 obtain⟨a,b,p,B,rfl,rfl,l,r,j,f,m,k⟩:=h
 cases n
 cases i
 obtain⟨t,d,A,_⟩:=I.tuple l
 obtain⟨e,c,p2,_⟩:=I.tuple r
 refine HT.cat_tup A p2 (λz=>j (d.nil_iff.mp z)) (λz=>⟨.ref a,H,I,rfl,m (c.nil_iff.mp z)⟩) (λz=>?_) (by rw[<-d.length,<- c.length];exact f)
 refine⟨.ref s.heap.objs.size,_,I.laid (t':=s.toks) (o:=.tup (p++B)) (λb C q=>Heap.get?_push_of_some _ q) (Nat.le_refl _) ?_,rfl,k (λw=>z (c.nil_iff.mpr w)) _ (I.hok.fresh (Nat.le_refl _))⟩
 exact⟨by rw[List.length_append];exact f,_,d.append c,IsTup.new _ _⟩
end
noncomputable def ixN (n:Nat)(i:Int):Option Nat:=if 0<=i then (if i < n then some i.toNat else none)else if -(n:Int)<=i then some (i+n).toNat else none
noncomputable def atI {α:Type}(a:List α)(i:Int):Option α:=(ixN a.length i).bind λj=>a[j]?
theorem zhL {n:Nat}{i:Int}{j:Nat}(h:ixN n i=some j):seqIndex? i n=some j/\j < n/\-(n:Int)<=i/\i < n:=by
 unfold ixN at h
 by_cases h0:0<=i
 .rw[if_pos h0]at h
  by_cases a:i < n
  .rw[if_pos a]at h
   have e:i.toNat=j:=Option.some.inj h
   exact⟨by rw[seqIndex_of h0 a,e],by omega,by omega,a⟩
  .rw[if_neg a]at h;cases h
 .rw[if_neg h0]at h
  by_cases a:-(n:Int)<=i
  .rw[if_pos a]at h
   have e:(i+n).toNat=j:=Option.some.inj h
   exact⟨by rw[seqIndex_neg (by omega) a,e],by omega,a,by omega⟩
  .rw[if_neg a]at h;cases h
theorem VA {α:Type}{a:List α}{i:Int}{v:α}(h:atI a i=some v):∃ j,seqIndex? i a.length=some j/\a[j]?=some v/\j < a.length/\-(a.length:Int)<=i/\i < a.length:=by
 unfold atI at h
 cases e:ixN a.length i with
 | none=>rw[e]at h;cases h
 | some j =>
  rw[e]at h
  obtain⟨f,c,b,d⟩:=zhL e
  exact⟨j,f,h,c,b,d⟩
theorem zdQ {α:Type}{a:List α}{j:Nat}{v:α}(h:a[j]?=some v):atI a (j:Int)=some v:=by
 have b:j < a.length:=(List.getElem?_eq_some_iff.mp h).1
 have e:ixN a.length (j:Int)=some j:=by
  unfold ixN
  rw[if_pos (by omega),if_pos (by omega)];simp
 unfold atI;rw[e];exact h
noncomputable def V8 (b:Expr):Prop:=∀ o i,subscripted b false o i=operate [o,i] (getItem o i)
noncomputable def IxR (X:Cx)(r:R2):Prop :=
 ∀ (c a:Expr) (b:List (Addr × Obj)) (s:Shared) (σ:St) (H:Hp) (x y:V) (v u:Value) (Q:VK),Inv X b σ H s->yl x v->yl y u->r x y H Q ->
  subscripted a false v u=operate [v,u] (getItem v u)->wpAny (model X.prog X.w) X.A (subscriptTail c a v u) (EP X b σ Q) X.xe s
noncomputable def MtR (X:Cx)(id:String)(r:V->List V->Hp->VK->Prop):Prop :=
 ∀ (a:List (Addr × Obj)) (s:Shared) (σ:St) (H:Hp) (x:V) (b:List V) (v:Value) (c:List Value) (Q:VK),Inv X a σ H s->yl x v->zT b c->r x b H Q ->
  wpAny (model X.prog X.w) X.A (call (.builtin id) (v::c)) (EP X a σ Q) X.xe s
section
variable {X:Cx}{a b:Expr}{ta tb:TE}{pos:Pos}
theorem IxR.or {r e:R2}(h:IxR X r)(i:IxR X e):IxR X (λx y H Q=>r x y H Q\/e x y H Q):=by
 intro a b c s σ H x y v u Q I f d q g
 rcases q with q | q
 .exact h a b c s σ H x y v u Q I f d q g
 .exact i a b c s σ H x y v u Q I f d q g
theorem zjv {r:R2}(f:IxR X r)(g:PE X a ta)(j:PE X b tb)(k:V8 b):PE X (.Subscript a b pos) (tOp r ta tb):=by
 intro c s σ H Q I h
 exact Subscript_ (zlT g j I h λv u e x y H2 I2 i d q=>f a b c e σ H2 x y v u Q I2 i d q (k _ _))
noncomputable def rIxL (K:W.Frag):R2:=λx y H Q=>∃ p a i v,x=.ref p/\y=.int i/\SqL K H p a/\atI a i=some v/\Q v H
noncomputable def rIxT (K:W.Frag):R2:=λx y H Q=>∃ p a i v,x=.ref p/\y=.int i/\SqT K H p a/\atI a i=some v/\Q v H
noncomputable def zl8:R2:=λx y H Q=>∃ z i c,x=.str z/\y=.int i/\z.length<=sizeLine/\atI z.cps.toList i=some c/\Q (.str ⟨#[c]⟩) H
theorem zir:IxR X (rIxL X.K):=by
 intro c g a s σ H x y v u Q I D C h l
 obtain⟨p,J,i,z,rfl,rfl,m,F,q⟩:=h
 cases D
 obtain⟨t,rfl⟩:=C
 obtain⟨f,r,pl,G⟩:=I.list m
 obtain⟨j,b,A,K,B,n⟩:=VA F
 obtain⟨w,k,d⟩:=r.get A
 have E:=r.length
 have L:=ZW
 have fin:EP X a σ Q w s:=⟨z,H,I,d,q⟩
 by_cases h0:0<=i
 .have e:i.toNat=j:=by
   rw[seqIndex_of h0 n]at b
   exact Option.some.inj b
  exact item_listR pl.isList h0 (by omega) (by rw[e];simpa using k) fin l
 .have e:(i+(f.toArray.size:Int)).toNat=j:=by
   rw[seqIndex_neg (by omega) B]at b
   rw[List.size_toArray,<- E]
   exact Option.some.inj b
  exact subscriptTail_builtinR (x:=w) pl.isList.typeIs slot_list_getitem.lookup
   (wpAny_getItem_list_neg (Q:=λr o=>r=w/\EP X a σ Q r o) pl.isList (by omega) (by rw[List.size_toArray] <;> omega) (by omega) (by rw[e];simpa using k) ⟨rfl,fin⟩) l
theorem zkO:IxR X (rIxT X.K):=by
 intro b d a s σ H x y v u Q I n l h C
 obtain⟨p,F,i,z,rfl,rfl,e,B,q⟩:=h
 cases n
 obtain⟨t,rfl⟩:=l
 obtain⟨k,r,pl,D⟩:=I.tuple e
 obtain⟨j,m,g,J,G,E⟩:=VA B
 obtain⟨w,o,c⟩:=r.get g
 have A:=r.length
 have K:=ZW
 have fin:EP X a σ Q w s:=⟨z,H,I,c,q⟩
 exact subscriptTail_builtinR (x:=w) pl.typeIs slot_tuple_getitem.lookup
  (getItem_tuple (j:=j) (Q:=λr f=>r=w/\EP X a σ Q r f) pl (by omega) (by omega) (by rw[List.size_toArray,<- A];exact m) (by simpa using o) ⟨rfl,fin⟩) C
theorem zgN:IxR X zl8:=by
 intro a b d s σ H x y v u Q I l f h w
 obtain⟨z,i,c,rfl,rfl,A,p,q⟩:=h
 obtain⟨t,rfl⟩:=l
 obtain⟨C,rfl⟩:=f
 obtain⟨j,e,n,B,o,k⟩:=VA p
 have m:z.cps.toList.length=z.length:=by simp[Str.length]
 rw[m]at e o k
 have D:=ZW
 exact tail_any (typeIs_str s z t) slot_str_getitem.lookup (getItem_str (c:=c) (by
  have g:decide (i < -(2 ^ 63:Int))=false:=decide_eq_false (by omega)
  have r:decide (i >= 2 ^ 63)=false:=decide_eq_false (by omega)
  rw[g,r,Bool.or_false]) (by rw[e];simpa using n) ⟨.str ⟨#[c]⟩,H,I.tok _,⟨_,rfl⟩,q⟩) w
noncomputable def rIx (K:W.Frag):R2:=λx y H Q=>rIxL K x y H Q\/rIxT K x y H Q\/zl8 x y H Q
theorem zjF:IxR X (rIx X.K):=zir.or (zkO.or zgN)
theorem Wu (b a:Option Int)(n:Nat):(sliceBounds b a none n).1=((HT.sIx n 0 b:Nat):Int)/\(sliceBounds b a none n).2.1=((HT.sIx n n a:Nat):Int)/\(sliceBounds b a none n).2.2=1:=by
 refine⟨?_,?_,rfl⟩
 .cases b with
  | none=>simp[sliceBounds,HT.sIx]
  | some i =>
   simp only[sliceBounds,HT.sIx,Option.getD_none,show(1:Int) > 0 by decide,if_true]
   by_cases h:i < 0
   .simp only[h,if_true] <;> omega
   .simp only[h,if_false] <;> omega
 .cases a with
  | none=>simp[sliceBounds,HT.sIx]
  | some i =>
   simp only[sliceBounds,HT.sIx,Option.getD_none,show(1:Int) > 0 by decide,if_true]
   by_cases h:i < 0
   .simp only[h,if_true] <;> omega
   .simp only[h,if_false] <;> omega
theorem XQ (a:List Value)(b c:Option Int):slicePick a.toArray b c none=((a.drop (HT.sIx a.length 0 b)).take (HT.sIx a.length a.length c - HT.sIx a.length 0 b)).toArray:=by
 obtain⟨d,f,e⟩:=Wu b c a.toArray.size
 unfold slicePick
 rw[d,f,e]
 simp only[sliceRange_one,pick_run,List.size_toArray] <;> rfl
noncomputable def rSlL (K:W.Frag):V->Option Int->Option Int->Hp->VK->Prop:=λx d c H Q=>∃ a b,x=.ref a/\SqL K H a b/\∀ p,H p=none->Q (.ref p) (upd H p (.lst (zan b d c)))
theorem zix:SlR X (rSlL X.K):=by
 intro i s σ H x v u t e f y Q I l p pl m h
 obtain⟨a,c,rfl,k,q⟩:=h
 cases l
 obtain⟨n,r,g,j⟩:=I.list k
 have d:=r.length
 refine⟨"list",_,slot_list_getitem.lookup,g.isList.typeIs,?_⟩
 refine wpAny_getItem_list_slice g.isList p pl m .none (by simp) ?_ (by rw[List.size_toArray] <;> omega)
 rw[XQ,<- d]
 refine⟨.ref s.heap.objs.size,_,I.laid (t':=s.toks) (o:=.lst (zan c e f)) (λb w q=>Heap.get?_push_of_some _ q) (Nat.le_refl _) ?_,rfl,q _ (I.hok.fresh (Nat.le_refl _))⟩
 exact⟨Nat.le_trans (Zb c e f) j,_,0,(r.drop (HT.sIx c.length 0 e)).take (HT.sIx c.length c.length f - HT.sIx c.length 0 e),Heap.get?_push_size _ rfl⟩
noncomputable def ziB:V->Bool
 | .non=>true
 | .bl _=>true
 | .int _=>true
 | .str _=>true
 | _=>false
noncomputable def eqV:V->V->Bool
 | .non,.non=>true
 | .bl a,.bl b=>a == b
 | .bl a,.int b=>(if a then 1 else 0) == b
 | .int a,.bl b=>a == (if b then 1 else 0)
 | .int a,.int b=>a == b
 | .str a,.str b=>a == b
 | _,_=>false
theorem zgD {A:Around}{s:Shared}{y x:V}{u v:Value}(e:yl y u)(c:yl x v)(g:ziB y=true)(f:ziB x=true):SeqAt.EqAt A s u v (eqV y x):=by
 cases y with
 | non =>
  cases e
  cases x with
  | non=>cases c;exact SeqAt.EqAt.same _
  | bl b=>cases c;exact SeqAt.EqAt.none_bool b
  | int b=>obtain⟨t,rfl⟩:=c;exact SeqAt.EqAt.none_int b t
  | str b=>obtain⟨t,rfl⟩:=c;exact SeqAt.EqAt.none_str b t
  | _=>exact absurd (show false=true from f) Bool.false_ne_true
 | bl a =>
  cases e
  cases x with
  | non=>cases c;exact SeqAt.EqAt.bool_none a
  | bl b=>cases c;exact SeqAt.EqAt.bool_bool a b
  | int b=>obtain⟨t,rfl⟩:=c;exact SeqAt.EqAt.bool_int a b t
  | str b=>obtain⟨t,rfl⟩:=c;exact SeqAt.EqAt.bool_str a b t
  | _=>exact absurd (show false=true from f) Bool.false_ne_true
 | int a =>
  obtain⟨d,rfl⟩:=e
  cases x with
  | non=>cases c;exact SeqAt.EqAt.int_none a d
  | bl b=>cases c;exact SeqAt.EqAt.int_bool a d b
  | int b=>obtain⟨t,rfl⟩:=c;exact SeqAt.EqAt.int_int a d b t
  | str b=>obtain⟨t,rfl⟩:=c;exact SeqAt.EqAt.int_str a d b t
  | _=>exact absurd (show false=true from f) Bool.false_ne_true
 | str a =>
  obtain⟨d,rfl⟩:=e
  cases x with
  | non=>cases c;exact SeqAt.EqAt.str_none a d
  | bl b=>cases c;exact SeqAt.EqAt.str_bool a d b
  | int b=>obtain⟨t,rfl⟩:=c;exact SeqAt.EqAt.str_int a d b t
  | str b=>obtain⟨t,rfl⟩:=c;exact SeqAt.EqAt.str_str a d b t
  | _=>exact absurd (show false=true from f) Bool.false_ne_true
 | _=>exact absurd (show false=true from g) Bool.false_ne_true
theorem xJ:wb X (.builtin "len") (λg H Q=>∃ p b,g=[.ref p]/\(SqL X.K H p b\/SqT X.K H p b)/\Q (.int b.length) H):=by
 intro f s σ H g l Q I r h
 obtain⟨p,b,rfl,c,q⟩:=h
 obtain⟨u,rfl,j⟩:=YS r
 cases j
 have k:=ZW
 rcases c with c | c
 .obtain⟨e,d,pl,i⟩:=I.list c
  have a:=d.length
  exact Calls.call_len_list pl.isList (by simp only[List.size_toArray] <;> omega) ⟨.int b.length,H,I.tok _,⟨s.toks+1,by rw[List.size_toArray,a]⟩,q⟩
 .obtain⟨e,d,pl,i⟩:=I.tuple c
  have a:=d.length
  exact len_tuple pl (by simp only[List.size_toArray] <;> omega) ⟨.int b.length,H,I.tok _,⟨s.toks+1,by rw[List.size_toArray,a]⟩,q⟩
theorem v6:wb X (.builtin "len") (λa H Q=>∃ z,a=[.str z]/\z.length<=sizeLine/\Q (.int z.length) H):=by
 intro b s σ H a e Q I r h
 obtain⟨z,rfl,c,q⟩:=h
 obtain⟨u,rfl,t,rfl⟩:=YS r
 have d:=ZW
 exact len_str (by omega) ⟨.int z.length,H,I.tok _,⟨_,rfl⟩,q⟩
theorem Ws:wb X (.type "list") (λz H Q=>∃ p f,z=[.ref p]/\(SqL X.K H p f\/SqT X.K H p f)/\∀ l,H l=none->Q (.ref l) (upd H l (.lst f))):=by
 intro j s σ H z B Q I r h
 obtain⟨p,f,rfl,k,q⟩:=h
 obtain⟨u,rfl,A⟩:=YS r
 cases A
 have fin:∀ (a:List Value),zT f a->f.length<=sizeLine->∀ (c:Heap) (d:Nat),(∀ b y,s.heap.get? b=some y->c.get? b=some y) ->
  c.get? s.heap.objs.size=some { cls:=.type "list",dict:=none,data:=.seq a.toArray d,slots:=#[] }->EP X j σ Q (.ref s.heap.objs.size) { s with heap:=c }:=λa g i c d m e =>
  ⟨.ref s.heap.objs.size,_,I.laid (t':=s.toks) m (Nat.le_refl _) (show yb X.prog X.w _ c _ (.lst f) from⟨i,a,d,g,e⟩),rfl,q _ (I.hok.fresh (Nat.le_refl _))⟩
 rcases k with k | k
 .obtain⟨a,g,pl,i⟩:=I.list k
  have t:=g.length
  obtain⟨o,v,w,n,x⟩:=pl.isList
  exact call_list_seq p (.inl rfl) v w x (λc d m e=>fin a g i c d m e) (by simp only[List.size_toArray] <;> omega)
 .obtain⟨a,g,pl,i⟩:=I.tuple k
  have t:=g.length
  obtain⟨o,v,w,n,x⟩:=pl
  exact call_list_seq p (.inr rfl) v w x (λc d m e=>fin a g i c d m e) (by simp only[List.size_toArray] <;> omega)
theorem XM:wb X (.type "tuple") (λk H Q=>∃ p d,k=[.ref p]/\((SqL X.K H p d/\∀ l,H l=none->Q (.ref l) (upd H l (.tup d)))\/(SqT X.K H p d/\Q (.ref p) H))):=by
 intro a s σ H k v Q I r h
 obtain⟨p,d,rfl,h⟩:=h
 obtain⟨u,rfl,n⟩:=YS r
 cases n
 rcases h with ⟨g,q⟩ | ⟨g,q⟩
 .obtain⟨c,i,pl,j⟩:=I.list g
  have m:=i.length
  refine call_tuple_list pl.isList (λf t=>?_) (by simp only[List.size_toArray] <;> omega)
  have I1:Inv X a σ H { s with heap:=f }:=I.kept (t':=s.toks) t
  have I2:Inv X a σ (upd H f.objs.size (.tup d)) { s with heap:=f.push { cls:=.type "tuple",data:=.seq c.toArray } } :=
   I1.laid (t':=s.toks) (λb o e=>Heap.get?_push_of_some _ e) (Nat.le_refl _) (show yb X.prog X.w _ _ _ (.tup d) from⟨j,c,i,IsTup.new _ _⟩)
  exact⟨.ref f.objs.size,_,I2,rfl,q _ (I1.hok.fresh (Nat.le_refl _))⟩
 .obtain⟨c,i,pl,j⟩:=I.tuple g
  exact call_tuple_same pl ⟨.ref p,H,I,rfl,q⟩
noncomputable def tyV (K:W.Frag)(T:String)(x:V)(H:Hp):Prop:=match x with
 | .str _=>T="str"
 | .int _=>T="int"
 | .ref p=>(T="list"/\∃ b,SqL K H p b)\/(T="tuple"/\∃ o,K.lookup p=some o/\o.cls=.type "tuple"/\o.dict=none) \/
  (T="dict"/\((∃ a,H p=some (.dK a))\/∃ a,H p=some (.dT a)))\/(T="set"/\∃ S n,H p=some (.set S n))
 | _=>False
theorem zg3 {d:List (Addr × Obj)}{σ:St}{H:Hp}{s:Shared}{T:String}{x:V}{v:Value}(I:Inv X d σ H s)(r:yl x v)(ty:tyV X.K T x H) :
 s.TypeIs v T/\∀ a,v=.ref a->∃ j,s.heap.get? a=some j/\j.dict=none:=by
 cases x with
 | str z =>
  obtain⟨t,rfl⟩:=r
  cases (show T="str" from ty)
  exact⟨typeIs_str s z t,λ_ e=>nomatch e⟩
 | int i =>
  obtain⟨t,rfl⟩:=r
  cases (show T="int" from ty)
  exact⟨typeIs_int s i t,λ_ e=>nomatch e⟩
 | ref p =>
  cases r
  rcases ty with ⟨rfl,q,k⟩ | ⟨rfl,o,b,l,f⟩ | ⟨rfl,b⟩ | ⟨rfl,S,n,b⟩
  .obtain⟨m,_,pl,_⟩:=I.list k
   refine⟨pl.isList.typeIs,λa e=>?_⟩
   cases e
   obtain⟨o,n,e,c,f,_⟩:=pl
   exact⟨o,e,f⟩
  .refine⟨⟨o,I.kIn p o b,l⟩,λa e=>?_⟩
   cases e
   exact⟨o,I.kIn _ o b,f⟩
  .have z:∃ o,s.heap.get? p=some o/\o.ExactDict:=by
    rcases b with ⟨g,b⟩ | ⟨g,b⟩
    .obtain⟨_,_,_,_,o,_,_,e,ex,_⟩:=I.hok p _ b
     exact⟨o,e,ex⟩
    .obtain⟨_,_,_,_,o,_,_,e,ex,_⟩:=I.hok p _ b
     exact⟨o,e,ex⟩
   obtain⟨o,e,ex⟩:=z
   refine⟨⟨o,e,ex.1⟩,λa h=>?_⟩
   cases h
   exact⟨o,e,ex.2.1⟩
  .obtain⟨o,_,_,_,e,ex,_⟩:=I.hok p _ b
   refine⟨⟨o,e,ex.1⟩,λa h=>?_⟩
   cases h
   exact⟨o,e,ex.2.1⟩
 | _=>exact False.elim ty
noncomputable def zmh (K:W.Frag)(T:String)(r:V->List V->Hp->VK->Prop)(a:TE):TE:=fun σ H Q=>a σ H λx H1=>tyV K T x H1/\r x [] H1 Q
noncomputable def tBM (K:W.Frag)(T:String)(r:V->List V->Hp->VK->Prop)(a:TE)(t:TA):TE:=fun σ H Q=>a σ H λx H1=>tyV K T x H1/\t σ H1 λb H2=>r x b H2 Q
variable {o e:Expr}{es:List Expr}{to:TE}{t:TA}{name:Str}{apos cpos:Pos}{T id:String}{r:V->List V->Hp->VK->Prop}
theorem zeb (k:PlainAttrs T) (d:Slot T name id) (e:typeOf (.builtin id)=pure (.type "method_descriptor")) (n:MtR X id r) (j:PE X o to)
 (c:attributeBase o name X.env (eval o X.env)=eval o X.env:=by rfl) (b:(apos.endLine == cpos.line)=true:=by rfl):PE X (.Call (.Attribute o name apos) [] [] cpos) (zmh X.K T r to):=by
 intro a s σ H Q I h
 refine wpAny_Call_method0_late c b (thn (j a s σ H _ I h) λv g hh9=>?_)
 obtain⟨x,H1,I1,f,ty,l⟩:=hh9
 obtain⟨i,m⟩:=zg3 I1 f ty
 exact⟨T,id,k,d,e,i,m,Calls.callWith_builtin rfl (PySem.evalArgs_none (n a g σ H1 x [] v [] Q I1 f .nil l))⟩
theorem W2 (z:PlainAttrs T) (g:Slot T name id) (i:typeOf (.builtin id)=pure (.type "method_descriptor")) (D:MtR X id r) (q:PE X o to) (y:PA X (e::es) t)
 (d:attributeBase o name X.env (eval o X.env)=eval o X.env:=by rfl)
 (f:((backTo cpos (starEach (e::es) X.env)).all (λx=>!x.1)&&(backToKw cpos (keywordEach [] X.env)).all (λx=>x.1.isSome)
  && decide ((e::es).length+([]:List Keyword).length+(if ([]:List Keyword).isEmpty then 0 else 1) < 30))=true:=by rfl)
 (c:(apos.endLine == cpos.line)=true:=by rfl) (l:starEach (e::es) X.env=(false,eval e X.env)::starEach es X.env:=by rfl) (b:(backTo cpos (starEach es X.env)).any (·.1)=false:=by rfl) :
 PE X (.Call (.Attribute o name apos) (e::es) [] cpos) (tBM X.K T r to t):=by
 intro a s σ H Q I h
 refine wpAny_Call_method_late d f c rfl (thn (q a s σ H _ I h) λv n hh9=>?_)
 obtain⟨x,H1,I1,j,ty,A⟩:=hh9
 obtain⟨p,C⟩:=zg3 I1 j ty
 refine⟨T,id,z,g,i,p,C,?_⟩
 have k:=y cpos a n σ H1 _ I1 A
 rw[l]at k ⊢
 refine Calls.callWith_builtin (by show(false||(backTo cpos (starEach es X.env)).any (·.1))=false;rw[b] <;> rfl) (Calls.evalArgs_plain ?_)
 exact thn k λE m ⟨u,H2,I2,B,w⟩=>D a m σ H2 x u v E Q I2 j B w
/- xs.append(e),list.index on a module's tuple .. are MtR facts of 06m -/
end
noncomputable def MtM (X:Cx)(id:String)(r:V->List V->Hp->VK->Prop):Prop :=
 ∀ (a:List (Addr × Obj)) (s:Shared) (σ:St) (H:Hp) (x:V) (b:List V) (v:Value) (c:List Value) (Q:VK),Inv X a σ H s->yl x v->zT b c->r x b H Q ->
  wpAny (model X.prog X.w) X.A (call (.builtin id) (v::c)) (EP X a σ Q) X.xe s
theorem zT.one:∀ {x:V} {a:List Value},zT [x] a->∃ u,a=[u]/\yl x u:=by
 intro x a h
 cases h with | cons r t=>cases t;exact⟨_,rfl,r⟩
theorem zT.two:∀ {x y:V} {a:List Value},zT [x,y] a->∃ u v,a=[u,v]/\yl x u/\yl y v:=by
 intro x y a h
 cases h with | cons r t=>cases t with | cons q t=>cases t;exact⟨_,_,rfl,r,q⟩
theorem zT.zero:∀ {a:List Value},zT [] a->a=[]
 | _,.nil=>rfl
theorem zT.rep {a:List V}{b:List Value}(h:zT a b):∀ k:Nat,zT (List.replicate k a).flatten (List.replicate k b).flatten
 | 0=>.nil
 | k+1=>by
  rw[List.replicate_succ,List.replicate_succ,List.flatten_cons,List.flatten_cons]
  exact zT.append h (zT.rep h k)
theorem Zx (a:List Value):∀ (k:Nat) (b:List Value),
 List.foldl (λc f=>c++f) b.toArray (List.replicate k a.toArray)=(b++(List.replicate k a).flatten).toArray
 | 0,b=>by simp
 | k+1,b=>by
  have e:b.toArray++a.toArray=(b++a).toArray:=by simp
  have d:(b++a)++(List.replicate k a).flatten=b++(List.replicate (k+1) a).flatten:=by
   rw[List.replicate_succ,List.flatten_cons,List.append_assoc]
  rw[<-d,<- Zx a k (b++a),<- e,List.replicate_succ,List.foldl_cons]
section
variable {X:Cx}{pins:List (Addr × Obj)}{σ:St}{H:Hp}{s:Shared}{l b:Addr}{xs ys zs:List V}
theorem Inv.lset {a its':List Value}{n:Nat}{f:Array Value->Array Value}{h:Nat}(I:Inv X pins σ H s)(j:H l=some (.lst xs))
 (e:s.heap.get? l=some { cls:=.type "list",data:=.seq a.toArray n }) (g:f a.toArray=its'.toArray) (d:zT ys its') (c:ys.length<=sizeLine) :
 Inv X pins σ (upd H l (.lst ys)) { s with heap:=s.heap.update l (Obj.mapSeq f),toks:=h }:=by
 have q:=PySem.IsL.update e f
 rw[g]at q
 refine I.write (x:=l) (e:=l) (by rw[j];exact trivial) (.inl rfl) (λk u i b=>(Heap.get?_update_other s.heap (Obj.mapSeq f) (Ne.symm i)).trans b) ⟨_,q⟩ ?_
 exact⟨c,its',_,d,q⟩
theorem Inv.lnew {its:List Value}{t':Nat}(I:Inv X pins σ H s)(a:zT ys its)(b:ys.length<=sizeLine) :
 Inv X pins σ (upd H s.heap.objs.size (.lst ys)) { s with heap:=s.heap.push { cls:=.type "list",data:=.seq its.toArray },toks:=t' } :=
 I.laid (λ_ _ q=>Heap.get?_push_of_some _ q) (Nat.le_refl _) ⟨b,its,0,a,Heap.get?_push_size _ rfl⟩
theorem Inv.fresh (I:Inv X pins σ H s):H s.heap.objs.size=none:=I.hok.fresh (Nat.le_refl _)
theorem Inv.lstM (I:Inv X pins σ H s) (b:H l=some (.lst xs)):xs.length<=sizeLine/\∃ (a:List Value) (n:Nat),zT xs a/\xs.length=a.length/\s.heap.get? l=some { cls:=.type "list",data:=.seq a.toArray n }:=by
 obtain⟨z,a,n,r,e⟩:=I.hok l _ b
 exact⟨z,a,n,r,r.length,e⟩
theorem zaK {n:Nat}(h:n<=sizeLine):Builtin.List.listTooLong n=false:=by
 unfold Builtin.List.listTooLong
 exact decide_eq_false (by omega)
end
section
variable {X:Cx}
noncomputable def zaf:V->List V->Hp->VK->Prop:=λx b H Q=>∃ l a y,x=.ref l/\b=[y]/\H l=some (.lst a)/\a.length < sizeLine/\Q .non (upd H l (.lst (a++[y])))
theorem Wk:MtM X "list.append" zaf:=by
 intro b s σ H x j v o Q I g d h
 obtain⟨l,k,y,rfl,rfl,c,i,q⟩:=h
 cases g
 obtain⟨u,rfl,f⟩:=d.one
 obtain⟨z,a,n,r,m,e⟩:=I.lstM c
 refine call_meets F.slot_list_append ⟨_,e,rfl⟩ F.entry_list_append (F.args_list_append_2 _ _) (PySem.list_append l a.toArray n u (by rw[List.size_toArray];omega)) ⟨e,?_⟩
 refine⟨.non,_,I.lset (its':=a++[u]) c e (by simp) (r.append (.cons f .nil)) ?_,rfl,q⟩
 rw[List.length_append,List.length_singleton]
 omega
noncomputable def zhW:V->List V->Hp->VK->Prop:=λx c H Q=>∃ l b a zs,x=.ref l/\c=[.ref b]/\H l=some (.lst a)/\H b=some (.lst zs)/\a.length+zs.length<=sizeLine/\Q .non (upd H l (.lst (a++zs)))
theorem zkA:MtM X "list.extend" zhW:=by
 intro g s σ H x B v G Q I t j h
 obtain⟨l,b,C,zs,rfl,rfl,i,k,A,q⟩:=h
 cases t
 obtain⟨u,rfl,p⟩:=j.one
 cases p
 obtain⟨z,c,n,r,E,e⟩:=I.lstM i
 obtain⟨D,a,w,y,m,o⟩:=I.lstM k
 have f:c.toArray.size+a.toArray.size<=sizeLine:=by rw[List.size_toArray,List.size_toArray];omega
 have d:¬ (!c.toArray.isEmpty&&Builtin.List.listTooLong (c.toArray.size+a.toArray.size))=true:=by
  rw[zaK f,Bool.and_false]
  exact Bool.false_ne_true
 refine call_meets F.slot_list_extend ⟨_,e,rfl⟩ F.entry_list_extend (F.args_list_extend_2 _ _)
  (AutoSeq1.list_extend_list_list_0 l c.toArray n b a.toArray w d (by rw[List.size_toArray];omega) (by omega)) ⟨e,o,?_⟩
 refine⟨.non,_,I.lset (its':=c++a) i e (by simp) (r.append y) ?_,rfl,q⟩
 rw[List.length_append]
 omega
noncomputable def zlJ:R2:=λx y H Q=>∃ l b a zs,x=.ref l/\y=.ref b/\H l=some (.lst a)/\H b=some (.lst zs)/\a.length+zs.length<=sizeLine/\∀ p,H p=none->Q (.ref p) (upd H p (.lst (a++zs)))
theorem zaP:OpR X (binaryOp .Add) zlJ:=by
 intro d s σ H x y v u Q I j f h
 obtain⟨l,b,w,zs,rfl,rfl,m,g,t,q⟩:=h
 cases j
 cases f
 obtain⟨z,c,n,r,B,e⟩:=I.lstM m
 obtain⟨A,a,C,p,k,o⟩:=I.lstM g
 refine PySem.P.add_list e o ?_ (by rw[List.size_toArray,List.size_toArray];omega)
 have i:c.toArray++a.toArray=(c++a).toArray:=by simp
 rw[i]
 exact⟨.ref _,_,I.lnew (t':=s.toks) (r.append p) (by rw[List.length_append];omega),rfl,q _ I.fresh⟩
noncomputable def rRep:R2:=λx y H Q=>∃ l k a,x=.ref l/\y=.int k/\H l=some (.lst a)/\-(2 ^ 63)<=k/\k < 2 ^ 63/\a.length*k.toNat<=sizeLine /\
 ∀ p,H p=none->Q (.ref p) (upd H p (.lst (List.replicate k.toNat a).flatten))
theorem zah {α:Type}(a:List α)(k:Nat):(List.replicate k a).flatten.length=k*a.length:=by
 induction k with
 | zero=>simp
 | succ k b=>rw[List.replicate_succ,List.flatten_cons,List.length_append,b,Nat.succ_mul,Nat.add_comm]
theorem zkI:OpR X (binaryOp .Mult) rRep:=by
 intro w s σ H x y v u Q I J D h
 obtain⟨l,k,L,rfl,rfl,B,G,C,p,q⟩:=h
 cases J
 obtain⟨t,rfl⟩:=D
 obtain⟨z,b,n,r,K,e⟩:=I.lstM B
 have g:b.toArray.size*k.toNat<=sizeLine:=by rw[List.size_toArray,<- K];exact p
 have d:¬ b.toArray.size*k.toNat > (2 ^ 63 - 1) / 8:=by
  have:(sizeLine:Nat)<=(2 ^ 63 - 1) / 8:=by decide
  omega
 have i:¬ (!Builtin.List.listFitsIndex k)=true:=by
  rw[fitsIndex_both G C]
  exact Bool.false_ne_true
 have c:¬ Builtin.List.listTooLong (b.toArray.size*k.toNat)=true:=by
  rw[zaK g]
  exact Bool.false_ne_true
 have f:List.foldl (λo j=>o++j) #[] (List.replicate (if b.toArray.isEmpty=true then 0 else k.toNat) b.toArray)=(List.replicate k.toNat b).flatten.toArray:=by
  have E:∀ m:Nat,List.foldl (λo j=>o++j) #[] (List.replicate m b.toArray)=(List.replicate m b).flatten.toArray:=λm=>by
   have:=Zx b m []
   rw[List.nil_append]at this
   exact this
  rw[E]
  cases b with
  | nil=>simp
  | cons a M=>rw[if_neg (by simp)]
 refine wpAny_binaryOp_repeat_ref (T:="list") (U:="int") (by decide) ⟨_,e,rfl⟩ (λA=>typeIs_int A k t) noFill_list_mul F.fills_int_mul F.slot_int_rmul repeat_list F.slot_int_index.lookup
  (call_meets F.slot_int_rmul (typeIs_int s k t) F.entry_int_rmul (F.args_int_rmul_2 _ _) (int___rmul___int_list k t l b.toArray n)
   ⟨e,rfl,⟨_,e,rfl⟩,call_meets F.slot_list_mul ⟨_,e,rfl⟩ F.entry_list_mul (F.args_list_mul_2 _ _) (AutoListH.list___mul___list_int_3 l b.toArray n k t i d c) ⟨e,?_⟩⟩)
 rw[f]
 exact⟨.ref _,_,I.lnew (t':=s.toks) (r.rep k.toNat) (by rw[zah,Nat.mul_comm];exact p),rfl,q _ I.fresh⟩
end
end L2
namespace Att
open PySem PySem.W PySem.Calls PyProof.Rows
theorem Y6 {P:Params}{h:Heap}:∀ (ns:List Int) (c:List Value),WellAll P h c (ns.map WData.int)->IntsAre c ns:=by
 intro ns
 induction ns with
 | nil =>
  intro c w
  rw[List.map_nil]at w
  cases w
  exact .nil
 | cons n ns d =>
  intro c w
  rw[List.map_cons]at w
  cases w with
  | cons a b =>
   cases a
   exact .cons _ _ (d _ b)
theorem zcS {l:OpenLaw}{n:Nat}(x:l.most=some n){P:Params}{h:Heap}{args:List WData}{c:List Value}
 (b:l.row.toRowW.claim.pre args=true) (k:WellAll P h c args) :
 ∃ a m ns,c=[Value.ref a]/\args=[WData.list (ns.map WData.int)]/\h.get? a=some { cls:=.type "list",data:=.seq m.toArray }/\IntsAre m ns/\ns.length<=n:=by
 have j:WShape.hasAll [] args [.list .int]=true:=(pre_splitW b).1
 have o:l.pre.holds [] { args:=args }=true:=(pre_splitW b).2
 obtain⟨d,r,rfl,s,y⟩:=hasAllW_cons j
 obtain rfl:=hasAllW_nil y
 obtain⟨z,rfl,u⟩:=hasW_list s
 obtain⟨ns,rfl⟩:=items_int u
 have f:ns.length<=n:=by
  unfold OpenLaw.pre at o
  have i:(WTm.not (.lt (.lit (.int (n:Int))) (.len (.arg 0)))).holds [] { args:=[.list (ns.map .int)] }=true:=by
   have i:=(holds_andW o).1
   rw[x]at i
   exact i
  have g:=condW_of i (w_not (w_lt w_lit (w_len_list (w_arg rfl))))
  rw[List.length_map]at g
  refine Nat.le_of_not_lt λq=>?_
  have p:(n:Int) < ((ns.length:Nat):Int):=by omega
  first
   | (rw[decide_eq_true p]at g;exact absurd g (by decide))
   | (simp at g;omega)
 cases k with
 | cons v w =>
  cases w
  cases v with
  | list t e=>exact⟨_,_,ns,rfl,rfl,t,Y6 ns _ e,f⟩
theorem zdW (l:OpenLaw)(args:List WData):l.row.toRowW.claim.post args (.bool true) args=true :=
 postW_of (r:=l.row.toRowW) (X:=(true == true))
  (show WShape.has [] (.bool true) .bool=true by first | rfl | decide | simp[WShape.has,WShape.arms,WShape.armsAll])
  (show(WTm.eq .res (.lit (.bool true))).value [] { args:=args,res:=some (.bool true),after:=args }=some (.bool (true == true))from w_eq_bool (w_res rfl) w_lit) rfl
theorem attach_call {l:OpenLaw}{n:Nat}{q:Program}{c:List Str}{XP:(Str->Option Value)->Heap->Prop}{YP:World->Heap->Prop}{d:DefRec}
 (P:l.most=some n) (z:d.params.defaults=[])
 (call:∀ (w:World) (s₀ b:Shared) (p A:Str->Option Value) (k:Addr) (o:Obj) (x s g:Value) (a:Addr) (h:List Value) (ns:List Int),
  Ground q c [] XP w s₀ p A b.heap->YP w b.heap ->
  b.heap.get? k=some o->o.data=.func (docDef d.name d.params d.body d.scope x s g)->b.heap.CodeRec s d.name->p d.name=some (.ref k) ->
  b.heap.get? a=some { cls:=.type "list",data:=.seq h.toArray }->IntsAre h ns->ns.length<=n->b.gens=#[] ->
  codeAny (model l.prog w) callerA (.call (.ref k) ⟨[.ref a],[]⟩) (λr t=>r=.ok (.ret (.bool true))/\OldK b.heap t.heap/\t.os=b.os/\AllBare t.gens) b) :
 WalkO q c XP YP l.row.toRowW d [] (λf h=>PySem.call f h):=by
 intro w s₀ b p A G Y k o x s g I kV F M u B v O args C R m D H y J
 obtain rfl:I=.none:=Dflts.none B z
 obtain rfl:kV=.none:=Dflts.noKw B
 obtain⟨a,h,ns,rfl,rfl,i,e,j⟩:=zcS P m y
 refine enter_call (codeAny_mono (call w s₀ b p A k o x s g a h ns G Y F (fd_plain M) u v i e j O) λr t E=>?_)
 obtain⟨rfl,K,N,L⟩:=E
 exact⟨.inl ⟨.bool true,.bool true,[],rfl,λ_=>rfl,.bool true,zdW l _,λ_=>⟨List.Pairwise.nil,λ_ Q=>(nomatch Q)⟩⟩,K,N,L⟩
section
variable {prog:Program}{w:World}{A:Around}{E:Value->Shared->Prop}{s:Shared}{K:Frag}
noncomputable def ledger (h:Heap)(L d:Addr):List (Addr × Obj):=(List.range h.objs.size).filterMap λa=>if a=L\/a=d then none else (h.get? a).map λo=>(a,o)
end
end Att
namespace L2
open PySem PySem.Spec PyProof.Rows
theorem WN:∀ {a:List Value} {ns:List Int},IntsAre a ns->zT (ns.map V.int) a:=by
 intro a ns h
 induction h with
 | nil=>exact .nil
 | cons n t h b=>exact .cons ⟨t,rfl⟩ b
noncomputable def zmc (H:Hp):Prop:=∀ b,H b=none\/∃ o a,H b=some (.frz o (.lst a))
theorem zfd {P:Program}{w:World}{K:PySem.W.Frag}{I T:Str->Option Value}{CX:CXT}{k:Nat}{R a:Addr}{fd:FuncData}{x:Str}{sp:Sp}{c:Shared}{y:List Value}{ns:List Int}
 (KX:K.In c.heap) (M:c.heap.Ns mainGlobals I) (g:c.heap.Ns builtinsNs T) (S:∀ x:Str,x≠"__name__"->T x=bootBuiltins x) (D:c.heap.NoLimit) (hg:c.gens=#[])
 (O:c.heap.get? a=some { cls:=.type "list",data:=.seq y.toArray }) (hi:IntsAre y ns) (hl:ns.length<=sizeLine) (hr:yL k callerA)
 (F:∀ i:Heap,K.In i->i.Ns mainGlobals I->xA P w K I i CX k R fd [x] sp) (t:∀ (s:Shared) (u:Value),BindsTo s fd ⟨[u],[]⟩ [(x,u)])
 (Q:∀ H:Hp,zmc H->SqL K H a (ns.map V.int)->sp [.ref a] H (λv _=>v=.bl true) λ_ _ _=>False)
 (W:∀ H e j,CX [] H c (λ_ _ _=>False) e j->False) :
 codeAny (model P w) callerA (.call (.ref R) ⟨[.ref a],[]⟩) (λr j=>r=.ok (.ret (.bool true))/\OldK c.heap j.heap/\j.os=c.os/\AllBare j.gens) c:=by
 have rv:=WN hi
 have A:=hi.length
 -- from an abstract heap in which nothing but the script may be tracked
 have p:∀ H:Hp,zmc H->SqL K H a (ns.map V.int)->HOk P w H c.heap->(∀ b,H b≠none->b=a)->(H a≠none->K.lookup a=none) ->
  codeAny (model P w) callerA (.call (.ref R) ⟨[.ref a],[]⟩) (λr j=>r=.ok (.ret (.bool true))/\OldK c.heap j.heap/\j.os=c.os/\AllBare j.gens) c:=by
  intro H hO hS C Z hK
  have f:∀ {b:Addr} {o:Obj},c.heap.get? b=some o->H b=none->(zfD c.heap H).get? b=some o:=λe n=>zeT e n
  have Y:∀ {b:Addr} {o:Obj} {N:Array DictEntry} {E:Nat},c.heap.get? b=some o->o.data=.dict N E->H b=none:=λ{b o N E} e d=>by
   cases q:H b with
   | none=>rfl
   | some u =>
    have X:b=a:=Z b (by rw[q];simp)
    subst X
    rw[O]at e;cases e
    have d':Data.seq y.toArray _=Data.dict N E:=d
    cases d'
  have l:∀ {b:Addr} {m:Str->Option Value},c.heap.Ns b m->(zfD c.heap H).Ns b m:=λ{b m} ⟨o,N,E,e,d,r⟩=>⟨o,N,E,f e (Y e d),d,r⟩
  have L:K.In (zfD c.heap H):=λb o e=>f (KX b o e) (by
   cases q:H b with
   | none=>rfl
   | some u =>
    have X:b=a:=Z b (by rw[q];simp)
    subst X
    rw[hK (by rw[q];simp)]at e;cases e)
  have hM:Mod K I (zfD c.heap H):=⟨L,l M,⟨T,l g,S⟩,let ⟨mc,h1,h2⟩:=D;⟨mc,l h1,h2⟩⟩
  have e0:ze9 P w K I (zfD c.heap H) callerA [] c H:=⟨rfl,hM,λb o e=>zij e,Nat.le_of_eq (zew _ _),trivial,λb g=>absurd (show b∈([]:List Addr)from g) (by simp),C,.of_eq hg⟩
  refine codeAny_mono ((F _ L (l M)).run callerA [] c H ⟨[.ref a],[]⟩ [.ref a] [.ref a] _ _ hr e0 (t c (.ref a)) (.cons rfl .nil) (Q H hO hS)) λr j h=>?_
  cases r with
  | error e=>exact(W H e j h).elim
  | ok fl =>
   cases fl with
   | next=>exact False.elim h
   | brk=>exact False.elim h
   | cont=>exact False.elim h
   | ret u =>
    obtain⟨v,H',os,B,un,J,r',q⟩:=h
    have q':v=.bl true:=q
    subst q'
    obtain rfl:u=Value.bool true:=r'
    refine⟨rfl,OldK.of_keep λb o e=>?_,os,B⟩
    cases q:H b with
    | none=>exact un.keep b o e q (by intro z;exact absurd (show b∈([]:List Addr)from z) (by simp)) (by simp)
    | some u =>
     rcases hO b with z | ⟨ob,xs,z⟩
     .rw[q]at z;cases z
     .have z2:=un.frzs b ob _ z
      obtain⟨e1,_⟩:=C b _ z
      obtain⟨e2,_⟩:=J b _ z2
      rw[e]at e1;cases e1
      exact e2
 cases U:K.lookup a with
 | some o =>
  -- the script is one of the module's own objects
  have e:=KX a o U
  rw[O]at e
  cases e
  refine p (λ_=>none) (λ_=>.inl rfl) (.inr ⟨_,y.toArray,_,U,rfl,rfl,rfl,by rw[List.size_toArray,A];exact hl,by simpa using rv⟩) (λb u z=>by have G:(none:Option HO)=some u:=z;cases G) (λb z=>absurd rfl z) λz=>absurd rfl z
 | none =>
  refine p (λb=>if b=a then some (.frz { cls:=.type "list",data:=.seq y.toArray } (.lst (ns.map V.int)))else none) (λb=>?_) (.inl (.inr ⟨{ cls:=.type "list",data:=.seq y.toArray },if_pos rfl⟩)) (λb u z=>?_) (λb z=>?_) λ_=>U
  .by_cases g:b=a
   .exact .inr ⟨_,_,if_pos g⟩
   .exact .inl (if_neg g)
  .by_cases g:b=a
   .have G:=(if_pos g).symm.trans z
    cases G
    subst g
    exact⟨O,by rw[List.length_map];exact hl,y,_,rv,O⟩
   .have G:=(if_neg g).symm.trans z
    cases G
  .by_cases g:b=a
   .exact g
   .exact absurd (if_neg g) z
theorem walk_of {l:PySem.W.OpenLaw}{n k:Nat}{q:Program}{i:List Str}{XP:(Str->Option Value)->Heap->Prop}{YP:World->Heap->Prop}{d:DefRec}{K:Params->PySem.W.Frag}{CX:World->CXT}{sp:World->Sp}{x:Str}
 (L:l.most=some n) (r:n<=sizeLine) (B:d.params.defaults=[]) (N:yL k callerA)
 (M:∀ (w:World) (h:Heap),YP w h->(K w.params).In h)
 (F:∀ (w:World) (j:Str->Option Value) (p:Addr) (h:Heap),(K w.params).In h->h.Ns mainGlobals j->j d.name=some (.ref p) ->
  ∃ C:FuncData,(∀ (s:Shared) (u:Value),BindsTo s C ⟨[u],[]⟩ [(x,u)]) /\
   ∀ b:Heap,(K w.params).In b->b.Ns mainGlobals j->xA l.prog w (K w.params) j b (CX w) k p C [x] (sp w))
 (t:∀ (w:World) (H:Hp) (a:Addr) (ns:List Int),ns.length<=n->zmc H->SqL (K w.params) H a (ns.map V.int)->sp w [.ref a] H (λv _=>v=.bl true) λ_ _ _=>False)
 (y:∀ (w:World) (H:Hp) (s:Shared) (e:Value) (z:Shared),CX w [] H s (λ_ _ _=>False) e z->False) :
 PySem.W.WalkO q i XP YP l.row.toRowW d [] (λf D=>PySem.call f D):=by
 refine Att.attach_call L B λw s₀ E j W p o X U J a D ns G Y T Z O A m g c S=>?_
 have KX:=M w _ Y
 obtain⟨C,I,P⟩:=F w j p _ KX G.T.g A
 exact zfd KX G.T.g G.T.b G.T.builtins G.T.nolimit S m g (Nat.le_trans c r) N P I (λH R Q=>t w H a ns c R Q) λH e z=>y w H E e z
noncomputable def xb (s:Stmt):Arguments:=match s with
 | .FunctionDef _ a _ _ _ _ _ _ _ _=>a
 | _=>{ posonlyargs:=[],args:=[],vararg:=none,kwonlyargs:=[],kw_defaults:=[],kwarg:=none,defaults:=[] }
noncomputable def zU (s:Stmt):List Stmt:=match s with
 | .FunctionDef _ _ b _ _ _ _ _ _ _=>b
 | _=>[]
noncomputable def zg (s:Stmt):Scope:=match s with
 | .FunctionDef _ _ _ _ _ _ sc _ _ _=>sc
 | _=>{ kind:=.function,names:=[],isGenerator:=false,isCoroutine:=false }
noncomputable abbrev CX0:CXT:=λ_ _ _ _ _ _=>False
noncomputable abbrev E0:XK:=λ_ _ _=>False
theorem zbe {X:Cx}:xB CX0 X E0:=λ_ _ _ _ _ _ _ h=>h.elim
structure Fun (K:W.Frag) (x qual:Str) (st:Stmt) (f:Addr) (fd:FuncData):Prop where
 ex:∃ (oc:Value) (od:Option Addr) (kV doc pm:Value) (an:Option Addr) (cdv ct:Value) (osl:Array (Option Value)),
  fd=W.fnOf x qual (xb st) (zU st) (zg st) .none kV doc pm an cdv ct/\K.lookup f=some ⟨oc,od,.func fd,osl⟩/\W.codeIn K cdv qual=true
 kp:W.keepIn K (.ref f)=true
section
variable {P:Program}{w:World}{K:W.Frag}{mg:Str->Option Value}{base:Heap}
theorem Fun.ok {x a:Str}{e:Stmt}{f:Addr}{n:FuncData}{N m:List Str}{k:Nat}{l:Sp}(F:Fun K x a e f n)(S:yf N m (zg e))(g:∀ d H Q E,l d H Q E->d.length=m.length)
 (c:∀ (b:Value) (A:Around) (outer:List Env) (s:Shared) (H:Hp) (d:List V) (Q:VK) (E:XK),yL k (A.deeper (envOfC a (zg e) s.heap.objs.size f b))->l d H Q E ->
  ∃ t,PSs (vR CX0 P w K mg base N a (zg e) f b A outer s H E).nox (zU e) t/\t { nx:=λ_ H'=>Q .non H',rt:=Q } (start N d) H):xA P w K mg base CX0 (k+1) f n m l:=by
 obtain⟨y,B,kV,r,v,z,b,ct,p,rfl,u,i⟩:=F.ex
 refine zjJ u i S g λA outer s H d Q E o j=>?_
 obtain⟨t,h,q⟩:=c b A outer s H d Q E o j
 exact⟨t,h.nox,q⟩
theorem Fun.binds {x a:Str}{d:Stmt}{f:Addr}{j:FuncData}{ps:List Str}(F:Fun K x a d f j)
 (h:∀ (kV b g:Value) (e:Option Addr) (c ct:Value) (i:List Value),i.length=ps.length->bindArgs (W.fnOf x a (xb d) (zU d) (zg d) .none kV b g e c ct) ⟨i,[]⟩=pure (ps.zip i)):xf K j ps []:=by
 obtain⟨n,m,kV,b,g,e,c,ct,l,rfl,o,k⟩:=F.ex
 exact .all (h kV b g e c ct)
theorem Xb {x a:Str}{st:Stmt}{f:Addr}{j:Value}{i g:Option Addr}{e:Array (Option Value)}{kV d h b ct:Value}(l:K.lookup f=some ⟨j,i,.func (W.fnOf x a (xb st) (zU st) (zg st) .none kV d h g b ct),e⟩)
 (c:W.codeIn K b a=true) (k:W.keepIn K (.ref f)=true):Fun K x a st f (W.fnOf x a (xb st) (zU st) (zg st) .none kV d h g b ct):=⟨⟨j,i,kV,d,h,g,b,ct,e,rfl,l,c⟩,k⟩
end
theorem zjU {A:Around}{k:Nat}(a:yL k A):A.units+1 < cLine:=Nat.lt_of_le_of_lt (Nat.add_le_add_left (by decide:1<=64) _) a.units
theorem wB {n:Nat}(h:n<=1000):n < sizeLine:=Nat.lt_of_le_of_lt h (by decide)
section
variable {X:Cx}
theorem pv (i:Nat) {x:Str} {b:Pos} (d:X.N[i]?=some x:=by rfl) (e:Vis X.env.scope x:=by first | exact Or.inl rfl | exact Or.inr (Or.inl rfl) | exact Or.inr (Or.inr rfl)) (c:(x == ("__debug__":Str))=false:=by decide)
 (a:(x == ("__classdict__":Str))=false:=by decide):PE X (.Name x b) (Yl i):=zkU d e c a
end
noncomputable def zD (H H':Hp):Prop:=∀ b o,H b=some o->H' b=some o
theorem zD.refl (H:Hp):zD H H:=λ_ _ h=>h
theorem zD.trans {H H1 H2:Hp}(a:zD H H1)(b:zD H1 H2):zD H H2:=λc o h=>b c o (a c o h)
theorem zD.free {H H':Hp}(e:zD H H'){l:Addr}(h:H' l=Option.none):H l=Option.none:=by
 cases q:H l with
 | none=>rfl
 | some o =>
  rw[e l o q]at h
  cases h
theorem zD.seq {K:W.Frag}{H H':Hp}{a:Addr}{b:List V}(e:zD H H')(h:SqL K H a b):SqL K H' a b:=by
 rcases h with (h | ⟨o,h⟩) | h
 .exact .inl (.inl (e _ _ h))
 .exact .inl (.inr ⟨o,e _ _ h⟩)
 .exact .inr h
section
variable {κ:Type}[DecidableEq κ]
noncomputable def zaz (a:List (κ × V))(k:κ):Option V:=(a.find? λb=>decide (b.1=k)).map (·.2)
noncomputable def zab (a:List (κ × V))(k:κ)(v:V):List (κ × V) :=
 if (a.any λb=>decide (b.1=k))=true then a.map (λb=>if b.1=k then (b.1,v)else b)else a++[(k,v)]
theorem YC {p:κ × V}{r:List (κ × V)}{k:κ}(e:p.1=k):zaz (p::r) k=some p.2:=by simp[zaz,List.find?_cons,e]
theorem Yv {p:κ × V}{r:List (κ × V)}{k:κ}(e:¬ p.1=k):zaz (p::r) k=zaz r k:=by simp[zaz,List.find?_cons,e]
theorem X5 (k:κ):∀ a:List (κ × V),(a.any λb=>decide (b.1=k))=(zaz a k).isSome
 | []=>rfl
 | p::r=>by
  rw[List.any_cons]
  by_cases e:p.1=k
  .simp only[YC e,decide_eq_true e,Bool.true_or,Option.isSome_some]
  .rw[Yv e,decide_eq_false e,Bool.false_or];exact X5 k r
theorem YU (a:List (κ × V))(k:κ)(v:V):(zab a k v).length<=a.length+1:=by
 unfold zab
 split
 .rw[List.length_map];omega
 .rw[List.length_append,List.length_cons,List.length_nil];omega
theorem za1.isSome_eq {o:Option V}{u:Option Value}(r:za1 o u):o.isSome=u.isSome:=by
 cases o with
 | none=>cases u with
  | none=>rfl
  | some _=>exact(show False from r).elim
 | some _=>cases u with
  | none=>exact(show False from r).elim
  | some _=>rfl
theorem KV.val {a:List (κ × V)}{g:List (κ × Value)}(r:KV a g)(k:κ):za1 (zaz a k) (valueAt g k):=by
 unfold KV at r
 induction r with
 | nil=>exact True.intro
 | @cons p q l c h t i =>
  obtain⟨f,j⟩:=h
  by_cases e:p.1=k
  .have d:q.1=k:=f.symm.trans e
   have b:valueAt (q::c) k=some q.2:=by simp[valueAt,List.find?_cons,d]
   rw[YC e,b];exact j
  .have d:¬ q.1=k:=λz=>e (f.trans z)
   have b:valueAt (q::c) k=valueAt c k:=by simp[valueAt,List.find?_cons,d]
   rw[Yv e,b];exact i
theorem KV.any {a:List (κ × V)}{c:List (κ × Value)}(r:KV a c)(k:κ):(a.any λb=>decide (b.1=k))=c.any λb=>decide (b.1=k):=by
 unfold KV at r
 induction r with
 | nil=>rfl
 | cons h t d=>rw[List.any_cons,List.any_cons,d,h.1]
theorem KV.repl {b:List (κ × V)}{d:List (κ × Value)}(r:KV b d)(k:κ){y:V}{u:Value}(f:yl y u) :
 KV (b.map λa=>if a.1=k then (a.1,y)else a) (d.map λa=>if a.1=k then (a.1,u)else a):=by
 unfold KV at r ⊢
 induction r with
 | nil=>exact .nil
 | @cons p q l j h t g =>
  rw[List.map_cons,List.map_cons]
  refine .cons ?_ g
  obtain⟨c,i⟩:=h
  by_cases e:p.1=k
  .rw[if_pos e,if_pos (c.symm.trans e)];exact⟨c,f⟩
  .rw[if_neg e,if_neg (λz=>e (c.trans z))];exact⟨c,i⟩
theorem KV.put {a:List (κ × V)}{b:List (κ × Value)}(r:KV a b)(k:κ){y:V}{u:Value}(c:yl y u):KV (zab a k y) (stored b k u):=by
 unfold zab stored
 rw[r.any k]
 by_cases e:(b.any λd=>decide (d.1=k))=true
 .rw[if_pos e,if_pos e];exact r.repl k c
 .rw[if_neg e,if_neg e];exact Paired.snoc r ⟨rfl,c⟩
theorem KV.length {a:List (κ × V)}{b:List (κ × Value)}(r:KV a b):a.length=b.length:=Paired.length r
end
theorem zie {P:Program}{w:World}{k:Key}{u:Value}(r:yl (kV k) u):(yU P w).is k u=true:=by
 cases k with
 | inl i=>obtain⟨t,e⟩:=(show ∃ t,u=Value.int i t from r);subst e;exact VG P w i t
 | inr x=>obtain⟨t,e⟩:=(show ∃ t,u=Value.str x t from r);subst e;exact zal P w x t
theorem Vi {P:Program}{w:World}:∀ {a:List Key} {b:List Value},zT (a.map kV) b->ItemsAre (yU P w) a b
 | [],_,r=>by rw[List.map_nil]at r;cases r;exact .nil
 | k::a,_,r=>by
  rw[List.map_cons]at r
  cases r with
  | cons h t=>exact .cons (zie h) (Vi t)
noncomputable abbrev KT (H:Hp):List (List Key × V)->List (List Key × Addr × Value)->Prop:=Paired λp q=>p.1=q.1/\H q.2.1=some (.tup (p.1.map kV))/\yl p.2 q.2.2
theorem KT.val {H:Hp}{a:List (List Key × V)}{g:List (List Key × Addr × Value)}(r:KT H a g)(k:List Key):za1 (zaz a k) ((atKey g k).map (·.2)):=by
 induction r with
 | nil=>exact True.intro
 | @cons p q l c h t i =>
  obtain⟨f,_,j⟩:=h
  by_cases e:p.1=k
  .have d:q.1=k:=f.symm.trans e
   have b:atKey (q::c) k=some q.2:=by simp[atKey,List.find?_cons,d]
   rw[YC e,b];exact j
  .have d:¬ q.1=k:=λz=>e (f.trans z)
   have b:atKey (q::c) k=atKey c k:=by simp[atKey,List.find?_cons,d]
   rw[Yv e,b];exact i
theorem KT.repl {H:Hp}{a:List (List Key × V)}{d:List (List Key × Addr × Value)}(r:KT H a d)(k:List Key){y:V}{u:Value}(g:yl y u) :
 KT H (a.map λc=>if c.1=k then (c.1,y)else c) (d.map (putAt k u)):=by
 induction r with
 | nil=>exact .nil
 | @cons p q m l h t i =>
  rw[List.map_cons,List.map_cons]
  refine .cons ?_ i
  obtain⟨b,f,j⟩:=h
  unfold putAt
  by_cases e:p.1=k
  .rw[if_pos e,if_pos (b.symm.trans e)];exact⟨b,f,g⟩
  .rw[if_neg e,if_neg (λz=>e (b.trans z))];exact⟨b,f,j⟩
theorem KT.put {H:Hp}{a:List (List Key × V)}{c:List (List Key × Addr × Value)}(r:KT H a c)(k:List Key){b:Addr}{y:V}{u:Value}(g:H b=some (.tup (k.map kV)))(d:yl y u) :
 KT H (zab a k y) (storedH c k b u):=by
 have e:(a.any λf=>decide (f.1=k))=(atKey c k).isSome:=by
  rw[X5,(r.val k).isSome_eq,Option.isSome_map]
 unfold zab storedH
 rw[e]
 by_cases q:(atKey c k).isSome=true
 .rw[if_pos q,if_pos q];exact r.repl k d
 .rw[if_neg q,if_neg q];exact Paired.snoc r ⟨rfl,g,d⟩
theorem KT.keeps {H H':Hp}{a:List (List Key × V)}{c:List (List Key × Addr × Value)}(r:KT H a c)(e:∀ b d,H b=some (.tup d)->H' b=some (.tup d)):KT H' a c :=
 Paired.mapP r λ_ _ z=>⟨z.1,e _ _ z.2.1,z.2.2⟩
section
variable {P:Program}{w:World}{H:Hp}{h:Heap}{a:Addr}
theorem zla {u:HO}(ok:HOk P w H h)(e:Rd H a u):yb P w H h a u:=e.ok ok
theorem zkw {b:List (Key × V)}(ok:HOk P w H h)(e:Rd H a (.dK b)):b.length<=sizeLine/\(a == sysModules)=false/\∃ c,KV b c/\h.DictOf (yU P w) a c :=
 show yb P w H h a (.dK b)from zla ok e
theorem zlM {b:List (Key × V)}(ok:HOk P w H h)(e:H a=some (.dK b)):b.length<=sizeLine/\(a == sysModules)=false/\∃ c,KV b c/\h.DictOf (yU P w) a c:=zkw ok (.inl e)
theorem zcw {c:List Key}(ok:HOk P w H h)(e:H a=some (.tup (c.map kV))):(tupleKind (yU P w)).is h c a:=by
 obtain⟨_,b,r,o,g,f,n,d⟩:=(show yb P w H h a (.tup (c.map kV))from ok a _ e)
 exact⟨o,b.toArray,n,g,f,d,by simpa using Vi r⟩
theorem zkM {b:List (List Key × V)}(ok:HOk P w H h)(e:Rd H a (.dT b)):b.length<=sizeLine/\(a == sysModules)=false /\
 ∃ d,KT H b d/\h.DictOfH (tupleKind (yU P w)) a d:=by
 obtain⟨z,y,d,r,o,k,A,j,u,n,v,s⟩:=(show yb P w H h a (.dT b)from zla ok e)
 refine⟨z,y,d,r,o,k,A,j,u,n,v,λx c=>?_,s⟩
 have f:∀ {l:List (List Key × V)} {m:List (List Key × Addr × Value)},KT H l m->∀ x∈m,(tupleKind (yU P w)).is h x.1 x.2.1:=by
  intro l m q
  induction q with
  | nil=>intro x c;exact nomatch c
  | @cons p q C B g t i =>
   intro x c
   rcases List.mem_cons.mp c with e | c
   .subst e
    exact zcw ok (by rw[<-g.1];exact g.2.1)
   .exact i x c
 exact f r x c
theorem zl9 {b:List (List Key × V)}(ok:HOk P w H h)(e:H a=some (.dT b)):b.length<=sizeLine/\(a == sysModules)=false /\
 ∃ c,KT H b c/\h.DictOfH (tupleKind (yU P w)) a c:=zkM ok (.inl e)
end
noncomputable def zlZ (H:Hp)(a:Addr)(y:V)(r:Option V):Prop :=
 (∃ c k,Rd H a (.dK c)/\y=kV k/\r=zaz c k)\/∃ c k b,Rd H a (.dT c)/\y=.ref b/\H b=some (.tup (k.map kV))/\r=zaz c k
noncomputable def zfw (H:Hp)(a:Addr)(y v:V)(H':Hp):Prop :=
 (∃ c k,H a=some (.dK c)/\y=kV k/\c.length < sizeLine/\H'=upd H a (.dK (zab c k v))) \/
 ∃ c k b,H a=some (.dT c)/\y=.ref b/\H b=some (.tup (k.map kV))/\c.length < sizeLine/\H'=upd H a (.dT (zab c k v))
theorem zfw.k {H:Hp}{a:Addr}{b:List (Key × V)}{k:Key}{v:V}(e:H a=some (.dK b))(c:b.length < sizeLine):zfw H a (kV k) v (upd H a (.dK (zab b k v))):=.inl ⟨b,k,e,rfl,c,rfl⟩
theorem zfw.t {H:Hp}{a b:Addr}{c:List (List Key × V)}{k:List Key}{v:V}(e:H a=some (.dT c))(d:H b=some (.tup (k.map kV)))(f:c.length < sizeLine) :
 zfw H a (.ref b) v (upd H a (.dT (zab c k v))):=.inr ⟨c,k,b,e,rfl,d,f,rfl⟩
section
variable {X:Cx}{pins:List (Addr × Obj)}{σ:St}{H:Hp}{s:Shared}{a:Addr}{y v:V}{u r:Value}{o:Option V}{A:Around}{E:Value->Shared->Prop}
theorem Inv.big (I:Inv X pins σ H s):sysModules < s.heap.objs.size:=by
 have h:mainGlobals < s.heap.objs.size:=(I.mod.glob.keeps I.bk).lt
 exact Nat.lt_trans (by decide) h
theorem d_in {Q:Value->Shared->Prop}(r:A.units+1 < cLine)(I:Inv X pins σ H s)(g:zlZ H a y o)(m:yl y u)(h:∀ n,Inv X pins σ H n->Q (.bool o.isSome) n) :
 wpAny (model X.prog X.w) A (compareOp .In u (.ref a)) Q E s:=by
 rcases g with ⟨i,k,e,d,l⟩ | ⟨i,k,b,e,d,p,l⟩
 .subst d
  obtain⟨z,f,t,c,j⟩:=zkw I.hok e
  refine wpAny_in_of (zie m) f j.mapOf ?_
  rw[<-(c.val k).isSome_eq,<- l]
  exact h _ (I.tok _)
 .subst d
  cases (show u=Value.ref b from m)
  obtain⟨z,f,v,c,j⟩:=zkM I.hok e
  refine wpAny_in_heap (tupleKind_room_in1 r) (zcw I.hok p) f j ?_
  have q:=(c.val k).isSome_eq
  rw[Option.isSome_map]at q
  rw[<-q,<- l]
  exact h _ (I.tok _)
theorem zej {c:Heap}{h:Nat}{d:HO}(I:Inv X pins σ H s)(g:Mut (H a))(k:Heap.SameBut a s.heap c)(j:∃ q,c.get? a=some q)(f:yb X.prog X.w (upd H a d) c a d) :
 Inv X pins σ (upd H a d) { s with heap:=c,toks:=h } :=
 I.write (x:=a) (e:=a) g (.inl rfl) (λb q i z=>(k.2 b i).trans z) j f
theorem zjH {P:Program}{w:World}{H':Hp}{e:Heap}{b:List (Key × V)}{c:List (Key × Value)}(z:b.length<=sizeLine)(f:(a == sysModules)=false)(d:KV b c)(g:e.DictOf (yU P w) a c) :
 yb P w H' e a (.dK b):=⟨z,f,c,d,g⟩
theorem zdw {H':Hp}{Q:Unit->Shared->Prop}(P:A.units+1 < cLine)(I:Inv X pins σ H s)(g:zfw H a y v H')(G:yl y u)(C:yl v r)(h:∀ F,Inv X pins σ H' F->Q () F) :
 wpAny (model X.prog X.w) A (setItem (.ref a) u r) Q E s:=by
 rcases g with ⟨f,k,e,m,l,w⟩ | ⟨f,k,b,e,m,B,l,w⟩
 .subst m w
  obtain⟨z,t,K,d,o⟩:=zlM I.hok e
  have n:K.length<=sizeLine:=by rw[<-d.length];exact z
  have x:(zab f k v).length<=sizeLine:=by have:=YU f k v;omega
  refine wpAny_setItem_pairs (hsz:=n) (zie G) o λJ i p=>h _ ?_
  have T:∃ q,J.get? a=some q:=let ⟨q,_,_,j,_⟩:=i;⟨q,j⟩
  exact zej I (by rw[e];exact True.intro) p T (zjH x t (d.put k C) i)
 .subst m w
  cases (show u=Value.ref b from G)
  obtain⟨z,t,M,d,o⟩:=zl9 I.hok e
  have n:M.length<=sizeLine:=by rw[<-Paired.length d];exact z
  have x:(zab f k v).length<=sizeLine:=by have:=YU f k v;omega
  refine wpAny_setItem_heap (hsz:=n) (tupleKind_room_in1 P) (zcw I.hok B) o λJ i p=>h _ ?_
  obtain⟨q,R,U,j,N,S,O,_,L⟩:=i
  refine zej I (by rw[e];exact True.intro) p ⟨q,j⟩ ⟨x,t,_,(d.put k B C).keeps λc V D=>?_,q,R,U,j,N,S,O,L⟩
  rw[ze (ziW D e (λz=>nomatch z))]
  exact D
end
noncomputable def zl3 (b ty c:TE):TS:=λD σ H=>c σ H λv H1=>b σ H1 λx H2=>ty σ H2 λy H3=>∃ a H4,x=.ref a/\zfw H3 a y v H4/\D.nx σ H4
section
variable {X:Cx}{o i e value:Expr}{pos pos' tpos:Pos}{td ty tv:TE}
theorem ziA (m:X.A.units+1 < cLine)(f:PE X o td)(t:PE X i ty)(n:PE X value tv)(w:swapsWith value (some (.Subscript o i pos')) pos.line X.env=pure false) :
 PS X (.Assign [.Subscript o i pos'] value pos) (zl3 td ty tv):=by
 intro b s σ H D I h
 refine wpAny_Assign_Subscript (thn (n b s σ H _ I h) λr e ⟨v,H1,I1,d,j⟩=>thn (f b e σ H1 _ I1 j) λu c ⟨x,H2,I2,q,p⟩=>thn (t b c σ H2 _ I2 p) λA B hh9=>?_) w
 obtain⟨y,H3,I3,k,a,H4,ex,g,l⟩:=hh9
 subst ex
 obtain rfl:u=Value.ref a:=q
 exact zdw m I3 g k d λz I4=>⟨σ,H4,I4,l⟩
end
theorem zge {P:Program} {w:World} {H:Hp} (h:Heap) (a:sysModules < h.objs.size):yb P w H (h.push { cls:=.type "dict",data:=.dict #[] }) h.objs.size (.dK []) :=
 ⟨Nat.zero_le _,beq_eq_false_iff_ne.mpr (Ne.symm (Nat.ne_of_lt a)),[],.nil,Heap.DictOf.new h⟩
theorem zfQ {P:Program} {w:World} {H:Hp} (h:Heap) (a:sysModules < h.objs.size):yb P w H (h.push { cls:=.type "dict",data:=.dict #[] }) h.objs.size (.dT []) :=
 ⟨Nat.zero_le _,beq_eq_false_iff_ne.mpr (Ne.symm (Nat.ne_of_lt a)),[],.nil,_,#[],0,Heap.get?_push_size _ rfl,⟨rfl,rfl,rfl⟩,rfl,rfl,List.nodup_nil⟩
noncomputable def zkB:TE:=λ_ H Q=>∀ p,H p=none->Q (.ref p) (upd H p (.dK []))
noncomputable def zjY:TE:=λ_ H Q=>∀ p,H p=none->Q (.ref p) (upd H p (.dT []))
section
variable {X:Cx}{pos:Pos}
theorem zgl:PE X (.Dict [] [] pos) zkB:=λb s σ H Q I h =>
 wpAny_Dict_empty ⟨.ref s.heap.objs.size,_,I.laid (a:=s.heap.objs.size) (o:=.dK []) (t':=s.toks) (λ_ _ q=>Heap.get?_push_of_some _ q) (Nat.le_refl _) (zge s.heap I.big),rfl,h _ (I.hok.fresh (Nat.le_refl _))⟩
theorem zfX:PE X (.Dict [] [] pos) zjY:=λb s σ H Q I h =>
 wpAny_Dict_empty ⟨.ref s.heap.objs.size,_,I.laid (a:=s.heap.objs.size) (o:=.dT []) (t':=s.toks) (λ_ _ q=>Heap.get?_push_of_some _ q) (Nat.le_refl _) (zfQ s.heap I.big),rfl,h _ (I.hok.fresh (Nat.le_refl _))⟩
end
theorem VZ {X:Cx}:wb X (.builtin "isinstance") (λc H Q=>∃ x n t b,c=[x,.ty n]/\zaH X.K H x t/\W.kitOne X.K t (.type n)=some b/\Q (.bl b) H):=by
 intro a s σ H c i Q I r h
 obtain⟨x,n,t,b,rfl,ty,e,q⟩:=h
 obtain⟨u,d,rfl,f,rt⟩:=zb8 r
 cases (show d=Value.type n from rt)
 exact zc5 I f ty e λg=>⟨.bl b,H,I.tok _,rfl,q⟩
noncomputable def zgT (K:W.Frag):R2:=λx y H Q=>∃ a b c d,x=.ref a/\y=.ref b/\SqT K H a c/\SqT K H b d/\c.length+d.length<=sizeLine /\
 (c=[]->Q (.ref b) H)/\(c≠[]->d=[]->Q (.ref a) H)/\(c≠[]->d≠[]->∀ p,H p=none->Q (.ref p) (upd H p (.tup (c++d))))
theorem zfi {X:Cx}:OpR X (binaryOp .Add) (zgT X.K):=by
 intro d s σ H x y v u Q I D A h
 obtain⟨a,b,w,M,rfl,rfl,C,z,E,L,J,N⟩:=h
 by_cases j:w=[]
 .subst j
  cases D
  cases A
  obtain⟨K,r,p,_⟩:=I.tuple C
  obtain⟨i,R,F,_⟩:=I.tuple z
  cases r
  obtain⟨⟨cls,G,data,O⟩,q,t,n,B⟩:=id p
  obtain⟨⟨o,k,l,m⟩,c,f,P,g⟩:=id F
  simp only at t B f g
  subst t B f g
  exact concat_meets ⟨_,q,rfl⟩ ⟨_,c,rfl⟩ noFill_tuple_add seq_tuple_add PySem.F.slot_tuple_add PySem.F.entry_tuple_add (PySem.F.args_tuple_add_2 _ _)
   (tuple_addW0 a b #[] i.toArray n P G k O m rfl) ⟨q,c,⟨.ref b,H,I,rfl,L rfl⟩⟩
 .refine ziF d s σ H (.ref a) (.ref b) v u Q I D A ⟨a,b,w,M,rfl,rfl,C,z,j,E,?_⟩
  exact⟨λe=>J j e,λe=>N j e⟩
inductive v2:St->St->Prop where
 | nil:v2 [] []
 | non {a:Option V} {s t:St}:v2 s t->v2 (none::s) (a::t)
 | same {a:Option V} {s t:St}:v2 s t->v2 (a::s) (a::t)
theorem v2.refl:∀ s:St,v2 s s
 | []=>.nil
 | _::r=>.same (v2.refl r)
theorem v2.length {s t:St}(h:v2 s t):s.length=t.length:=by
 induction h with
 | nil=>rfl
 | non _ a=>simp[a]
 | same _ a=>simp[a]
theorem v2.get {s t:St}(h:v2 s t):∀ (i:Nat) (v:V),s[i]?=some (some v)->t[i]?=some (some v):=by
 induction h with
 | nil=>intro i v e;exact e
 | non _ a =>
  intro i v e
  cases i with
  | zero=>simp at e
  | succ i=>simpa using a i v (by simpa using e)
 | same _ a =>
  intro i v e
  cases i with
  | zero=>simpa using e
  | succ i=>simpa using a i v (by simpa using e)
theorem v2.set {n:Nat}{v:V}:∀ {s t:St},v2 s t->s[n]?=some none->v2 s (t.set n (some v))
 | _,_,.nil,_=>.nil
 | _,_,.non (a:=a) h,e=>by
  cases n with
  | zero=>exact .non h
  | succ n=>exact .non (v2.set h (by simpa using e))
 | _,_,.same (a:=a) h,e=>by
  cases n with
  | zero =>
   have b:a=none:=by simpa using e
   subst b
   exact .non h
  | succ n=>exact .same (v2.set h (by simpa using e))
theorem Inv.sub {X:Cx}{a:List (Addr × Obj)}{σ b:St}{H:Hp}{s:Shared}(I:Inv X a σ H s)(h:v2 b σ):Inv X a b H s:=I.weak h.length h.get
noncomputable def PIf (X:Cx)(b:List Expr)(t:TT):Prop :=
 ∀ (a:List (Addr × Obj)) (s:Shared) (σ:St) (H:Hp) (Q:Bool->Hp->Prop),Inv X a σ H s->t σ H Q ->
  wpAny (model X.prog X.w) X.A (forIn b true λc r=>if r=true then do let ok<-isTrue c X.env (eval c X.env);pure (ForInStep.yield ok)else pure (ForInStep.yield r)) (TP X a σ Q) X.xe s
noncomputable def tYes:TT:=λ_ H Q=>Q true H
theorem zc2 {X:Cx}:PIf X [] tYes:=by
 intro a s σ H Q I h
 rw[List.forIn_nil]
 exact wpAny_pure ⟨H,I,h⟩
theorem zh0 {X:Cx}{c:Expr}{t:TT}(d:PT X c t):PIf X [c] t:=by
 intro a s σ H Q I h
 rw[List.forIn_cons]
 refine wpAny_bind ?_
 rw[if_pos rfl]
 refine wpAny_bind (thn (d a s σ H Q I h) λb e q=>wpAny_pure ?_)
 show wpAny _ _ (forIn [] b _) _ _ _
 rw[List.forIn_nil]
 exact wpAny_pure q
section
variable {prog:Program}{w:World}{A:Around}{R:Result->Shared->Prop}{s:Shared}
theorem wR {g a e:Expr}{f:List Expr}{b:Scope}{j:Pos}{l i:Value}{env:Env}(I:Nat->Shared->Prop)
 (turn:∀ n s,I n s->wpAny (model prog w) A (pyNext l) (λr o=>match r with
  | none=>R (.ok .next) o
  | some v=>wpAny (model prog w) A (letOwnedTupleGo a l v) (λ_ k=>wpAny (model prog w) A (assign a env v) (λ_ u =>
   wpAny (model prog w) A (forIn f true λc r=>if r=true then do let ok<-isTrue c env (eval c env);pure (ForInStep.yield ok)else pure (ForInStep.yield r)) (λok q =>
    if ok=true then wpAny (model prog w) A (eval g env) (λx t =>
     wpAny (model prog w) A (call (.builtin "list.append") [i,x]) (λ_ y=>∃ m,m < n/\I m y) (λ_ _=>False) t) (λ_ _=>False) q
    else ∃ m,m < n/\I m q) (λ_ _=>False) u) (λ_ _=>False) k) (λ_ _=>False) o) (λ_ _=>False) s)
 (n:Nat) (h:I n s) :
 codeAny (model prog w) A (.compLoop (.ListComp g [⟨a,e,f,0⟩] b j) 0 l i env) R s:=by
 refine codeAny_loop rfl I (λn s E=>?_) n h
 show wpAny _ A ((compTurn (.ListComp g [⟨a,e,f,0⟩] b j) 0 l i env).onRaise (λx=>do noteFrame x env;theTreesLotGoes x)) _ _ s
 refine wpAny_noted ?_
 rw[compTurn_list]
 refine wpAny_bind (wpAny_standAt (wpAny_bind (wpAny_mono (turn n s E) (λr o B=>?_) λ_ _ d=>d.elim)))
 cases r with
 | none=>exact wpAny_pure B
 | some v =>
  refine wpAny_bind (wpAny_mono B (λ_ k p=>?_) λ_ _ d=>d.elim)
  refine wpAny_bind (wpAny_mono p (λ_ u D=>wpAny_bind (wpAny_mono D (λok q z=>?_) λ_ _ d=>d.elim)) λ_ _ d=>d.elim)
  cases ok with
  | false=>exact wpAny_pure ⟨rfl,z⟩
  | true =>
   exact wpAny_bind (wpAny_bind (wpAny_mono z (λx t F=>wpAny_bind (wpAny_mono F (λ_ y C=>wpAny_pure (wpAny_pure ⟨rfl,C⟩)) λ_ _ d=>d.elim)) λ_ _ d=>d.elim))
end
noncomputable def tLC (e:TI)(n:Nat)(g:TG)(h:TT)(f:TE):TE:=fun σ H Q=>e σ H λJ H1=>∀ D,H1 D=none->∃ W:Nat->Nat->List V->Hp->Prop,(∃ m,W 0 m [] (upd H1 D (.lst []))) /\
 ∀ i m a H2,W i m a H2->(J.stop i H2/\Q (.ref D) H2)\/(J.go i H2/\a.length < sizeLine/\∀ x H3,J.yld i H2 x H3->g x (List.replicate n none++σ) H3 λd H4=>h d H4 λb H5 =>
  if b=true then f d H5 λy H6=>H6 D=some (.lst a)/\∃ c,c < m/\W (i+1) c (a++[y]) (upd H6 D (.lst (a++[y])))else ∃ c,c < m/\W (i+1) c a H5)
theorem w8 {α:Type}:∀ {l:List (Str × α)} {y:Str},y∈l.map Prod.fst->∃ c,l.lookup y=some c
 | [],_,h=>by simp at h
 | (k,v)::r,y,h=>by
  by_cases e:y=k
  .exact⟨v,by simp[List.lookup,e]⟩
  .obtain⟨c,a⟩:=w8 (l:=r) (y:=y) (by simpa [e]using h)
   have b:(y == k)=false:=beq_eq_false_iff_ne.mpr e
   exact⟨c,by simp only[List.lookup,b];exact a⟩
theorem x5 {α:Type}{P:α->Prop}:∀ p∈([]:List α),P p:=λ_ h=>nomatch h
theorem all_cons {α:Type}{P:α->Prop}{a:α}{l:List α}(h:P a)(t:∀ p∈l,P p):∀ p∈a::l,P p:=λp b=>by
 rcases List.mem_cons.mp b with e | b
 .rw[e];exact h
 .exact t p b
theorem gs1 (σ:St)(v:V)(H:Hp)(Q:St->Hp->Prop)(h:ZN 0 v (List.replicate 1 none++σ) H Q):ZN 0 v (List.replicate 1 none++σ) H (λa H2=>v2 (List.replicate 1 none++σ) a/\Q a H2):=⟨.set (.refl _) rfl,h⟩
noncomputable def YD (X:Cx)(L M:List Str)(a:Scope)(b:List (Str × Addr))(s₀:Shared)(H₀:Hp)(ex:List Addr)(pn:List (Addr × Obj)):Cx :=
 { X with N:=L++M,s₀:=s₀,H₀:=H₀,env:=compEnvC a b s₀.heap.objs.size X.env,outer:=X.stack,stack:=X.stack,ex:=ex,fn:=λ_=>false,pn:=pn,xe:=λ_ _=>False }
structure yS (X:Cx) (L M:List Str) (scope:Scope) (cl:List (Str × Addr)):Prop where
 clos:closureFor scope X.env=pure cl
 cell:∀ y∈scope.names,y.2≠.cell
 kind:scope.kind=.function
 names:∀ y∈scope.names,y.2=.local->scope.names.lookup y.1=some .local
 sub:∀ y c,cl.lookup y=some c->X.env.cells.lookup y=some c
 has:∀ y,((relabel scope X.env).names.lookup y=some .cell\/(relabel scope X.env).names.lookup y=some .free)->∃ c,cl.lookup y=some c
 mlen:M.length=X.N.length
 msk:∀ (i:Nat) y,M[i]?=some y->Vis (relabel scope X.env) y->X.N[i]?=some y
 vis:∀ (i:Nat) y,M[i]?=some y->Vis (relabel scope X.env) y->((relabel scope X.env).names.lookup y=some .cell\/(relabel scope X.env).names.lookup y=some .free)
 out:∀ (i:Nat) y,M[i]?=some y->Vis (relabel scope X.env) y->Vis X.env.scope y/\X.env.kindOf y≠some .local
theorem Inv.letGo {X:Cx}{a:List (Addr × Obj)}{σ:St}{H:Hp}{s:Shared}{C:Addr}{i:Heap}(I:Inv X a σ H s)(f:zbO X a H C)(g:Heap.SameBut C s.heap i):Inv X a σ H { s with heap:=i }:=by
 obtain⟨k,r,w,t,u,l⟩:=f
 have j:∀ b,b∉[C]->b≠C:=λb h z=>h (by rw[z];exact List.mem_singleton.mpr rfl)
 refine I.call' (s':={ s with heap:=i }) (ch:=[C]) rfl ⟨λb o e _ _ d=>(g.2 b (j b d)).trans e,λb o e _ _ d=>⟨o.slots,(g.2 b (j b d)).trans e⟩,λ_ _ _ n _=>n,λb o e d=>⟨o,(g.2 b (j b d)).trans e⟩,λ_ _ q=>q,λ_ _ _ q=>q,λ_ x q=>⟨#[],by rw[q];simp⟩⟩ ?_ I.bare λb h=>?_
 .intro b p e
  refine(I.hok b p e).stay (λc v m q=>(g.2 c ?_).trans q) (λ_ q=>q) λ_ _ q=>q
  rintro rfl
  rcases m with z | z
  .rw[<-z,k]at e;cases e
  .rw[k]at z;cases z
 .rw[List.mem_singleton.mp h]
  exact⟨t,r,u,l⟩
theorem zce {use:Option (Value->Sem Unit)}{Qf:Value->Shared->Prop}{X:Cx}{a7 tg t:Expr}{a6:List Expr}{L M:List Str}{a:Scope}{cl:List (Str × Addr)}{d1:Pos}{wi:TI}{g:TG}{tt:TT}{te:TE}
 (hc:X.calm=true) (S:yS X L M a cl) (hi:PI X tg t wi)
 (e9:∀ (σ:St) (v:V) (H:Hp) (Q:St->Hp->Prop),g v (List.replicate L.length none++σ) H Q->g v (List.replicate L.length none++σ) H (fun σ2 H2=>v2 (List.replicate L.length none++σ) σ2/\Q σ2 H2))
 (hg:∀ s₀ H₀ ex pn,PG (YD X L M a cl s₀ H₀ ex pn) tg g) (ht:∀ s₀ H₀ ex pn,PIf (YD X L M a cl s₀ H₀ ex pn) a6 tt) (he:∀ s₀ H₀ ex pn,PE (YD X L M a cl s₀ H₀ ex pn) a7 te)
 (hs:∀ x,foldedSetIterable t X.env x=pure x:=by intro _;rfl) :
 ∀ (P:Pos) (f:List (Addr × Obj)) (s:Shared) (σ:St) (H:Hp) (Q:VK),Inv X f σ H s->tLC wi L.length g tt te σ H Q ->
  (∀ (D C:Addr) (H':Hp) (B:Shared),Inv X f σ H' B->(∃ m,B.heap.Ns C m)->zbO X f H' C->Q (.ref D) H'->compPost (model X.prog X.w) X.A X.xe use Qf (.ref D) C (.ok .next) B) ->
  wpAny (model X.prog X.w) X.A (comprehension (.ListComp a7 [⟨tg,t,a6,0⟩] a d1) a X.env P (newList []) false (eval t X.env) use) Qf X.xe s:=by
 intro P f s σ H Q I h fin
 refine wpAny_comprehension_free (use:=use) rfl hs S.clos S.kind S.names (thn (hi f s σ H _ I h) λv s1 h1=>thn h1 λf0 l h2=>?_)
 obtain⟨it,A,tn,J,H2,e,I2,T,c5,f2,q⟩:=h2
 subst e
 have hD:H2 l.heap.objs.size=none:=I2.hok.fresh (Nat.le_refl _)
 obtain⟨W,⟨m0,w0⟩,turn⟩:=q _ hD
 refine wpAny_newObj_type (wpAny_newFunctionEnv S.cell (by intro y hy;simp at hy) (λh₁ Z a0=>?_) S.kind)
 have I3:Inv X f σ (upd H2 l.heap.objs.size (.lst [])) { l with heap:=l.heap.push { cls:=.type "list",data:=.seq ([]:List Value).toArray } }:=by
  refine I2.laid (t':=l.toks) (λb u e=>Heap.get?_push_of_some _ e) (Nat.le_refl _) ?_
  exact⟨Nat.zero_le _,[],0,.nil,Heap.get?_push_size _ rfl⟩
 generalize c3:({ l with heap:=l.heap.push { cls:=.type "list",data:=.seq ([]:List Value).toArray } }:Shared)=s3 at I3 Z a0 ⊢
 have R:∀ b∈A,b < l.heap.objs.size:=λb j=>by
  obtain⟨o,ho,_⟩:=T.obj _ _ c5 b j
  exact Heap.lt_size ho
 have e7:s3.heap.objs.size=l.heap.objs.size+1:=by rw[<-c3];exact Heap.size_push ..
 have e4:∀ b o,l.heap.get? b=some o->s3.heap.get? b=some o:=λb o e=>by rw[<-c3];exact Heap.get?_push_of_some _ e
 have w:∀ b o,s3.heap.get? b=some o->h₁.get? b=some o:=λb o e=>(a0.2 b (Nat.ne_of_lt (Heap.lt_size e))).trans (Heap.get?_push_of_some _ e)
 generalize d6:upd H2 l.heap.objs.size (.lst [])=H3 at I3 w0
 have c4:∀ b∈A,H3 b=none:=λb j=>by
  rw[<-d6,ze (Nat.ne_of_lt (R b j))]
  exact(f2 b j).1
 have c9:∀ b∈A,b∉frs X.stack:=λb j z=>by
  obtain⟨_,n1,n2,_⟩:=f2 b j
  rcases List.mem_cons.mp (I3.stkSub b z)with e | e
  .exact n1 e
  .exact n2 e
 let Y:Cx:=YD X L M a cl s3 H3 A (X.pn++f)
 have OkY:Y.Ok:=by
  refine⟨I.ok.mod,S.kind,I.ok.glob,I.ok.blt,Nat.le_refl _,λx y c h1 h2=>I.ok.inj x y c (S.sub x c h1) (S.sub y c h2),λx hx=>S.has x hx,(λx c h _=>absurd h Bool.false_ne_true),I.ok.hd,I.ok.frames,.inl rfl,λb j=>⟨?_,λx c e z=>?_⟩,
   λb o e=>I3.bs b o e,Nat.le_trans I.ok.bsz I3.sz,λb o e j=>?_,c9,I3.stack,I3.stkFree⟩
  .show b≠s3.heap.objs.size
   exact Nat.ne_of_lt (Nat.lt_of_lt_of_le (R b j) (by rw[e7];exact Nat.le_succ _))
  .exact(f2 b j).2.2.2.2.1 x c (S.sub x c e) z
  .rcases(f2 b j).2.2.2.1 with z | z
   .exact I.ok.noex b o e z
   .have h1:=Heap.lt_size e
    have h2:=I.ok.bsz
    exact absurd (Nat.lt_of_lt_of_le h1 (Nat.le_trans h2 z)) (Nat.lt_irrefl _)
 have I4:Inv Y [] (List.replicate L.length none++σ) H3 { s3 with heap:=h₁,toks:=s3.toks+([]:List (Str × Value)).length }:=by
  refine⟨OkY,rfl,I3.bare,Un.kept w,⟨_,Z,λi y v e1 e2 e3=>?_⟩,λx c e=>?_,I3.hok.fresh (Nat.le_refl _),λx c e=>I3.freeC x c (S.sub x c e),λp hp=>?_,I3.hok.kept w,?_⟩
  .have hi:¬ i < L.length:=λd8=>by
    rw[List.getElem?_append_left (by simpa using d8),List.getElem?_replicate]at e2
    split at e2 <;> cases e2
   have b5:M[i - L.length]?=some y:=by
    have e1:(L++M)[i]?=some y:=e1
    rw[List.getElem?_append_right (by omega)]at e1
    exact e1
   have d4:σ[i - L.length]?=some (some v):=by rw[List.getElem?_append_right (by simpa using Nat.le_of_not_lt hi)]at e2;simpa using e2
   have e5:=S.msk _ y b5 e3
   obtain⟨ov,ok⟩:=S.out _ y b5 e3
   obtain⟨m,hn,hl⟩:=I3.loc
   obtain⟨u,ru,lk⟩:=hl _ y v e5 d4 ov
   refine⟨u,ru,?_⟩
   rcases lk with ⟨hk,_⟩ | ⟨_,c,d9,b0⟩
   .exact absurd hk ok
   .have kn:=S.vis _ y b5 e3
    obtain⟨c',c2⟩:=S.has y kn
    have:=S.sub y c' c2
    rw[d9]at this
    cases this
    refine .inr ⟨kn,c,c2,?_⟩
    obtain⟨o,ho,hd⟩:=b0
    exact⟨o,w _ _ ho,hd⟩
  .obtain⟨v,o,ho,hd⟩:=I3.cell x c (S.sub x c e)
   exact⟨v,o,w _ _ ho,hd⟩
  .have a8:p∈X.pn++f:=List.append_nil (X.pn++f) ▸ hp
   obtain⟨a1,a2,a3,a4,a5⟩:=I3.pin p a8
   refine⟨w _ _ a1,a2,Nat.ne_of_lt (Heap.lt_size a1),λz=>?_,a5⟩
   rcases List.mem_cons.mp (I3.stkSub p.1 z)with e | e
   .exact a3 e
   .exact a4 e
  .show(List.replicate L.length none++σ).length=(L++M).length
   rw[List.length_append,List.length_append,List.length_replicate,I.len,S.mlen]
 have a9:∀ {H':Hp},(∀ b∈A,H' b=none)->∀ b∈A,zbO Y [] H' b:=λ{H'} hn b j=>by
  refine⟨hn b j,(OkY.exf b j).1,c9 b j,.inl j,(OkY.exf b j).2,λp hp=>?_⟩
  have a8:p∈X.pn++f:=List.append_nil (X.pn++f) ▸ hp
  exact(f2 b j).2.2.2.2.2 p a8
 have c7:tn 0 h₁:=T.keep _ _ _ c5 λb j o e=>w b o (e4 b o e)
 -- behind the E
 have c8:∀ (H':Hp) (B:Shared),Inv Y [] (List.replicate L.length none++σ) H' B->Q (.ref l.heap.objs.size) H'->compPost (model X.prog X.w) X.A X.xe use Qf (.ref l.heap.objs.size) s3.heap.objs.size (.ok .next) B:=λH' B J' q'=>by
  obtain⟨m,hn,_⟩:=J'.loc
  refine fin _ _ H' B (I3.call' (ch:=A) J'.os J'.base J'.hok J'.bare λb j=>?_) ⟨m,hn⟩ (I3.fpOk (Nat.le_refl _) J'.free) q'
  obtain⟨_,n1,_,n3,n4,n5⟩:=f2 b j
  exact⟨n3,n1,n4,n5⟩
 have E:codeAny (model X.prog X.w) X.A (.compLoop (.ListComp a7 [⟨tg,t,a6,0⟩] a d1) 0 (.ref it) (.ref l.heap.objs.size) (compEnvC a cl s3.heap.objs.size X.env))
  (compPost (model X.prog X.w) X.A X.xe use Qf (.ref l.heap.objs.size) s3.heap.objs.size) { s3 with heap:=h₁,toks:=s3.toks+([]:List (Str × Value)).length }:=by
  refine wR (λn B=>∃ i N H',Inv Y [] (List.replicate L.length none++σ) H' B/\tn i B.heap/\(∀ b∈A,H' b=none)/\W i n N H') ?_ m0 ⟨0,[],H3,I4,c7,c4,w0⟩
  rintro n s5 ⟨i,N,H5,I5,d0,d2,w5⟩
  rcases turn i n N H5 w5 with ⟨c1,qn⟩ | ⟨go,b6,b9⟩
  .refine thn (T.done Y rfl rfl rfl hc i [] s5 _ H5 _ I5 (a9 d2) d0 c1) λr s6 hh9=>?_
   obtain⟨hr,I6⟩:=hh9
   subst hr
   exact c8 H5 s6 I6 qn
  .refine thn (T.item Y rfl rfl rfl hc i [] s5 _ H5 _ I5 (a9 d2) d0 go) λr s6 hh9=>?_
   obtain⟨u,hr,h6⟩:=hh9
   subst hr
   refine thn h6 λ_ s7 hh9=>?_
   obtain⟨x,H7,I7,r7,y7,b4,d3⟩:=hh9
   have I7':=I7.pinned (a9 d3) (T.obj _ _ b4)
   have g7:=e9 σ x H7 _ (b9 x H7 y7)
   refine thn (hg _ _ _ _ _ s7 _ H7 x u _ I7' r7 g7) λ_ s8 hh9=>?_
   obtain⟨σ8,H8,I8,O,q8⟩:=hh9
   have G:∀ {σ9:St} {H9:Hp} {s9:Shared} {zs:List V},Inv Y ([]++ZV A s7.heap) σ9 H9 s9->v2 (List.replicate L.length none++σ) σ9->(∃ m',m' < n/\W (i+1) m' zs H9) ->
    ∃ m,m < n/\∃ i N H',Inv Y [] (List.replicate L.length none++σ) H' s9/\tn i s9.heap/\(∀ b∈A,H' b=none)/\W i m N H':=λ{σ9 H9 s9 zs} I9 sub9 w9=>by
    obtain⟨m',hm,w9⟩:=w9
    refine⟨m',hm,i+1,zs,H9,(I9.sub sub9).unpinned,T.keep _ _ _ b4 λb j o e=>(I9.pin (b,o) (List.mem_append_right _ (List.mem_append_right _ (xX j e)))).1,λb j=>?_,w9⟩
    obtain⟨o,e,d⟩:=T.obj _ _ b4 b j
    exact(I9.pin (b,o) (List.mem_append_right _ (List.mem_append_right _ (xX j e)))).2.1
   refine thn (ht _ _ _ _ _ s8 σ8 H8 _ I8 q8) λb s9 hh9=>?_
   obtain⟨H9,I9,q9⟩:=hh9
   cases b with
   | false =>
    rw[if_neg Bool.false_ne_true]at q9
    rw[if_neg Bool.false_ne_true]
    exact G I9 O q9
   | true =>
    rw[if_pos rfl]at q9
    rw[if_pos rfl]
    refine thn (he _ _ _ _ _ s9 σ8 H9 _ I9 q9) λy K hh9=>?_
    obtain⟨yv,H10,I10,d5,U,e0⟩:=hh9
    obtain⟨e8,F,k,rv,d7⟩:N.length<=sizeLine/\∃ (F:List Value) (n:Nat),zT N F/\K.heap.get? l.heap.objs.size=some { cls:=.type "list",data:=.seq F.toArray n }:=I10.hok _ _ U
    have b8:K.heap.PlainList l.heap.objs.size F.toArray:=⟨k,d7⟩
    refine wpAny_list_append_plain (hsz:=by rw[List.size_toArray,<- rv.length];exact e8) b8 λe6 c6 c0=>?_
    obtain⟨k',b7⟩:=c6
    have I11:Inv Y ([]++ZV A s7.heap) σ8 (upd H10 l.heap.objs.size (.lst (N++[yv]))) { K with heap:=e6 }:=by
     refine I10.write (x:=l.heap.objs.size) (e:=l.heap.objs.size) (t':=K.toks) (by rw[U];exact True.intro) (.inl rfl) (λb u j e=>(c0.2 b j).trans e) ⟨_,b7⟩ ?_
     refine⟨by rw[List.length_append];show N.length+1<=sizeLine;exact b6,F++[y],k',rv.append (.cons d5 .nil),?_⟩
     rw[b7]
     simp
    exact G I11 O e0
 exact codeAny_compStart_list E (T.self _ 0 _ _ _ c7 E)
theorem zgp {X:Cx}{e j b:Expr}{d:List Expr}{L M:List Str}{a:Scope}{i:List (Str × Addr)}{k:Pos}{o:TI}{g:TG}{r:TT}{p:TE}
 (t:X.calm=true) (S:yS X L M a i) (A:PI X j b o)
 (l:∀ (σ:St) (v:V) (H:Hp) (Q:St->Hp->Prop),g v (List.replicate L.length none++σ) H Q->g v (List.replicate L.length none++σ) H (λn H2=>v2 (List.replicate L.length none++σ) n/\Q n H2))
 (B:∀ s₀ H₀ ex pn,PG (YD X L M a i s₀ H₀ ex pn) j g) (z:∀ s₀ H₀ ex pn,PIf (YD X L M a i s₀ H₀ ex pn) d r) (E:∀ s₀ H₀ ex pn,PE (YD X L M a i s₀ H₀ ex pn) e p)
 (w:∀ x,foldedSetIterable b X.env x=pure x:=by intro _;rfl) :
 PE X (.ListComp e [⟨j,b,d,0⟩] a k) (tLC o L.length g r p):=by
 intro c s σ H Q I h
 rw[eval_ListComp]
 refine zce t S A l B z E w _ c s σ H Q I h λD C H' F I' ⟨m,u⟩ f q=>⟨m,u,λG y=>⟨.ref D,_,I'.letGo f y,rfl,q⟩⟩
theorem zjP {i:Nat}{x:Str}{r p:Pos}{X:Cx}{l t c:Expr}{k:List Expr}{L M:List Str}{a:Scope}{w:List (Str × Addr)}{j:Pos}{N:TI}{g:TG}{P:TT}{O:TE}
 (W:X.N.Nodup) (B:X.N[i]?=some x) (Y:Loc X.env.scope x) (U:X.calm=true) (S:yS X L M a w) (hi:PI X t c N)
 (G:∀ (σ:St) (v:V) (H:Hp) (Q:St->Hp->Prop),g v (List.replicate L.length none++σ) H Q->g v (List.replicate L.length none++σ) H (λy H2=>v2 (List.replicate L.length none++σ) y/\Q y H2))
 (hg:∀ s₀ H₀ ex pn,PG (YD X L M a w s₀ H₀ ex pn) t g) (ht:∀ s₀ H₀ ex pn,PIf (YD X L M a w s₀ H₀ ex pn) k P) (he:∀ s₀ H₀ ex pn,PE (YD X L M a w s₀ H₀ ex pn) l O)
 (hs:∀ x,foldedSetIterable c X.env x=pure x:=by intro _;rfl)
 (F:swapsWith (.ListComp l [⟨t,c,k,0⟩] a j) (some (.Name x r)) p.line X.env=pure true:=by rfl)
 (Z:X.fn x=true\/X.env.scope.names.lookup x=some .local:=by first | exact .inl rfl | exact .inr rfl | assumption) :
 PS X (.Assign [.Name x r] (.ListComp l [⟨t,c,k,0⟩] a j) p) (zk2 (tLC N L.length g P O) (ZN i)):=by
 intro n s σ H D I h
 rw[exec_Assign_Name_used _ _ _ _ F]
 refine wpAny_bind (wpAny_standAt (wpAny_bind ?_))
 show wpAny _ X.A (do let _<-comprehension (.ListComp l [⟨t,c,k,0⟩] a j) a X.env _ (newList []) false (eval c X.env) (some (assign (.Name x r) X.env))) _ _ s
 refine wpAny_bind (thn (zce (use:=some (assign (.Name x r) X.env)) (Qf:=λ_ u=>SP X n D .next u) U S hi G hg ht he hs _ n s σ H _ I h λD' C H' u I' ⟨m,J⟩ f q=>?_) λ_ u T=>wpAny_pure (wpAny_pure T))
 have E:∀ b∈[C],∃ o,u.heap.get? b=some o/\∀ v,o.data≠.cell v:=λb A=>by
  rw[List.mem_singleton.mp A]
  obtain⟨o,R,K,e,d,_⟩:=J
  exact⟨o,e,λv z=>by rw[z]at d;cases d⟩
 have I2:=I'.pinned (fp:=[C]) (λb A=>by rw[List.mem_singleton.mp A];exact f) E
 refine thn (xh (pos:=r) W B Y Z _ u σ H' (.ref D') (.ref D') _ I2 rfl q) λ_ s2 hh9=>?_
 obtain⟨y,H2,I3,q3⟩:=hh9
 obtain⟨o,R,K,e,d⟩:=J
 have pn:=I3.pin (C,o) (List.mem_append_right _ (List.mem_append_right _ (xX (List.mem_singleton.mpr rfl) e)))
 exact⟨m,⟨o,R,K,pn.1,d⟩,λh' sb=>⟨y,H2,I3.unpinned.letGo ⟨pn.2.1,f.2⟩ sb,q3⟩⟩
noncomputable def wL (names a dn:List (Str × NameKind))(N M b:List Str):Bool :=
 names.all (λy=>decide (y.2≠.cell))&&names.all (λy=>decide (y.2=.local->names.lookup y.1=some .local)) &&
 a.all (λy=>decide ((y.2=.cell\/y.2=.free)->y.1∈b)) &&
 (M.length == N.length)&&(M.zip N).all (λp=>decide ((a.lookup p.1=some .local\/a.lookup p.1=some .cell\/a.lookup p.1=some .free)->p.1=p.2)) &&
 M.all (λy=>decide ((a.lookup y=some .local\/a.lookup y=some .cell\/a.lookup y=some .free) ->
  (a.lookup y=some .cell\/a.lookup y=some .free)/\(dn.lookup y=some .local\/dn.lookup y=some .cell\/dn.lookup y=some .free)/\dn.lookup y≠some .local))
theorem Zz {X:Cx}{L N M k:List Str}{a:Scope}{j:List (Str × Addr)}{r dn:List (Str × NameKind)}(f:(relabel a X.env).names=r)(m:X.env.scope.names=dn)(q:X.N=N)
 (d:closureFor a X.env=pure j) (kind:a.kind=.function) (A:j.map Prod.fst=k) (b:wL a.names r dn N M k=true) (l:∀ p∈j,X.env.cells.lookup p.1=some p.2):yS X L M a j:=by
 unfold wL at b
 simp only[Bool.and_eq_true,List.all_eq_true,decide_eq_true_eq]at b
 obtain⟨⟨⟨⟨⟨z,g2⟩,s⟩,g⟩,u⟩,o⟩:=b
 have g:M.length=N.length:=by simpa using g
 refine⟨d,z,kind,g2,λy c h=>l (y,c) (PySem.mem_of_lookup h),λy h=>?_,by rw[q];exact g,λi y e v=>?_,λi y e v=>?_,λi y e v=>?_⟩
 .rw[f]at h
  have x:y∈k:=by
   rcases h with h | h
   .exact s _ (PySem.mem_of_lookup h) (.inl rfl)
   .exact s _ (PySem.mem_of_lookup h) (.inr rfl)
  exact w8 (by rw[A];exact x)
 .unfold Vis at v
  rw[f]at v
  have B:=(List.getElem?_eq_some_iff.mp e).1
  have n:i < N.length:=by rw[<-g];exact B
  have t:(M.zip N)[i]?=some (y,N[i]):=by
   rw[List.getElem?_zip_eq_some]
   exact⟨e,List.getElem?_eq_getElem n⟩
  have:=u _ (List.mem_of_getElem? t) v
  rw[q,List.getElem?_eq_getElem n]
  exact congrArg some this.symm
 .unfold Vis at v
  rw[f]at v ⊢
  exact(o y (List.mem_of_getElem? e) v).1
 .unfold Vis at v
  rw[f]at v
  obtain⟨_,C,w⟩:=o y (List.mem_of_getElem? e) v
  refine⟨?_,?_⟩
  .unfold Vis;rw[m];exact C
  .show X.env.scope.names.lookup y≠_;rw[m];exact w
end L2
namespace PySem
open Sem (wp)
open AutoSeq1 (wpAny_loadPart')
section
variable {prog:Program}{w:World}{A:Around}{E:Value->Shared->Prop}{s:Shared}
theorem wu {a l:Addr}{i:Nat}{items}{x:Value}{Q:Value->Shared->Prop}(hit:s.heap.IsTupleIter a l i)
 (hl:s.heap.IsTuple l items) (hx:items[i]?=some x)
 (hQ:∀ d,d.IsTupleIter a l (i+1)->Heap.SameBut a s.heap d->Q x { s with heap:=d }) :
 wpAny (model prog w) A (Builtin.SmallTypes.nextOf (.ref a)) Q E s:=by
 obtain⟨o,c,g,b⟩:=id hit
 obtain⟨h,e,_,j,f⟩:=hl
 unfold Builtin.SmallTypes.nextOf
 refine wpAny_bind (wpAny_callSpecial?_slot (name:=Str.ofString "__next__") hit.typeIs F.slot_tuple_iterator_next
  (wpAny_call_entry F.slot_tuple_iterator_next hit.typeIs F.entry_tuple_iterator_next ?_ (F.args_tuple_iterator_next_1 _)))
 show wpAny _ _ (field (.ref a) 0>>=_) _ _ s
 refine wpAny_bind (wpAny_field c b (x:=.ref l) rfl ?_)
 show wpAny _ _ (if (Value.ref l == Value.none)=true then _ else _) _ _ s
 rw[if_neg (show ¬ ((Value.ref l == Value.none)=true)from Bool.false_ne_true)]
 show wpAny _ _ (field (.ref a) 1>>=_) _ _ s
 refine wpAny_bind (wpAny_field c b (x:=.int i 0) rfl ?_)
 show wpAny _ _ (seqItems? (.ref l)>>=_) _ _ s
 refine wpAny_bind (wpAny_seqItems e f ?_)
 simp only[Int.toNat_natCast,hx]
 refine wpAny_bind (wpAny_setField c b (by simp) (wpAny_pure ⟨x,rfl,wpAny_pure (hQ _ ?_ (Heap.SameBut.update ..))⟩))
 exact⟨_,Heap.get?_update_self _ c (Obj.isFreed_of_fields (Obj.data_mapFields b _)),(Obj.cls_mapFields ..).trans g,by
  rw[Obj.data_mapFields b];simp[rawInt]⟩
theorem xp {b l:Addr}{i:Nat}{items}{Q:Value->Shared->Prop}(hh:A.handled=none)
 (hit:s.heap.IsTupleIter b l i) (hl:s.heap.IsTuple l items) (hx:items[i]?=none)
 (hE:∀ f e,Heap.ExtBut b s.heap f->(∃ o,f.get? e=some o/\o.cls=.type "StopIteration")->E (.ref e) { s with heap:=f }) :
 wpAny (model prog w) A (Builtin.SmallTypes.nextOf (.ref b)) Q E s:=by
 obtain⟨o,c,k,d⟩:=id hit
 obtain⟨j,g,_,n,h⟩:=hl
 unfold Builtin.SmallTypes.nextOf
 refine wpAny_bind (wpAny_callSpecial?_slot (name:=Str.ofString "__next__") hit.typeIs F.slot_tuple_iterator_next
  (wpAny_call_entry F.slot_tuple_iterator_next hit.typeIs F.entry_tuple_iterator_next ?_ (F.args_tuple_iterator_next_1 _)))
 show wpAny _ _ (field (.ref b) 0>>=_) _ _ s
 refine wpAny_bind (wpAny_field c d (x:=.ref l) rfl ?_)
 show wpAny _ _ (if (Value.ref l == Value.none)=true then _ else _) _ _ s
 rw[if_neg (show ¬ ((Value.ref l == Value.none)=true)from Bool.false_ne_true)]
 show wpAny _ _ (field (.ref b) 1>>=_) _ _ s
 refine wpAny_bind (wpAny_field c d (x:=.int i 0) rfl ?_)
 show wpAny _ _ (seqItems? (.ref l)>>=_) _ _ s
 refine wpAny_bind (wpAny_seqItems g h ?_)
 simp only[Int.toNat_natCast,hx]
 refine wpAny_bind (wpAny_rule (wpAny_bind (wpAny_setField c d (by simp) ?_)))
 show wpAny _ _ (newExc (.type "StopIteration") []>>=_) _ _ _
 refine wpAny_bind ?_
 simp only[newExc,newTuple]
 refine wpAny_bind (wpAny_newObj_type ?_ (by size_fits))
 refine wpAny_bind (m:=firstArgMember _ _) (wpAny_of_eq (a:=Value.none) (by first | rfl | (simp only[firstArgMember];rfl)) ?_)
 refine wpAny_newObj_type ?_ (by size_fits)
 simp only[raiseNew]
 refine wpAny_bind (wpAny_handled ?_)
 first | rw[show A.in1.handled=none from hh] | rw[hh]
 refine wpAny_bind (wpAny_pure (wpAny_throw ?_))
 exact hE _ _ (((Heap.SameBut.update ..).extBut.push _).push _) ⟨_,Heap.get?_push_size _ rfl,rfl⟩
end
theorem wS {c:Program}{w:World}{A:Around}{E:Value->Shared->Prop}{s:Shared}{e d l:Addr}{i:Nat}{a:Array Value}{j:Value}{Q:Option Value->Shared->Prop}(p:A.handled=none)
 (m:IsEnum s.heap e d i j) (h:s.heap.IsTupleIter d l i) (v:s.heap.IsTuple l a) (r:a[i]?=none)
 (q:∀ f,Heap.ExtBut d s.heap f->Q none { s with heap:=f }):wpAny (model c w) A (pyNext (.ref e)) Q E s:=by
 have n:s.TypeIs (.ref e) "enumerate":=⟨_,m,rfl⟩
 unfold pyNext
 refine wpAny_bind (wpAny_attempt (wpAny_callSpecial?_slot (name:=Str.ofString "__next__") n F.slot_enumerate_next
  (wpAny_call_entry F.slot_enumerate_next n F.entry_enumerate_next ?_ (F.args_enumerate_next_1 _))))
 show wpAny _ _ (field (.ref e) 2>>=_) _ _ _
 refine wpAny_bind (wpAny_field m rfl (x:=.ref d) rfl ?_)
 refine wpAny_bind (xp p h v r λf x g k=>?_)
 obtain⟨o,t,u⟩:=k
 refine wpAny_bind (wpAny_isInstance (T:="StopIteration") (b:=true) ⟨o,t,u⟩ isSubtype_stop ?_)
 exact wpAny_pure (q _ g)
theorem YM {prog:Program}{w:World}{A:Around}(hh:A.handled=none)(it l:Addr)(hne:l≠it)(items:Array Value) :
 Draws prog w A it [it,l] items.size (λi v=>items[i]?=some v) (λi h=>h.IsTupleIter it l i/\h.IsTuple l items) where
 live:=λ_ _ st=>let ⟨o,ho,_⟩:=st.1;⟨o,ho⟩
 frame:=λ_ _ _ st hk=>by
  obtain⟨⟨o,ho,r⟩,⟨o2,ho2,r2⟩⟩:=st
  exact⟨⟨o,hk it (by simp) o ho,r⟩,⟨o2,hk l (by simp) o2 ho2,r2⟩⟩
 item:=λi s Q E hi st hQ=>by
  refine wu st.1 st.2 (x:=items[i]) (by simp[hi]) λh' hit' hs'=>?_
  exact hQ _ h' s.toks (by simp[hi]) ⟨hit',st.2.extBut hs'.extBut hne⟩ hs'
 done:=λs Q E st hE=>xp hh st.1 st.2 (by simp) hE
theorem vn (l:Addr)(a:Array Value)(n:Nat)(j:Option Addr)(m:Array (Option Value)) :
 Meets (Builtin.«enumerate.__new__» ⟨[.type "enumerate",.ref l],[]⟩) (λ_ R s=>s.heap.get? l=some { cls:=.type "tuple",dict:=j,data:=.seq a n,slots:=m } /\
  R (.ok (.ret (.ref (s.heap.push { cls:=.type "tuple_iterator",data:=.fields #[.ref l,.int 0 0] }).objs.size)))
   { s with heap:=(s.heap.push { cls:=.type "tuple_iterator",data:=.fields #[.ref l,.int 0 0] }).push { cls:=.type "enumerate",data:=.fields #[.none,.bool false,.ref s.heap.objs.size,rawInt 0,.none,.none] } }) :=
 .of_wp λf w A R s h=>by
  obtain⟨o,g,d,k,os⟩:=s;obtain⟨b,h⟩:=h
  have i:=sub_enumerate
  have e:Heap.IsTuple (Shared.heap ⟨o,g,d,k,os⟩) l a:=⟨_,b,rfl,n,rfl⟩
  wp_walk using wpAny_loadPart' b
  refine wpAny_stack_any λp=>wpAny_pure ?_
  split
  .rename_i c _ _ _ _ _
   cases (c == Value.type "enumerate")
   .wp_walk using wpAny_loadPart' b,wpAny_pyIter_tuple e
    exact⟨_,rfl,h⟩
   .wp_walk using wpAny_loadPart' b,wpAny_pyIter_tuple e
    exact⟨_,rfl,h⟩
  .wp_walk using wpAny_loadPart' b,wpAny_pyIter_tuple e
   exact⟨_,rfl,h⟩
section
variable {prog:Program}{w:World}{A:Around}{E:Value->Shared->Prop}{s:Shared}
theorem wV {l:Addr}{a:Array Value}{Q:Value->Shared->Prop}
 (m:s.heap.IsTuple l a)
 (h:∀ c,IsEnum c (s.heap.objs.size+1) s.heap.objs.size 0 .none->c.IsTupleIter s.heap.objs.size l 0->c.objs.size=s.heap.objs.size+2 ->
  (∀ b o,s.heap.get? b=some o->c.get? b=some o)->Q (.ref (s.heap.objs.size+1)) { s with heap:=c }) :
 wpAny (model prog w) A (call (.type "enumerate") [.ref l]) Q E s:=by
 obtain⟨⟨cls,i,data,k⟩,j,f,n,e⟩:=m
 simp only at f e
 subst f e
 refine callType_new F.called_enumerate (by decide) (F.typeCall_enumerate_1 _) (F.newCall_enumerate_1 _) (λobj=>F.args_object_init_2 obj _) F.entry_enumerate_new
  (vn l a n i k) ⟨j,?_⟩
 have d:(s.heap.push { cls:=.type "tuple_iterator",data:=.fields #[.ref l,.int 0 0] }).objs.size=s.heap.objs.size+1:=Heap.size_push ..
 show _/\_
 rw[d]
 have g:IsEnum ((s.heap.push { cls:=.type "tuple_iterator",data:=.fields #[.ref l,.int 0 0] }).push
  { cls:=.type "enumerate",data:=.fields #[.none,.bool false,.ref s.heap.objs.size,rawInt 0,.none,.none] }) (s.heap.objs.size+1) s.heap.objs.size 0 .none:=by
  have:=Heap.get?_push_size (s.heap.push { cls:=.type "tuple_iterator",data:=.fields #[.ref l,.int 0 0] })
   (o:={ cls:=.type "enumerate",data:=.fields #[.none,.bool false,.ref s.heap.objs.size,rawInt 0,.none,.none] }) rfl
  rw[d]at this;exact this
 refine⟨⟨_,g,rfl⟩,h _ g ⟨_,Heap.get?_push_of_some _ (Heap.get?_push_size _ rfl),rfl,rfl⟩ (by rw[Heap.size_push,d]) λb o x=>Heap.get?_push_of_some _ (Heap.get?_push_of_some _ x)⟩
end
end PySem
namespace L2
open PySem PySem.Spec PyProof.Rows
section
variable {X:Cx}{pins:List (Addr × Obj)}{σ:St}{H:Hp}{s:Shared}{h':Heap}
theorem Inv.grown {ch:List Addr}{T:Addr}{o:HO}{B:Nat}(I:Inv X pins σ H s)(d:∀ b∈ch,zbO X pins H b)(t:s.heap.objs.size<=T)(k:∀ b u,b∉ch->s.heap.get? b=some u->h'.get? b=some u)
 (j:yb X.prog X.w (upd H T o) h' T o):Inv X pins σ (upd H T o) { s with heap:=h',toks:=B }:=by
 have g:H T=none:=I.hok.fresh t
 have i:∀ b u,s.heap.get? b=some u->b≠T:=λb u e=>Nat.ne_of_lt (Nat.lt_of_lt_of_le (Heap.lt_size e) t)
 have f:∀ b u,H b=some u->b∉ch:=λb u e z=>by rw[(d b z).1]at e;cases e
 refine I.step (g':=s.gens) (d':=s.drawn) (ch:=ch) (λb h=>?_) (λb u _ _ a e _=>k b u a e) (λb u _ _ a e _=>⟨u.slots,k b u a e⟩) (λb u _ e n=>by rw[ze (i b u e)];exact n)
  (λb u a e=>⟨u,k b u a e⟩) (λb p e=>by rw[ze (zd e g)];exact e) (λb u p e=>by rw[ze (zd e g)];exact e) (λb G e=>⟨#[],by rw[ze (zd e g),e];simp⟩) (λm F=>?_) (λb u e=>?_) I.bare
 .obtain⟨_,A,_,E,y,C⟩:=d b h
  exact⟨E,A,y,C⟩
 .obtain⟨l,D,w,x,r⟩:=F
  exact⟨l,D,w,k _ l (λz=>(d _ z).2.1 rfl) x,r⟩
 .by_cases h:b=T
  .subst h;rw[zf]at e;cases e;exact j
  .rw[ze h]at e
   refine(I.hok b u e).stay (λc v a q=>k c v ?_ q) (λc q=>by rw[ze (zd q g)];exact q) λc p q=>by rw[ze (zd q g)];exact q
   rcases a with z | z
   .rw[z];exact f b u e
   .exact f c _ z
theorem Inv.turnedN {ch:List Addr}{t':Nat}(I:Inv X pins σ H s)(a:∀ b∈ch,zbO X pins H b)(k:∀ b u,b∉ch->s.heap.get? b=some u->h'.get? b=some u):Inv X pins σ H { s with heap:=h',toks:=t' }:=by
 have f:∀ b u,H b=some u->b∉ch:=λb u e z=>by rw[(a b z).1]at e;cases e
 refine I.step (g':=s.gens) (d':=s.drawn) (ch:=ch) (λb w=>?_) (λb u _ _ d e _=>k b u d e) (λb u _ _ d e _=>⟨u.slots,k b u d e⟩) (λb u _ e n=>n)
  (λb u d e=>⟨u,k b u d e⟩) (λb h e=>e) (λb u h e=>e) (λb A e=>⟨#[],by rw[e];simp⟩) (λm y=>?_) (λb u e=>?_) I.bare
 .obtain⟨_,p,_,x,o,j⟩:=a b w
  exact⟨x,p,o,j⟩
 .obtain⟨g,l,i,t,r⟩:=y
  exact⟨g,l,i,k _ g (λz=>(a _ z).2.1 rfl) t,r⟩
 .refine(I.hok b u e).stay (λc v d q=>k c v ?_ q) (λc q=>q) λc h q=>q
  rcases d with z | z
  .rw[z];exact f b u e
  .exact f c _ z
end
noncomputable def Iel (K:W.Frag)(a:Addr):It :=
 ⟨λi H=>∃ b x,SqL K H a b/\b[i]?=some x,λi H v H'=>∃ T x,v=.ref T/\H T=none/\H'=upd H T (.tup [.int i,x])/\∀ b,SqL K H a b->b[i]?=some x,λi H=>∃ b,SqL K H a b/\b.length<=i⟩
noncomputable def Iet (K:W.Frag)(a:Addr):It :=
 ⟨λi H=>∃ b x,SqT K H a b/\b[i]?=some x,λi H v H'=>∃ T x,v=.ref T/\H T=none/\H'=upd H T (.tup [.int i,x])/\∀ b,SqT K H a b->b[i]?=some x,λi H=>∃ b,SqT K H a b/\b.length<=i⟩
theorem zbp {P:Program}{w:World}{K:W.Frag}{es:List Expr}{k:Nat}{tp:Pos}(a e it:Addr)(hne:e≠it) :
 ziV P w K (.Tuple es k tp) (Iel K a) [e,it] e (λi h=>(∃ old,IsEnum h e it i old)/\h.IsListIter it a i) where
 mem:=by simp
 obj:=λi h st b hb=>by
  obtain⟨⟨old,he⟩,o,ho,_,hd⟩:=st
  rcases List.mem_cons.mp hb with rfl | hb
  .exact⟨_,he,λv z=>by cases z⟩
  .rw[List.mem_singleton.mp hb]
   exact⟨o,ho,λv z=>by rw[hd]at z;cases z⟩
 keep:=λi h h' st kk=>by
  obtain⟨⟨old,he⟩,hit⟩:=st
  exact⟨⟨old,kk e (by simp) _ he⟩,hit.at λo q=>kk it (by simp) o q⟩
 item:=by
  intro X hP hw hK hc i pins s σ H E I hf st hg
  subst hP hw hK
  obtain⟨⟨old,he⟩,hit⟩:=st
  obtain⟨xs,x,hq,hx⟩:=hg
  obtain⟨its,rv,p,hz⟩:=I.list hq
  obtain⟨u,hu,ru⟩:=rv.get hx
  refine wpAny_pyNext_enum_item he hit p.isList (x:=u) (by simpa using hu) hne λh1 ho1 hit1 hT1 hz1 hk1=>?_
  refine⟨_,rfl,wpAny_letOwnedTupleGo_enum ho1 λh2 he2 hs2=>?_⟩
  have hfr:H s.heap.objs.size=none:=I.hok.fresh (Nat.le_refl _)
  have neE:s.heap.objs.size≠e:=Nat.ne_of_gt (Heap.lt_size he)
  have hT2:h2.get? s.heap.objs.size=some { cls:=.type "tuple",data:=.seq #[.int i s.toks,u] }:=(hs2.2 _ neE).trans hT1
  refine⟨.ref s.heap.objs.size,upd H s.heap.objs.size (.tup [.int i,x]),?_,rfl,⟨_,x,rfl,hfr,rfl,λys hy=>by rw[I.list_inj hy hq];exact hx⟩,⟨⟨_,by simpa using he2⟩,hit1.at λo q=>(hs2.2 it (Ne.symm hne)).trans q⟩,λb hb=>?_⟩
  .refine I.grown (ch:=[e,it]) hf (Nat.le_refl _) (λb v hb q=>?_) ?_
   .have n1:b≠e:=λz=>hb (by simp[z])
    have n2:b≠it:=λz=>hb (by simp[z])
    exact(hs2.2 b n1).trans (hk1 b v n1 n2 q)
   .exact⟨by show 2<=sizeLine;decide,[.int i s.toks,u],.cons ⟨_,rfl⟩ (.cons ru .nil),⟨_,hT2,rfl,0,rfl⟩⟩
  .obtain⟨o,hb2,_⟩:∃ o,s.heap.get? b=some o/\True:=by
    rcases List.mem_cons.mp hb with rfl | hb
    .exact⟨_,he,trivial⟩
    .rw[List.mem_singleton.mp hb]
     obtain⟨o,ho,_⟩:=hit
     exact⟨o,ho,trivial⟩
   rw[ze (Nat.ne_of_lt (Heap.lt_size hb2))]
   exact(hf b hb).1
 done:=by
  intro X hP hw hK hc i pins s σ H E I hf st hg
  subst hP hw hK
  obtain⟨⟨old,he⟩,hit⟩:=st
  obtain⟨xs,hq,hx⟩:=hg
  obtain⟨its,rv,p,hz⟩:=I.list hq
  have hl:=rv.length
  exact wpAny_pyNext_enum_end (I.ok.hd hc) he hit p.isList (by simp;omega) λh1 hx1=>⟨rfl,I.turnedN (ch:=[e,it]) (t':=s.toks) hf λb v hb q=>hx1 b v (λz=>hb (by simp[z])) q⟩
 self:=λ_ _ _ _ _ st h=>wpAny_pyIter_enum st.1.choose_spec h
theorem zbC {P:Program}{w:World}{K:W.Frag}{es:List Expr}{k:Nat}{tp:Pos}(a e it:Addr)(hne:e≠it)(hai:a≠it)(hae:a≠e) :
 ziV P w K (.Tuple es k tp) (Iet K a) [e,it] e (λi h=>(∃ old,IsEnum h e it i old)/\h.IsTupleIter it a i) where
 mem:=by simp
 obj:=λi h st b hb=>by
  obtain⟨⟨old,he⟩,o,ho,_,hd⟩:=st
  rcases List.mem_cons.mp hb with rfl | hb
  .exact⟨_,he,λv z=>by cases z⟩
  .rw[List.mem_singleton.mp hb]
   exact⟨o,ho,λv z=>by rw[hd]at z;cases z⟩
 keep:=λi h h' st kk=>by
  obtain⟨⟨old,he⟩,o,ho,r⟩:=st
  exact⟨⟨old,kk e (by simp) _ he⟩,o,kk it (by simp) o ho,r⟩
 item:=by
  intro X hP hw hK hc i pins s σ H E I hf st hg
  subst hP hw hK
  obtain⟨⟨old,he⟩,hit⟩:=st
  obtain⟨xs,x,hq,hx⟩:=hg
  obtain⟨its,rv,p,hz⟩:=I.tuple hq
  obtain⟨u,hu,ru⟩:=rv.get hx
  have p':s.heap.IsTuple a its.toArray:=p
  have D:=YM (prog:=X.prog) (w:=X.w) (A:=X.A.in1) (I.ok.hd hc) it a hai its.toArray
  have hlt:i < its.toArray.size:=by
   obtain⟨h1,_⟩:=List.getElem?_eq_some_iff.mp hu
   simpa using h1
  refine wpAny_pyNext_enum_itemD D he ⟨hit,p'⟩ hlt hne (by simp[hne,Ne.symm hae]) λu' h1 tk hP1 ho1 hit1 hT1 hz1 hk1=>?_
  have eu:u'=u:=by
   have:its[i]?=some u':=by simpa using hP1
   rw[hu]at this
   exact(Option.some.inj this).symm
  subst eu
  refine⟨_,rfl,wpAny_letOwnedTupleGo_enum ho1 λh2 he2 hs2=>?_⟩
  have hfr:H s.heap.objs.size=none:=I.hok.fresh (Nat.le_refl _)
  have neE:s.heap.objs.size≠e:=Nat.ne_of_gt (Heap.lt_size he)
  have hT2:h2.get? s.heap.objs.size=some { cls:=.type "tuple",data:=.seq #[.int i tk,u'] }:=(hs2.2 _ neE).trans hT1
  refine⟨.ref s.heap.objs.size,upd H s.heap.objs.size (.tup [.int i,x]),?_,rfl,⟨_,x,rfl,hfr,rfl,λys hy=>by rw[I.tuple_inj hy hq];exact hx⟩,⟨⟨_,by simpa using he2⟩,?_⟩,λb hb=>?_⟩
  .refine I.grown (ch:=[e,it]) hf (Nat.le_refl _) (λb v hb q=>?_) ?_
   .have n1:b≠e:=λz=>hb (by simp[z])
    have n2:b≠it:=λz=>hb (by simp[z])
    exact(hs2.2 b n1).trans (hk1 b v n1 n2 q)
   .exact⟨by show 2<=sizeLine;decide,[.int i tk,u'],.cons ⟨_,rfl⟩ (.cons ru .nil),⟨_,hT2,rfl,0,rfl⟩⟩
  .obtain⟨o,ho,r⟩:=hit1.1
   exact⟨o,(hs2.2 it (Ne.symm hne)).trans ho,r⟩
  .obtain⟨o,hb2,_⟩:∃ o,s.heap.get? b=some o/\True:=by
    rcases List.mem_cons.mp hb with rfl | hb
    .exact⟨_,he,trivial⟩
    .rw[List.mem_singleton.mp hb]
     obtain⟨o,ho,_⟩:=hit
     exact⟨o,ho,trivial⟩
   rw[ze (Nat.ne_of_lt (Heap.lt_size hb2))]
   exact(hf b hb).1
 done:=by
  intro X hP hw hK hc i pins s σ H E I hf st hg
  subst hP hw hK
  obtain⟨⟨old,he⟩,hit⟩:=st
  obtain⟨xs,hq,hx⟩:=hg
  obtain⟨its,rv,p,hz⟩:=I.tuple hq
  have hl:=rv.length
  have p':s.heap.IsTuple a its.toArray:=p
  exact wS (I.ok.hd hc) he hit p' (by simp;omega) λh1 hx1=>⟨rfl,I.turnedN (ch:=[e,it]) (t':=s.toks) hf λb v hb q=>hx1 b v (λz=>hb (by simp[z])) q⟩
 self:=λ_ _ _ _ _ st h=>wpAny_pyIter_enum st.1.choose_spec h
noncomputable def zl1 (K:W.Frag)(d:TA):TI:=fun σ H R=>d σ H λc H1=>∃ a,c=[.ref a]/\((∃ b,H1 a=some (.lst b)/\R (Iel K a) H1)\/(∃ b,SqT K H1 a b/\R (Iet K a) H1))
theorem zhc {X:Cx} {L:List Expr} {k:Nat} {C:Pos} {a:Expr} {z:TA} {p j:Pos} (N:Gl X "enumerate") (O:X.mg "enumerate"=none) (g:bootBuiltins "enumerate"=some (.type "enumerate")) (M:PA X [a] z)
 (P:starEach [a] X.env=[(false,eval a X.env)]:=by rfl):PI X (.Tuple L k C) (.Call (.Name "enumerate" p) [a] [] j) (zl1 X.K z):=by
 intro c s σ H R I h
 refine Call_ (Z5 I N O g (PyProof.Rows.callWith_type1 (thn (M j c s σ H _ I h) λQ f hh9=>?_) P rfl))
 obtain⟨S,H1,I1,K,F⟩:=hh9
 obtain⟨l,e,q⟩:=F
 subst e
 obtain⟨u,rfl,J⟩:=YS K
 cases J
 have B:∀ b,f.heap.objs.size<=b->zbO X c H1 b:=λb g=>I1.fpOk g (I1.hok.fresh g)
 have m:f.heap.objs.size+1≠f.heap.objs.size:=by omega
 have t:∀ b∈[f.heap.objs.size+1,f.heap.objs.size],zbO X c H1 b:=λb g=>by
  rcases List.mem_cons.mp g with rfl | g
  .exact B _ (Nat.le_succ _)
  .rw[List.mem_singleton.mp g];exact B _ (Nat.le_refl _)
 rcases q with ⟨w,x,q⟩ | ⟨w,x,q⟩
 .obtain⟨_,d,n,_,e⟩:w.length<=sizeLine/\∃ (d:List Value) (n:Nat),zT w d/\f.heap.get? l=some { cls:=.type "list",data:=.seq d.toArray n }:=I1.hok _ _ x
  refine call_enumerate_1 e λG r i D v=>wpAny_pyIter_enum r ?_
  exact⟨_,_,_,_,H1,rfl,I1.kept (t':=f.toks) v,zbp l _ _ m,⟨⟨_,r⟩,i⟩,t,q⟩
 .obtain⟨d,_,y,_⟩:=I1.tuple x
  have A:l < f.heap.objs.size:=by
   obtain⟨o,E,_⟩:=y
   exact Heap.lt_size E
  refine wV (show f.heap.IsTuple l d.toArray from y) λG r i D v=>wpAny_pyIter_enum r ?_
  exact⟨_,_,_,_,H1,rfl,I1.kept (t':=f.toks) v,zbC l _ _ m (Nat.ne_of_lt A) (Nat.ne_of_lt (Nat.lt_succ_of_lt A)),⟨⟨_,r⟩,i⟩,t,q⟩
end L2
namespace HT
open PySem PyProof.Rows
noncomputable def lexLe:List Int->List Int->Bool
 | [],_=>true
 | _::_,[]=>false
 | x::xs,y::ys=>if x=y then lexLe xs ys else decide (x<=y)
theorem zbr (x y:Int)(b a:List Int):lexLe (x::b) (y::a)=if x=y then lexLe b a else decide (x<=y):=rfl
theorem zfM (A:Around)(s:Shared)(a:Int)(t:Tok)(c:Int)(u:Tok)(b:Program)(w:World)(E:Value->Shared->Prop)(Q:Value->Shared->Prop)(h:Q (.bool (decide (a<=c))) s) :
 wpAny (model b w) A (richCompare .LtE (.int a t) (.int c u)) Q E s :=
 (PyProof.Rows.le_int h:wpAny (model b w) A (compareOp .LtE (.int a t) (.int c u)) Q E s)
section
open PySem.SeqAt
open PySem.AutoSeq1 (wpAny_loadPart')
open PySem.MeetsSeq PySem.MeetsSeq2 PySem.MeetsSeq3
theorem Xu (l b:Addr)(i f:Array Value)(n X:Nat)(S L:Option Addr)(V M:Array (Option Value))(ns G:List Int)(Q:IntsAre i.toList ns)(O:IntsAre f.toList G) :
 Meets (Builtin.«tuple.__le__» ⟨[.ref l,.ref b],[]⟩)
  (λ_ R s=>s.heap.get? l=some { cls:=.type "tuple",dict:=S,data:=.seq i n,slots:=V }/\s.heap.get? b=some { cls:=.type "tuple",dict:=L,data:=.seq f X,slots:=M } /\
   R (.ok (.ret (.bool (lexLe ns G)))) s) :=
 .of_wp λv w A R s h=>by
  obtain⟨H,g,d,I,os⟩:=s;obtain⟨W,U,h⟩:=h
  have Z:=AutoSeq1.sub_tuple_tuple
  have Y:i.size=ns.length:=by rw[<-Q.length];simp
  have z2:f.size=G.length:=by rw[<-O.length];simp
  wp_walk using wpAny_loadPart' W,wpAny_loadPart' U,wpAny_forIn_list _ (λrest b K=>b.1=none/\K=⟨H,g,d,I,os⟩/\∃ (F J:List Value) (m k:List Int),rest=F.zip J /\
   IntsAre F m/\IntsAre J k/\m.length+f.size=k.length+i.size/\R (.ok (.ret (.bool (lexLe m k)))) ⟨H,g,d,I,os⟩) _
  case turn =>
   rintro⟨y,x⟩ rest b K ⟨z,rfl,F,J,m,k,o,B,C,j,p⟩
   cases B with
   | nil=>rw[List.zip_nil_left]at o;cases o
   | cons a t D =>
    cases C with
    | nil=>rw[List.zip_nil_right]at o;cases o
    | cons c u E =>
     rw[List.zip_cons_cons]at o
     injection o with hyx hrest
     injection hyx with hy hx
     subst hy hx
     rw[zbr]at p
     simp only[List.length_cons]at j
     obtain⟨e,T,r⟩:=zgj A.in1 ⟨H,g,d,I,os⟩ a t c u
     refine wpAny_bind (T v w _ _ ?_)
     cases e with
     | true =>
      rw[if_pos (r.mp rfl)]at p
      wp_walk
      exact⟨rfl,rfl,_,_,_,_,hrest,D,E,by omega,p⟩
     | false =>
      rw[if_neg (λq=>absurd (r.mpr q) Bool.false_ne_true)]at p
      have N:=zfM A.in1 ⟨H,g,d,I,os⟩ a t c u v w
      wp_walk using N
      exact⟨_,rfl,by simpa using p⟩
  case fin =>
   rintro⟨b1,b2⟩ K ⟨z,rfl,F,J,m,k,o,B,C,j,p⟩
   simp only at z
   subst z
   have P:lexLe m k=decide (i.size<=f.size):=by
    cases B with
    | nil =>
     simp only[List.length_nil]at j
     show true=_
     exact(decide_eq_true (by omega)).symm
    | cons a t P =>
     cases C with
     | nil =>
      simp only[List.length_nil,List.length_cons]at j
      show false=_
      exact(decide_eq_false (by omega)).symm
     | cons c u hw =>
      rw[List.zip_cons_cons]at o
      cases o
   rw[P]at p
   wp_walk
   exact⟨_,rfl,by simpa [Builtin.Tuple.tupleCompareSizes]using p⟩
  case h =>
   exact⟨rfl,rfl,i.toList,f.toList,ns,G,rfl,Q,O,by omega,h⟩
end
section
variable {prog:Program}{w:World}{A:Around}{E:Value->Shared->Prop}{s:Shared}
theorem le_tupInts {l b:Addr}{c a:Array Value}{ns g:List Int}{Q:Value->Shared->Prop}(B:IsTup s.heap l c)(z:IsTup s.heap b a)(y:IntsAre c.toList ns)(t:IntsAre a.toList g)
 (u:A.units < cLine) (h:Q (.bool (lexLe ns g)) s):wpAny (model prog w) A (compareOp .LtE (.ref l) (.ref b)) Q E s:=by
 obtain⟨⟨cls,r,data,v⟩,p,q,n,m⟩:=id B
 obtain⟨⟨o,i,j,k⟩,e,f,C,d⟩:=id z
 simp only at q m f d
 subst q m f d
 exact richCompare_meets_room (op:=.LtE) ⟨_,p,rfl⟩ ⟨_,e,rfl⟩ PySem.F.slot_tuple_le PySem.F.entry_tuple_le (PySem.F.args_tuple_le_2 _ _) (Xu l b c a n C r i v k ns g y t)
  ⟨p,e,show Value.bool (lexLe ns g)≠Value.notImplemented/\Q (.bool (lexLe ns g)) s from⟨(λx=>nomatch x),h⟩⟩ u
end
end HT
namespace L2
open PySem PySem.Spec PyProof.Rows
noncomputable def rLeT (K:W.Frag):R2:=λx y H Q=>∃ a b ns c,x=.ref a/\y=.ref b/\SqT K H a (ns.map V.int)/\SqT K H b (c.map V.int)/\Q (.bl (HT.lexLe ns c)) H
theorem zky {X:Cx}(l:X.A.units < cLine):OpR X (compareOp .LtE) (rLeT X.K):=by
 intro e s σ H x y v u Q I n g h
 obtain⟨a,b,ns,f,rfl,rfl,m,o,q⟩:=h
 cases n
 cases g
 obtain⟨d,j,t,_⟩:=I.tuple m
 obtain⟨c,r,i,_⟩:=I.tuple o
 have p:IntsAre d.toArray.toList ns:=xV j
 have k:IntsAre c.toArray.toList f:=xV r
 exact HT.le_tupInts t i p k l ⟨.bl (HT.lexLe ns f),H,I,rfl,q⟩
end L2
namespace HT
open PySem PyProof.Rows
section
variable {prog:Program}{w:World}{A:Around}{E:Value->Shared->Prop}{s:Shared}
theorem own_getItem_whole {t g:Addr}{a:Array Value}{l k:Value}{b e:Option Int}{Q:Value->Shared->Prop}(c:IsTup s.heap t a)(n:s.heap.IsSliceOf g l k .none)(pl:IsPart l b)(p:IsPart k e)
 (hw:sIx a.size 0 b=0/\sIx a.size a.size e=a.size) (h:Q (.ref t) s):wpAny (model prog w) A (getItem (.ref t) (.ref g)) Q E s:=by
 obtain⟨os,i,j,o⟩:=id n
 have f:s.TypeIs (.ref g) "slice":=⟨os,i,j⟩
 unfold getItem
 try with_reducible refine wpAny_holding ?_
 first | refine wpAny_bind (wpAny_pure ?_) | skip
 refine wpAny_bind (wpAny_sequenceKey c.typeIs (by decide) ?_)
 refine wpAny_bind (wpAny_callSpecial?_slot (name:=Str.ofString "__getitem__") c.typeIs PyProof.Rows.slot_tuple_getitem
  (wpAny_call_entry PyProof.Rows.slot_tuple_getitem c.typeIs entry_tuple_getitem ?_ (args_tuple_getitem _ _)))
 show wpAny _ _ (Builtin.Tuple.tupleItemsOf (.ref t)>>=_) _ _ s
 refine wpAny_bind (tupleItemsOf_ c ?_)
 refine wpAny_bind (wpAny_typeOf f ?_)
 rw[if_pos (by decide)]
 refine wpAny_bind (wj n pl p ?_)
 have d:(((sIx a.size 0 b:Nat):Int) == 0&&(1:Int) == 1&&(sIx a.size a.size e - sIx a.size 0 b) == a.size)=true:=by
  rw[hw.1,hw.2]
  simp
 show wpAny _ _ (if (((sIx a.size 0 b:Nat):Int) == 0&&(1:Int) == 1&&(sIx a.size a.size e - sIx a.size 0 b) == a.size)=true then _ else _) _ _ s
 rw[if_pos d]
 refine wpAny_bind (m:=Builtin.Tuple.tupleIsExact (.ref t)) ?_
 unfold Builtin.Tuple.tupleIsExact
 refine wpAny_bind (wpAny_typeOf c.typeIs (wpAny_pure ?_))
 rw[if_pos (by decide)]
 refine wpAny_bind (wpAny_rule ?_)
 first
  | exact wpAny_pure ⟨_,rfl,wpAny_pure h⟩
  | exact wpAny_bind (wpAny_pure (wpAny_pure ⟨_,rfl,wpAny_pure h⟩))
end
end HT
namespace OwnSort
open PySem PyProof.Rows
section pure
variable {κ:KeyKind}{xs:Array Keyed}
theorem turned {n:Nat}(a:n<=xs.size)(h:NonIncK κ xs n):SortedToK κ (mirror xs 0 n ((n - 0) / 2)) n:=λi j b c=>by
 rw[KK_mirror a,KK_mirror a,if_pos ⟨by omega,by omega⟩,if_pos ⟨by omega,by omega⟩]
 exact h _ _ (by omega) (by omega)
end pure
noncomputable abbrev Pr:=Int × Int
noncomputable def bltP (s t:Pr):Bool:=decide (s.1 < t.1\/(s.1=t.1/\s.2 < t.2))
noncomputable def TP (h:Heap) (v:Value) (t:Pr):Prop:=∃ a o n b ty,v=.ref a/\h.get? a=some o/\o.cls=.type "tuple"/\o.data=.seq #[.int t.1 b,.int t.2 ty] n
theorem TP.uniq {h:Heap}{v:Value}{s t:Pr}(x:TP h v s)(y:TP h v t):s=t:=by
 obtain⟨a,o,n,j,ty,rfl,f,_,g⟩:=x
 obtain⟨b,l,m,k,i,e,d,_,c⟩:=y
 cases e
 rw[f]at d
 cases d
 rw[g]at c
 injection c with c _
 have:=congrArg Array.toList c
 simp at this
 exact Prod.ext this.1.1 this.2.1
theorem TP.keep {h c:Heap}{v:Value}{t:Pr}(x:TP h v t)(k:∀ b o,h.get? b=some o->c.get? b=some o):TP c v t:=by
 obtain⟨a,o,n,f,ty,e,d,r⟩:=x
 exact⟨a,o,n,f,ty,e,k _ _ d,r⟩
open Classical in
noncomputable def keyP (h:Heap)(v:Value):Option Pr:=if x:∃ t,TP h v t then some x.choose else none
theorem keyP_of {h:Heap}{v:Value}{t:Pr}(x:TP h v t):keyP h v=some t:=by
 unfold keyP
 have y:∃ t,TP h v t:=⟨t,x⟩
 rw[dif_pos y,y.choose_spec.uniq x]
@[reducible] noncomputable def kindP (h:Heap):KeyKind where
 α:=Pr
 blt:=bltP
 irrefl a:=by unfold bltP;exact decide_eq_false (by omega)
 trans a b c h1 h2:=by unfold bltP at *;rw[decide_eq_true_eq]at *;omega
 negTrans a b c h:=by unfold bltP at *;rw[decide_eq_true_eq]at *;rw[decide_eq_true_eq];omega
 total a b h1 h2:=by
  unfold bltP at *
  rw[decide_eq_false_iff_not]at *
  exact Prod.ext (by omega) (by omega)
 keyOf:=keyP h
 dflt:=(0,0)
theorem zes (b:Bool)(x y:Value):keyLt' (tuples' b) x y=(do
 let xs<-Builtin.List.listItems x
 let ys<-Builtin.List.listItems y
 for ((p,q),i)in (xs.toList.zip ys.toList).zipIdx do
  if !(<- eqBool p q)then return<-oneLt' (b&&i == 0) p q
 return xs.size < ys.size):=rfl
theorem zdL (v:Value):firstOfTuple' v=(do
 if (<- typeOf v) != .type "tuple" then return none
 return (<- Builtin.List.listItems v)[0]?):=rfl
section
variable {prog:Program}{w:World}{A:Around}{E:Value->Shared->Prop}{s:Shared}
theorem lt0 {a b:Int}{t u:Tok}{Q:Bool->Shared->Prop}(h:Q (decide (a < b)) s):wpAny (model prog w) A (oneLt' false (.int a t) (.int b u)) Q E s:=by
 rw[oneLt'_eq]
 rw[if_neg Bool.false_ne_true]
 exact wpAny_bind (PyProof.Rows.lt_int (wpAny_truthy_bool h))
theorem zaG:∀ {a:List Value},(∀ f∈a,∃ i t,f=.int i t)->a.mapM typeOf=pure (a.map λ_=>Value.type "int")
 | [],_=>by simp
 | f::a,h=>by
  obtain⟨i,t,rfl⟩:=h f List.mem_cons_self
  rw[List.mapM_cons,zaG λg b=>h g (List.mem_cons_of_mem _ b),show typeOf (.int i t)=pure (.type "int")from rfl]
  simp
end
end OwnSort
namespace OwnTim
open PySem PyProof.Rows
noncomputable abbrev SM:=StateT SortSt Sem
noncomputable def gal:Bool->Keyed->Array Keyed->Nat->Nat->Nat->SM (Option Nat):=sortPriv% PySem.Builtin.gallop
noncomputable def bey (l:Bool)(q:Keyed)(v:Array Keyed)(b i:Nat):SM (Option Bool):=do
 let x<-elem' v (b+i)
 if l then lt' x q else
  return (<- lt' q x).map (!·)
noncomputable def zaT (l:Bool)(q:Keyed)(v:Array Keyed)(b n a d:Nat):SM (Option Nat):=do
 let mut x:=a
 let mut y:=d
 for _ in [0:n] do
  if x >= y then break
  let c:=x+(y - x) / 2
  let some z<-bey l q v b c | return none
  if z then x:=c+1 else y:=c
 return some y
theorem zkF (l:Bool)(q:Keyed)(v:Array Keyed)(b n t:Nat):gal l q v b n t=(do
 let some r<-bey l q v b t | return none
 let mut u:=0
 let mut o:=1
 if r then
  let w:=n - t
  for _ in [0:n] do
   if o >= w then break
   let some z<-bey l q v b (t+o) | return none
   if !z then break
   u:=o
   o:=2*o+1
  zaT l q v b n (t+u+1) (t+min o w)
 else
  let w:=t+1
  for _ in [0:n] do
   if o >= w then break
   let some z<-bey l q v b (t - o) | return none
   if z then break
   u:=o
   o:=2*o+1
  zaT l q v b n (t+1 - min o w) (t - u)):=rfl
section
variable {prog:Program}{w:World}{A:Around}{E:Value->Shared->Prop}{s:Shared}{st:SortSt}
theorem zdM {l:Bool}{q:Keyed}{v:Array Keyed}{b n t:Nat}{f:Nat->Bool}{P:Option Nat->SortSt->Prop}(BY:∀ i,i < n->∀ Q:Option Bool->SortSt->Prop,Q (some (f i)) st->wpS (model prog w) A E s (bey l q v b i) Q st)
 (K:∀ i j,i<=j->j < n->f j=true->f i=true) (R:t < n) (h:∀ k,k<=n->(∀ i,i < k->f i=true)->(∀ i,k<=i->i < n->f i=false)->P (some k) st):wpS (model prog w) A E s (gal l q v b n t) P st:=by
 have D:∀ i j,i<=j->j < n->f i=false->f j=false:=λi j M J S=>by
  cases e:f j with
  | false=>rfl
  | true=>rw[K i j M J e]at S;cases S
 rw[zkF]
 dsimp only
 have C:∀ x y:Nat,x<=y->y<=n->(∀ i,i < x->f i=true)->(∀ i,y<=i->i < n->f i=false)->wpS (model prog w) A E s (zaT l q v b n x y) P st:=λx y N X Y W=>by
  unfold zaT
  dsimp only
  refine wpS_bind (wpS_mono (wpS_forRange (I:=λi c g=>g=st/\∃ x y,c=(none,x,y)/\x<=y/\y<=n/\y - x<=n - i/\(∀ i,i < x->f i=true)/\∀ i,y<=i->i < n->f i=false) (Q:=λc g=>g=st/\∃ y,c=(none,y,y)/\y<=n/\(∀ i,i < y->f i=true)/\∀ i,y<=i->i < n->f i=false)
   (λi c g _ z p=>?_) (λc g p=>?_) ⟨rfl,x,y,rfl,N,X,by omega,Y,W⟩) λc g p=>?_)
  .obtain⟨rfl,x,y,rfl,r,m,G,d,a⟩:=p
   dsimp only
   by_cases B:x >= y
   .rw[if_pos B]
    obtain rfl:x=y:=by omega
    exact wpS_pure ⟨rfl,x,rfl,m,d,a⟩
   .rw[if_neg B]
    obtain⟨c,U⟩:∃ c,x+(y - x) / 2=c:=⟨_,rfl⟩
    rw[U]
    have c2:x<=c/\c < y:=by omega
    refine wpS_bind (BY c (by omega) _ ?_)
    dsimp only
    cases e:f c with
    | true =>
     rw[if_pos rfl]
     exact wpS_pure ⟨rfl,c+1,y,rfl,by omega,m,by omega,λj J=>K j c (by omega) (by omega) e,a⟩
    | false =>
     rw[if_neg Bool.false_ne_true]
     exact wpS_pure ⟨rfl,x,c,rfl,by omega,by omega,by omega,d,λj J H=>D c j J H e⟩
  .obtain⟨rfl,x,y,rfl,r,m,G,d,a⟩:=p
   obtain rfl:x=y:=by omega
   exact⟨rfl,x,rfl,m,d,a⟩
  .obtain⟨rfl,y,rfl,m,d,a⟩:=p
   exact wpS_pure (h y m d a)
 refine wpS_bind (BY t R _ ?_)
 dsimp only
 cases e:f t with
 | true =>
  rw[if_pos rfl]
  refine wpS_bind (wpS_mono (wpS_forRange (I:=λi c g=>g=st/\∃ u o,c=(none,u,o)/\t+u < n/\u+1<=o/\i+1<=o/\f (t+u)=true) (Q:=λc g=>g=st/\∃ u o,c=(none,u,o)/\t+u < n/\u+1<=o/\f (t+u)=true/\(n - t<=o\/(t+o < n/\f (t+o)=false)))
   (λi c g _ z p=>?_) (λc g p=>?_) ⟨rfl,0,1,rfl,R,by omega,by omega,e⟩) λc g p=>?_)
  .obtain⟨rfl,u,o,rfl,r,m,G,d⟩:=p
   dsimp only
   by_cases B:o >= n - t
   .rw[if_pos B]
    exact wpS_pure ⟨rfl,u,o,rfl,r,m,d,.inl B⟩
   .rw[if_neg B]
    refine wpS_bind (BY (t+o) (by omega) _ ?_)
    dsimp only
    cases F:f (t+o) with
    | false=>exact wpS_pure ⟨rfl,u,o,rfl,r,m,d,.inr ⟨by omega,F⟩⟩
    | true=>exact wpS_pure ⟨rfl,o,2*o+1,rfl,by omega,by omega,by omega,F⟩
  .obtain⟨rfl,u,o,rfl,r,m,G,d⟩:=p
   exact⟨rfl,u,o,rfl,r,m,d,.inl (by omega)⟩
  .obtain⟨rfl,u,o,rfl,r,m,d,a⟩:=p
   have V:min o (n - t)<=n - t:=Nat.min_le_right _ _
   have Z:u+1<=min o (n - t):=Nat.le_min.mpr ⟨m,by omega⟩
   have O:(min o (n - t)=n - t/\n - t<=o)\/(min o (n - t)=o/\t+o < n/\f (t+o)=false):=by
    rcases a with a | a
    .exact .inl ⟨Nat.min_eq_right a,a⟩
    .exact .inr ⟨Nat.min_eq_left (by omega),a⟩
   dsimp only
   refine C (t+u+1) (t+min o (n - t)) (by omega) (by omega) (λi z=>K i (t+u) (by omega) r d) λi z H=>?_
   rcases O with ⟨a,_⟩ | ⟨a,T,L⟩
   .rw[a]at z
    omega
   .rw[a]at z
    exact D (t+o) i z H L
 | false =>
  rw[if_neg Bool.false_ne_true]
  refine wpS_bind (wpS_mono (wpS_forRange (I:=λi c g=>g=st/\∃ u o,c=(none,u,o)/\u<=t/\u+1<=o/\i+1<=o/\f (t - u)=false) (Q:=λc g=>g=st/\∃ u o,c=(none,u,o)/\u<=t/\u+1<=o/\f (t - u)=false/\(t+1<=o\/(o<=t/\f (t - o)=true)))
   (λi c g _ z p=>?_) (λc g p=>?_) ⟨rfl,0,1,rfl,by omega,by omega,by omega,e⟩) λc g p=>?_)
  .obtain⟨rfl,u,o,rfl,r,m,G,d⟩:=p
   dsimp only
   by_cases B:o >= t+1
   .rw[if_pos B]
    exact wpS_pure ⟨rfl,u,o,rfl,r,m,d,.inl B⟩
   .rw[if_neg B]
    refine wpS_bind (BY (t - o) (by omega) _ ?_)
    dsimp only
    cases F:f (t - o) with
    | true=>exact wpS_pure ⟨rfl,u,o,rfl,r,m,d,.inr ⟨by omega,F⟩⟩
    | false=>exact wpS_pure ⟨rfl,o,2*o+1,rfl,by omega,by omega,by omega,F⟩
  .obtain⟨rfl,u,o,rfl,r,m,G,d⟩:=p
   exact⟨rfl,u,o,rfl,r,m,d,.inl (by omega)⟩
  .obtain⟨rfl,u,o,rfl,r,m,d,a⟩:=p
   have V:min o (t+1)<=t+1:=Nat.min_le_right _ _
   have Z:u+1<=min o (t+1):=Nat.le_min.mpr ⟨m,by omega⟩
   have O:min o (t+1)=t+1\/(min o (t+1)=o/\o<=t/\f (t - o)=true):=by
    rcases a with a | a
    .exact .inl (Nat.min_eq_right a)
    .exact .inr ⟨Nat.min_eq_left (by omega),a⟩
   dsimp only
   refine C (t+1 - min o (t+1)) (t - u) (by omega) (by omega) (λi z=>?_) λi z H=>D (t - u) i z H d
   rcases O with a | ⟨a,T,L⟩
   .rw[a]at z
    omega
   .rw[a]at z
    exact K i (t - o) (by omega) (by omega) L
end
structure WI {α:Type} (R:α->α->Prop) (xs ys o:List α) (i j:Nat):Prop where
 pi:i<=xs.length
 pj:j<=ys.length
 pm:o.Perm (xs.take i++ys.take j)
 so:o.Pairwise R
 bx:∀ z∈o,∀ x∈xs.drop i,R z x
 by_:∀ z∈o,∀ y∈ys.drop j,R z y
section
variable {α:Type}{R:α->α->Prop}{xs ys o:List α}{i j k:Nat}
theorem WI.swap (w:WI R xs ys o i j):WI R ys xs o j i:=⟨w.pj,w.pi,w.pm.trans List.perm_append_comm,w.so,w.by_,w.bx⟩
theorem WI.runA (w:WI R xs ys o i j)(q:xs.Pairwise R)(l:i+k<=xs.length)(h:∀ x∈(xs.drop i).take k,∀ y∈ys.drop j,R x y):WI R xs ys (o++(xs.drop i).take k) (i+k) j:=by
 have f:(xs.drop i).Pairwise R:=q.sublist (List.drop_sublist _ _)
 have n:xs.drop (i+k)=(xs.drop i).drop k:=by rw[List.drop_drop]
 refine⟨l,w.pj,?_,?_,λz c x d=>?_,λz c y g=>?_⟩
 .rw[List.take_add]
  refine(w.pm.append_right _).trans ?_
  rw[List.append_assoc,List.append_assoc]
  exact List.Perm.append_left _ List.perm_append_comm
 .rw[List.pairwise_append]
  exact⟨w.so,f.sublist (List.take_sublist _ _),λa m b p=>w.bx a m b (List.mem_of_mem_take p)⟩
 .rw[n]at d
  rcases List.mem_append.mp c with c | c
  .exact w.bx z c x (List.mem_of_mem_drop d)
  .have e:=List.take_append_drop k (xs.drop i)
   rw[<-e,List.pairwise_append]at f
   exact f.2.2 z c x d
 .rcases List.mem_append.mp c with c | c
  .exact w.by_ z c y g
  .exact h z c y g
theorem WI.runB (w:WI R xs ys o i j)(b:ys.Pairwise R)(a:j+k<=ys.length)(h:∀ y∈(ys.drop j).take k,∀ x∈xs.drop i,R y x):WI R xs ys (o++(ys.drop j).take k) i (j+k):=(w.swap.runA b a h).swap
theorem zkP {l:List α}{x:α}{i:Nat}(h:l[i]?=some x):(l.drop i).take 1=[x]:=by
 obtain⟨a,rfl⟩:=List.getElem?_eq_some_iff.mp h
 rw[List.drop_eq_getElem_cons a]
 rfl
theorem WI.pushA {x:α}(w:WI R xs ys o i j)(d:xs.Pairwise R)(a:xs[i]?=some x)(h:∀ y∈ys.drop j,R x y):WI R xs ys (o++[x]) (i+1) j:=by
 have e:=(List.getElem?_eq_some_iff.mp a).1
 have:=w.runA (k:=1) d (by omega) (by rw[zkP a];intro z b y c;rw[List.mem_singleton.mp b];exact h y c)
 rw[zkP a]at this
 exact this
theorem WI.pushB {y:α}(w:WI R xs ys o i j)(a:ys.Pairwise R)(b:ys[j]?=some y)(h:∀ x∈xs.drop i,R y x):WI R xs ys (o++[y]) i (j+1):=(w.swap.pushA a b h).swap
theorem WI.done (w:WI R xs ys o i j)(k:xs.Pairwise R)(g:ys.Pairwise R)(h:∀ x∈xs.drop i,∀ y∈ys.drop j,R x y):(o++xs.drop i++ys.drop j).Perm (xs++ys)/\(o++xs.drop i++ys.drop j).Pairwise R:=by
 constructor
 .have e:=List.take_append_drop i xs
  have f:=List.take_append_drop j ys
  have p:(o++xs.drop i++ys.drop j).Perm (xs.take i++ys.take j++xs.drop i++ys.drop j):=(w.pm.append_right _).append_right _
  refine p.trans ?_
  have q:(xs.take i++ys.take j++xs.drop i++ys.drop j).Perm (xs.take i++xs.drop i++(ys.take j++ys.drop j)):=by
   rw[List.append_assoc (xs.take i),List.append_assoc (xs.take i),List.append_assoc (xs.take i)]
   refine List.Perm.append_left _ ?_
   rw[<-List.append_assoc]
   exact List.perm_append_comm.append_right _
  rw[e,f]at q
  exact q
 .rw[List.pairwise_append,List.pairwise_append]
  refine⟨⟨w.so,k.sublist (List.drop_sublist _ _),w.bx⟩,g.sublist (List.drop_sublist _ _),λa c b d=>?_⟩
  rcases List.mem_append.mp c with c | c
  .exact w.by_ a c b d
  .exact h a c b d
theorem Zc (d:∀ a:α,R a a)(g:xs.Pairwise R){x:α}(f:xs[i]?=some x):∀ z∈xs.drop i,R x z:=by
 obtain⟨e,rfl⟩:=List.getElem?_eq_some_iff.mp f
 intro z b
 have c:(xs.drop i).Pairwise R:=g.sublist (List.drop_sublist _ _)
 rw[List.drop_eq_getElem_cons e]at c b
 rcases List.mem_cons.mp b with rfl | b
 .exact d _
 .exact(List.pairwise_cons.mp c).1 z b
end
noncomputable def mlo:Array Keyed->Array Keyed->SM (Array Keyed):=sortPriv% PySem.Builtin.mergeLo
noncomputable def Wz:Nat->SM Unit:=sortPriv% PySem.Builtin.setMinGallop
theorem zeI (g:Nat):Wz g=modify λs=>SortSt.mk' (kindOf s) (arrOf s) (pendingOf s) g (failedOf s):=rfl
noncomputable abbrev KA:=Array Keyed
noncomputable abbrev Z1:=Option KA × KA × Nat × Nat × Nat × Nat
noncomputable abbrev Z2:=Option KA × KA × Nat × Nat × Nat × Nat × Nat
noncomputable abbrev Z3:=Option KA × KA × Nat × Nat × Nat
noncomputable abbrev dn (v u o:KA)(i j:Nat):KA:=o++v.extract i v.size++u.extract j u.size
noncomputable abbrev ls (v u o:KA)(i j:Nat):KA:=o++u.extract j u.size++v.extract i v.size
noncomputable def zln (v u:KA)(g:Nat)(z:Z1):SM (ForInStep Z1):=do
 let e<-elem' u z.2.2.2.1
 let f<-elem' v z.2.2.1
 let some b<-lt' e f | pure (.done (some (dn v u z.2.1 z.2.2.1 z.2.2.2.1),z.2.1,z.2.2.1,z.2.2.2.1,z.2.2.2.2.1,z.2.2.2.2.2))
 if b=true then do
  let e<-elem' u z.2.2.2.1
  if (z.2.2.2.1+1 == u.size)=true then pure (.done (some (dn v u (z.2.1.push e) z.2.2.1 (z.2.2.2.1+1)),z.2.1.push e,z.2.2.1,z.2.2.2.1+1,0,z.2.2.2.2.2+1))
  else if z.2.2.2.2.2+1 >= g then pure (.done (none,z.2.1.push e,z.2.2.1,z.2.2.2.1+1,0,z.2.2.2.2.2+1))
  else pure (.yield (none,z.2.1.push e,z.2.2.1,z.2.2.2.1+1,0,z.2.2.2.2.2+1))
 else do
  let f<-elem' v z.2.2.1
  if (z.2.2.1+1+1 == v.size)=true then pure (.done (some (ls v u (z.2.1.push f) (z.2.2.1+1) z.2.2.2.1),z.2.1.push f,z.2.2.1+1,z.2.2.2.1,z.2.2.2.2.1+1,0))
  else if z.2.2.2.2.1+1 >= g then pure (.done (none,z.2.1.push f,z.2.2.1+1,z.2.2.2.1,z.2.2.2.2.1+1,0))
  else pure (.yield (none,z.2.1.push f,z.2.2.1+1,z.2.2.2.1,z.2.2.2.2.1+1,0))
noncomputable def loC (v u o:KA)(i j g c d:Nat):SM (ForInStep Z2):=do
 let f<-elem' v i
 if (i+1+1 == v.size)=true then pure (.done (some (ls v u (o.push f) (i+1) j),o.push f,i+1,j,g,c,d))
 else if (decide (c < 7)&&decide (d < 7))=true then pure (.done (none,o.push f,i+1,j,g,c,d))
 else pure (.yield (none,o.push f,i+1,j,g,c,d))
noncomputable def loB (v u o:KA)(i j g c d:Nat):SM (ForInStep Z2):=do
 let e<-elem' u j
 if (j+1 == u.size)=true then pure (.done (some (dn v u (o.push e) i (j+1)),o.push e,i,j+1,g,c,d))
 else do
  let f<-elem' v i
  let some k<-gal true f u (j+1) (u.size - (j+1)) 0 | pure (.done (some (dn v u (o.push e) i (j+1)),o.push e,i,j+1,g,c,d))
  if k > 0 then
   if (j+1+k == u.size)=true then pure (.done (some (dn v u (o.push e++u.extract (j+1) (j+1+k)) i (j+1+k)),o.push e++u.extract (j+1) (j+1+k),i,j+1+k,g,c,k))
   else loC v u (o.push e++u.extract (j+1) (j+1+k)) i (j+1+k) g c k
  else loC v u (o.push e) i (j+1) g c k
noncomputable def loA (v u o:KA)(i j g c d:Nat):SM (ForInStep Z2):=do
 Wz g
 let e<-elem' u j
 let some k<-gal false e v i (v.size - i) 0 | pure (.done (some (dn v u o i j),o,i,j,g,c,d))
 if k > 0 then
  if (i+k+1 == v.size)=true then pure (.done (some (ls v u (o++v.extract i (i+k)) (i+k) j),o++v.extract i (i+k),i+k,j,g,k,d))
  else if (i+k == v.size)=true then pure (.done (some (dn v u (o++v.extract i (i+k)) (i+k) j),o++v.extract i (i+k),i+k,j,g,k,d))
  else loB v u (o++v.extract i (i+k)) (i+k) j g k d
 else loB v u o i j g k d
noncomputable def zlk (v u:KA)(z:Z2):SM (ForInStep Z2) :=
 if z.2.2.2.2.1 > 1 then loA v u z.2.1 z.2.2.1 z.2.2.2.1 (z.2.2.2.2.1 - 1) z.2.2.2.2.2.1 z.2.2.2.2.2.2
 else loA v u z.2.1 z.2.2.1 z.2.2.2.1 z.2.2.2.2.1 z.2.2.2.2.2.1 z.2.2.2.2.2.2
noncomputable def zlw (v u:KA)(z:Z3):SM (ForInStep Z3):=do
 let y<-forIn [0:v.size+u.size] ((none,z.2.1,z.2.2.1,z.2.2.2.1,0,0):Z1) λ_ q=>zln v u z.2.2.2.2 q
 match y.1 with
 | some r=>pure (.done (some r,y.2.1,y.2.2.1,y.2.2.2.1,z.2.2.2.2))
 | none=>do
  rule "list.sort.gallop"
  let x<-forIn [0:v.size+u.size] ((none,y.2.1,y.2.2.1,y.2.2.2.1,z.2.2.2.2+1,y.2.2.2.2.1,y.2.2.2.2.2):Z2) λ_ q=>zlk v u q
  match x.1 with
  | some r=>pure (.done (some r,x.2.1,x.2.2.1,x.2.2.2.1,x.2.2.2.2.1))
  | none=>do
   Wz (x.2.2.2.2.1+1)
   pure (.yield (none,x.2.1,x.2.2.1,x.2.2.2.1,x.2.2.2.2.1+1))
theorem zjL (v u:KA):mlo v u=(do
 rule "list.sort.merge-lo"
 let e<-elem' u 0
 if (1 == u.size)=true then pure (dn v u #[e] 0 1)
 else if (0+1 == v.size)=true then pure (ls v u #[e] 0 1)
 else do
  let g<-get
  let z<-forIn [0:v.size+u.size] ((none,#[e],0,1,gallopOf g):Z3) λ_ q=>zlw v u q
  match z.1 with
  | some r=>pure r
  | none=>(unsupported ("internal:list.sort.merge-bound"))):=by
 show @bind SM _ _ _ _ _=_
 dsimp only[zlw,zlk,loA,loB,loC,zln,elem',lt',gal,Wz,gallopOf]
 congr 1;funext _;congr 1;funext e
 congr 1;congr 1;congr 1;funext g;congr 1
 .congr 1;funext _ z;congr 1
  funext x
  obtain⟨r,x⟩:=x
  cases r with
  | some r=>rfl
  | none =>
   dsimp only
   congr 1;funext _;congr 1
   funext y;obtain⟨r,y⟩:=y;cases r <;> rfl
 .funext y;obtain⟨r,y⟩:=y;cases r <;> rfl
noncomputable def ky (κ:KeyKind)(x:Keyed):κ.α:=(κ.keyOf x.1).getD κ.dflt
noncomputable def LE (κ:KeyKind)(x y:Keyed):Prop:=κ.kle (ky κ x) (ky κ y)
theorem LE.refl {κ:KeyKind}(x:Keyed):LE κ x x:=KeyOrd.kle_refl _
theorem LE.trans {κ:KeyKind}{x y z:Keyed}(h:LE κ x y)(a:LE κ y z):LE κ x z:=KeyOrd.kle_trans h a
noncomputable def LtE (a:Program)(w:World)(A:Around)(E:Value->Shared->Prop)(s:Shared)(κ:KeyKind)(k:SortKind)(D:Keyed->Prop):Prop :=
 ∀ (b:SortSt) (x y:Keyed) (Q:Option Bool->SortSt->Prop),kindOf b=k->D x->D y->Q (some (κ.blt (ky κ x) (ky κ y))) b->wpS (model a w) A E s (lt' x y) Q b
structure Sm (st t:SortSt):Prop where
 kd:kindOf t=kindOf st
 ar:arrOf t=arrOf st
 pd:pendingOf t=pendingOf st
 fl:failedOf t=failedOf st
theorem Sm.refl (a:SortSt):Sm a a:=⟨rfl,rfl,rfl,rfl⟩
theorem Sm.trans {a b c:SortSt}(h:Sm a b)(d:Sm b c):Sm a c:=⟨d.kd.trans h.kd,d.ar.trans h.ar,d.pd.trans h.pd,d.fl.trans h.fl⟩
section
variable {prog:Program}{w:World}{A:Around}{E:Value->Shared->Prop}{s:Shared}{st:SortSt}{κ:KeyKind}{k:SortKind}{D:Keyed->Prop}
theorem zB {v:KA}{i:Nat}{x:Keyed}{Q:Keyed->SortSt->Prop}(h:v.toList[i]?=some x)(q:Q x st):wpS (model prog w) A E s (elem' v i) Q st:=by
 rw[elem'_eq,show v[i]?=some x by rw[<-h];simp]
 exact wpS_pure q
theorem vt {g:Nat}{Q:Unit->SortSt->Prop}(h:∀ t,Sm st t->Q () t):wpS (model prog w) A E s (Wz g) Q st:=by
 rw[zeI]
 exact wpS_modify (h _ ⟨rfl,rfl,rfl,rfl⟩)
theorem vQ {a:List Keyed}{b n i:Nat}(c:i < n)(d:b+n<=a.length):∃ x,a[b+i]?=some x/\((a.drop b).take n)[i]?=some x:=by
 have:b+i < a.length:=by omega
 refine⟨a[b+i],List.getElem?_eq_getElem this,?_⟩
 rw[List.getElem?_take_of_lt c,List.getElem?_drop,List.getElem?_eq_getElem this]
theorem wc {α:Type}{l:List α}{k:Nat}{x:α}(h:x∈l.take k):∃ i,i < k/\l[i]?=some x:=by
 obtain⟨i,a⟩:=List.mem_iff_getElem?.mp h
 by_cases c:i < k
 .exact⟨i,c,by rw[<-a,List.getElem?_take_of_lt c]⟩
 .rw[List.getElem?_eq_none (by rw[List.length_take];omega)]at a
  cases a
theorem ve {α:Type}{l:List α}{k:Nat}{x:α}(h:x∈l.drop k):∃ i,k<=i/\l[i]?=some x:=by
 obtain⟨i,a⟩:=List.mem_iff_getElem?.mp h
 rw[List.getElem?_drop]at a
 exact⟨k+i,by omega,a⟩
theorem XA {l:List Keyed}(f:l.Pairwise (LE κ)){i j:Nat}{x y:Keyed}(c:i<=j)(b:l[i]?=some x)(a:l[j]?=some y):LE κ x y:=by
 by_cases e:i=j
 .subst e
  rw[b]at a
  cases a
  exact LE.refl _
 .obtain⟨g,rfl⟩:=List.getElem?_eq_some_iff.mp b
  obtain⟨d,rfl⟩:=List.getElem?_eq_some_iff.mp a
  exact List.pairwise_iff_getElem.mp f i j g d (by omega)
theorem Wa {q:Keyed}{v:KA}{b n t:Nat}{P:Option Nat->SortSt->Prop}(L:LtE prog w A E s κ k D)(B:kindOf st=k)(F:D q)(J:∀ x∈(v.toList.drop b).take n,D x)(r:b+n<=v.toList.length)(I:t < n)(H:((v.toList.drop b).take n).Pairwise (LE κ))
 (h:∀ m,m<=n->(∀ x∈((v.toList.drop b).take n).take m,LE κ x q)->(∀ x∈((v.toList.drop b).take n).drop m,κ.klt (ky κ q) (ky κ x))->P (some m) st):wpS (model prog w) A E s (gal false q v b n t) P st:=by
 let f:Nat->Bool:=λi=>match ((v.toList.drop b).take n)[i]? with
  | some x=>!(κ.blt (ky κ q) (ky κ x))
  | none=>false
 have a:∀ {i x},((v.toList.drop b).take n)[i]?=some x->f i=!(κ.blt (ky κ q) (ky κ x)):=λ{i x} e=>by show(match ((v.toList.drop b).take n)[i]? with | some x=>!(κ.blt (ky κ q) (ky κ x)) | none=>false)=_;rw[e]
 refine zdM (f:=f) (λi d Q u=>?_) (λi j p C z=>?_) I λm M K G=>h m M (λx o=>?_) λx o=>?_
 .obtain⟨x,g,c⟩:=vQ d r
  rw[a c]at u
  unfold bey
  refine wpS_bind (zB g ?_)
  rw[if_neg Bool.false_ne_true]
  exact wpS_bind (L _ _ _ _ B F (J x (List.mem_of_getElem? c)) (wpS_pure u))
 .obtain⟨x,_,g⟩:=vQ (i:=i) (by omega) r
  obtain⟨y,_,c⟩:=vQ C r
  rw[a c,Bool.not_eq_true']at z
  rw[a g,Bool.not_eq_true']
  exact LE.trans (κ:=κ) (y:=y) (XA H p g c) z
 .obtain⟨i,d,e⟩:=wc o
  have:=K i d
  rw[a e,Bool.not_eq_true']at this
  exact this
 .obtain⟨i,d,e⟩:=ve o
  have l:i < n:=by
   have:=(List.getElem?_eq_some_iff.mp e).1
   rw[List.length_take]at this
   omega
  have:=G i d l
  rw[a e,Bool.not_eq_false']at this
  exact this
theorem Xp {q:Keyed}{v:KA}{b n t:Nat}{P:Option Nat->SortSt->Prop}(L:LtE prog w A E s κ k D)(B:kindOf st=k)(F:D q)(J:∀ x∈(v.toList.drop b).take n,D x)(r:b+n<=v.toList.length)(I:t < n)(H:((v.toList.drop b).take n).Pairwise (LE κ))
 (h:∀ m,m<=n->(∀ x∈((v.toList.drop b).take n).take m,κ.klt (ky κ x) (ky κ q))->(∀ x∈((v.toList.drop b).take n).drop m,LE κ q x)->P (some m) st):wpS (model prog w) A E s (gal true q v b n t) P st:=by
 let f:Nat->Bool:=λi=>match ((v.toList.drop b).take n)[i]? with
  | some x=>κ.blt (ky κ x) (ky κ q)
  | none=>false
 have a:∀ {i x},((v.toList.drop b).take n)[i]?=some x->f i=κ.blt (ky κ x) (ky κ q):=λ{i x} e=>by show(match ((v.toList.drop b).take n)[i]? with | some x=>κ.blt (ky κ x) (ky κ q) | none=>false)=_;rw[e]
 refine zdM (f:=f) (λi d Q u=>?_) (λi j p C z=>?_) I λm M K G=>h m M (λx o=>?_) λx o=>?_
 .obtain⟨x,g,c⟩:=vQ d r
  rw[a c]at u
  unfold bey
  refine wpS_bind (zB g ?_)
  rw[if_pos rfl]
  exact L _ _ _ _ B (J x (List.mem_of_getElem? c)) F u
 .obtain⟨x,_,g⟩:=vQ (i:=i) (by omega) r
  obtain⟨y,_,c⟩:=vQ C r
  rw[a c]at z
  rw[a g]
  exact KeyOrd.klt_of_kle_of_klt (XA H p g c) z
 .obtain⟨i,d,e⟩:=wc o
  have:=K i d
  rw[a e]at this
  exact this
 .obtain⟨i,d,e⟩:=ve o
  have l:i < n:=by
   have:=(List.getElem?_eq_some_iff.mp e).1
   rw[List.length_take]at this
   omega
  have:=G i d l
  rw[a e]at this
  exact this
end
structure Two (κ:KeyKind) (D:Keyed->Prop) (v u:KA):Prop where
 dv:∀ x∈v.toList,D x
 du:∀ y∈u.toList,D y
 sv:v.toList.Pairwise (LE κ)
 su:u.toList.Pairwise (LE κ)
noncomputable def Fn (κ:KeyKind)(v u r:KA):Prop:=r.toList.Perm (v.toList++u.toList)/\r.toList.Pairwise (LE κ)
structure MI (κ:KeyKind) (v u o:KA) (i j:Nat):Prop where
 li:i+1 < v.size
 lj:j < u.size
 wi:WI (LE κ) v.toList u.toList o.toList i j
section
variable {prog:Program}{w:World}{A:Around}{E:Value->Shared->Prop}{s:Shared}{st:SortSt}{κ:KeyKind}{k:SortKind}{D:Keyed->Prop}{v u o:KA}{i j:Nat}
theorem xv (v:KA)(i j:Nat):(v.extract i j).toList=(v.toList.drop i).take (j - i):=by simp
theorem XY (v:KA)(i:Nat):(v.extract i v.size).toList=v.toList.drop i:=by
 rw[xv,List.take_of_length_le (by rw[List.length_drop,Array.length_toList];omega)]
theorem Wh (T:Two κ D v u)(w:WI (LE κ) v.toList u.toList o.toList i j)(h:j=u.size\/i=v.size):Fn κ v u (dn v u o i j):=by
 have:=w.done T.sv T.su λx b y a=>by
  rcases h with rfl | rfl
  .rw[<-Array.length_toList,List.drop_length]at a;cases a
  .rw[<-Array.length_toList,List.drop_length]at b;cases b
 unfold Fn dn
 rw[Array.toList_append,Array.toList_append,XY,XY]
 exact this
theorem zas (T:Two κ D v u)(w:WI (LE κ) v.toList u.toList o.toList i j)(g:i+1=v.size)(top:∀ y∈u.toList,∀ x,v.toList[v.size - 1]?=some x->LE κ y x):Fn κ v u (ls v u o i j):=by
 have:=w.swap.done T.su T.sv λy b x d=>by
  refine top y (List.mem_of_mem_drop b) x ?_
  obtain⟨a,f,e⟩:=ve d
  have c:=(List.getElem?_eq_some_iff.mp e).1
  rw[Array.length_toList]at c
  rw[show v.size - 1=a by omega]
  exact e
 unfold Fn ls
 rw[Array.toList_append,Array.toList_append,XY,XY]
 exact⟨this.1.trans List.perm_append_comm,this.2⟩
theorem ZB {v:KA}{i:Nat}(h:i < v.size):∃ x,v.toList[i]?=some x:=⟨_,List.getElem?_eq_getElem (by rw[Array.length_toList];exact h)⟩
noncomputable def Ok2 (κ:KeyKind)(v u:KA)(n:Nat)(c:Z2):Prop:=(∃ r,c.1=some r/\Fn κ v u r)\/(c.1=none/\MI κ v u c.2.1 c.2.2.1 c.2.2.2.1/\n<=c.2.2.1+c.2.2.2.1)
noncomputable def Go2 (κ:KeyKind)(v u:KA)(n:Nat):ForInStep Z2->Prop
 | .done c=>Ok2 κ v u n c
 | .yield c=>c.1=none/\MI κ v u c.2.1 c.2.2.1 c.2.2.2.1/\n<=c.2.2.1+c.2.2.2.1
variable {top:∀ y∈u.toList,∀ x,v.toList[v.size - 1]?=some x->LE κ y x}{g c d n:Nat}
theorem zcV (T:Two κ D v u)(top:∀ y∈u.toList,∀ x,v.toList[v.size - 1]?=some x->LE κ y x)(m:MI κ v u o i j){x:Keyed}(f:v.toList[i]?=some x)(h:∀ y∈u.toList.drop j,LE κ x y)(l:n<=i+j):wpS (model prog w) A E s (loC v u o i j g c d) (λr t=>t=st/\Go2 κ v u n r) st:=by
 unfold loC
 refine wpS_bind (zB f ?_)
 have a:=m.wi.pushA T.sv f h
 rw[<-Array.toList_push]at a
 have k:=m.li
 by_cases e:i+1+1=v.size
 .rw[if_pos (beq_iff_eq.mpr e)]
  exact wpS_pure ⟨rfl,.inl ⟨_,rfl,zas T a e top⟩⟩
 .rw[if_neg (λz=>e (beq_iff_eq.mp z))]
  have b:MI κ v u (o.push x) (i+1) j:=⟨by omega,m.lj,a⟩
  split
  .exact wpS_pure ⟨rfl,.inr ⟨rfl,b,by show n<=i+1+j;omega⟩⟩
  .exact wpS_pure ⟨rfl,rfl,b,by show n<=i+1+j;omega⟩
theorem zdI (L:LtE prog w A E s κ k D)(N:kindOf st=k)(T:Two κ D v u)(top:∀ y∈u.toList,∀ x,v.toList[v.size - 1]?=some x->LE κ y x)(m:MI κ v u o i j){y:Keyed}(J:u.toList[j]?=some y)(h:∀ x∈v.toList.drop i,LE κ y x)(U:n<=i+j):wpS (model prog w) A E s (loB v u o i j g c d) (λr t=>t=st/\Go2 κ v u n r) st:=by
 unfold loB
 refine wpS_bind (zB J ?_)
 have p:=m.wi.pushB T.su J h
 rw[<-Array.toList_push]at p
 have H:=m.li
 have S:=m.lj
 by_cases e:j+1=u.size
 .rw[if_pos (beq_iff_eq.mpr e)]
  exact wpS_pure ⟨rfl,.inl ⟨_,rfl,Wh T p (.inl e)⟩⟩
 .rw[if_neg (λz=>e (beq_iff_eq.mp z))]
  obtain⟨x,l⟩:=ZB (v:=v) (i:=i) (by omega)
  refine wpS_bind (zB l ?_)
  have O:u.toList.length=u.size:=Array.length_toList
  have b:(u.toList.drop (j+1)).take (u.size - (j+1))=u.toList.drop (j+1):=List.take_of_length_le (by rw[List.length_drop];omega)
  refine wpS_bind (Xp L N (T.dv x (List.mem_of_getElem? l)) (λz f=>T.du z (List.mem_of_mem_drop (List.mem_of_mem_take f))) (by omega) (by omega) (by rw[b];exact T.su.sublist (List.drop_sublist _ _)) λq R K I=>?_)
  rw[b]at K I
  dsimp only
  have F:=Zc (LE.refl (κ:=κ)) T.sv l
  have B:=p.runB (k:=q) T.su (by omega) λz f a Q=>LE.trans (KeyOrd.kle_of_klt (K z f)) (F a Q)
  have M:∀ z∈u.toList.drop (j+1+q),LE κ x z:=λz f=>I z (by rw[List.drop_drop];exact f)
  by_cases G:q > 0
  .rw[if_pos G]
   have P:(o.push y++u.extract (j+1) (j+1+q)).toList=(o.push y).toList++(u.toList.drop (j+1)).take q:=by rw[Array.toList_append,xv,Nat.add_sub_cancel_left]
   rw[<-P]at B
   by_cases C:j+1+q=u.size
   .rw[if_pos (beq_iff_eq.mpr C)]
    exact wpS_pure ⟨rfl,.inl ⟨_,rfl,Wh T B (.inl C)⟩⟩
   .rw[if_neg (λz=>C (beq_iff_eq.mp z))]
    exact zcV T top ⟨H,by omega,B⟩ l M (by omega)
  .rw[if_neg G]
   obtain rfl:q=0:=by omega
   exact zcV T top ⟨H,by omega,p⟩ l M (by omega)
theorem zd5 (L:LtE prog w A E s κ k D)(B:kindOf st=k)(T:Two κ D v u)(top:∀ y∈u.toList,∀ x,v.toList[v.size - 1]?=some x->LE κ y x)(m:MI κ v u o i j)(Q:n<=i+j):wpS (model prog w) A E s (loA v u o i j g c d) (λr t=>Sm st t/\Go2 κ v u n r) st:=by
 unfold loA
 refine wpS_bind (vt λt e=>?_)
 obtain⟨y,l⟩:=ZB m.lj
 refine wpS_bind (zB l ?_)
 have S:=m.li
 have N:=m.lj
 have M:v.toList.length=v.size:=Array.length_toList
 have b:(v.toList.drop i).take (v.size - i)=v.toList.drop i:=List.take_of_length_le (by rw[List.length_drop];omega)
 refine wpS_bind (Wa L (e.kd.trans B) (T.du y (List.mem_of_getElem? l)) (λz f=>T.dv z (List.mem_of_mem_drop (List.mem_of_mem_take f))) (by omega) (by omega) (by rw[b];exact T.sv.sublist (List.drop_sublist _ _)) λq U I K=>?_)
 rw[b]at I K
 dsimp only
 have F:=Zc (LE.refl (κ:=κ)) T.su l
 have p:=m.wi.runA (k:=q) T.sv (by omega) λz f a O=>LE.trans (I z f) (F a O)
 have J:∀ z∈v.toList.drop (i+q),LE κ y z:=λz f=>KeyOrd.kle_of_klt (K z (by rw[List.drop_drop];exact f))
 by_cases H:q > 0
 .rw[if_pos H]
  have R:(o++v.extract i (i+q)).toList=o.toList++(v.toList.drop i).take q:=by rw[Array.toList_append,xv,Nat.add_sub_cancel_left]
  rw[<-R]at p
  by_cases C:i+q+1=v.size
  .rw[if_pos (beq_iff_eq.mpr C)]
   exact wpS_pure ⟨e,.inl ⟨_,rfl,zas T p C top⟩⟩
  .rw[if_neg (λz=>C (beq_iff_eq.mp z))]
   by_cases G:i+q=v.size
   .rw[if_pos (beq_iff_eq.mpr G)]
    exact wpS_pure ⟨e,.inl ⟨_,rfl,Wh T p (.inr G)⟩⟩
   .rw[if_neg (λz=>G (beq_iff_eq.mp z))]
    exact wpS_mono (zdI L (e.kd.trans B) T top ⟨by omega,N,p⟩ l J (by omega)) λr P h=>⟨h.1 ▸ e,h.2⟩
 .rw[if_neg H]
  obtain rfl:q=0:=by omega
  exact wpS_mono (zdI L (e.kd.trans B) T top m l J Q) λr P h=>⟨h.1 ▸ e,h.2⟩
noncomputable def Ok1 (κ:KeyKind)(v u:KA)(n:Nat)(c:Z1):Prop:=(∃ r,c.1=some r/\Fn κ v u r)\/(c.1=none/\MI κ v u c.2.1 c.2.2.1 c.2.2.2.1/\n<=c.2.2.1+c.2.2.2.1)
noncomputable def Go1 (κ:KeyKind)(v u:KA)(n:Nat):ForInStep Z1->Prop
 | .done c=>Ok1 κ v u n c
 | .yield c=>c.1=none/\MI κ v u c.2.1 c.2.2.1 c.2.2.2.1/\n<=c.2.2.1+c.2.2.2.1
theorem zfc (L:LtE prog w A E s κ k D)(F:kindOf st=k)(T:Two κ D v u)(top:∀ y∈u.toList,∀ x,v.toList[v.size - 1]?=some x->LE κ y x){z:Z1}(m:MI κ v u z.2.1 z.2.2.1 z.2.2.2.1):wpS (model prog w) A E s (zln v u g z) (λr t=>t=st/\Go1 κ v u (z.2.2.1+z.2.2.2.1+1) r) st:=by
 obtain⟨r,o,i,j,c,d⟩:=z
 dsimp only at m ⊢
 have G:=m.li
 have C:=m.lj
 unfold zln
 obtain⟨y,h⟩:=ZB C
 obtain⟨x,n⟩:=ZB (v:=v) (i:=i) (by omega)
 refine wpS_bind (zB h (wpS_bind (zB n (wpS_bind (L _ _ _ _ F (T.du y (List.mem_of_getElem? h)) (T.dv x (List.mem_of_getElem? n)) ?_)))))
 dsimp only
 have p:=Zc (LE.refl (κ:=κ)) T.sv n
 have B:=Zc (LE.refl (κ:=κ)) T.su h
 cases e:κ.blt (ky κ y) (ky κ x) with
 | true =>
  rw[if_pos rfl]
  refine wpS_bind (zB h ?_)
  have f:=m.wi.pushB T.su h λa q=>LE.trans (KeyOrd.kle_of_klt e) (p a q)
  rw[<-Array.toList_push]at f
  by_cases b:j+1=u.size
  .rw[if_pos (beq_iff_eq.mpr b)]
   exact wpS_pure ⟨rfl,.inl ⟨_,rfl,Wh T f (.inl b)⟩⟩
  .rw[if_neg (λz=>b (beq_iff_eq.mp z))]
   have l:MI κ v u (o.push y) i (j+1):=⟨G,by omega,f⟩
   split
   .exact wpS_pure ⟨rfl,.inr ⟨rfl,l,by show i+j+1<=i+(j+1);omega⟩⟩
   .exact wpS_pure ⟨rfl,rfl,l,by show i+j+1<=i+(j+1);omega⟩
 | false =>
  rw[if_neg Bool.false_ne_true]
  refine wpS_bind (zB n ?_)
  have f:=m.wi.pushA T.sv n λa q=>LE.trans (κ:=κ) (y:=y) e (B a q)
  rw[<-Array.toList_push]at f
  by_cases b:i+1+1=v.size
  .rw[if_pos (beq_iff_eq.mpr b)]
   exact wpS_pure ⟨rfl,.inl ⟨_,rfl,zas T f b top⟩⟩
  .rw[if_neg (λz=>b (beq_iff_eq.mp z))]
   have l:MI κ v u (o.push x) (i+1) j:=⟨by omega,C,f⟩
   split
   .exact wpS_pure ⟨rfl,.inr ⟨rfl,l,by show i+j+1<=i+1+j;omega⟩⟩
   .exact wpS_pure ⟨rfl,rfl,l,by show i+j+1<=i+1+j;omega⟩
end
section
variable {prog:Program}{w:World}{A:Around}{E:Value->Shared->Prop}{s:Shared}{st:SortSt}{κ:KeyKind}{k:SortKind}{D:Keyed->Prop}{v u o:KA}{i j:Nat}
noncomputable def Go3 (κ:KeyKind)(v u:KA)(n:Nat):ForInStep Z3->Prop
 | .done c=>∃ r,c.1=some r/\Fn κ v u r
 | .yield c=>c.1=none/\MI κ v u c.2.1 c.2.2.1 c.2.2.2.1/\n<=c.2.2.1+c.2.2.2.1
theorem zeG {z:Z2}{n:Nat}(L:LtE prog w A E s κ k D)(a:kindOf st=k)(T:Two κ D v u)(top:∀ y∈u.toList,∀ x,v.toList[v.size - 1]?=some x->LE κ y x)(m:MI κ v u z.2.1 z.2.2.1 z.2.2.2.1)(b:n<=z.2.2.1+z.2.2.2.1):wpS (model prog w) A E s (zlk v u z) (λr t=>Sm st t/\Go2 κ v u n r) st:=by
 unfold zlk
 split
 .exact zd5 L a T top m b
 .exact zd5 L a T top m b
theorem zgb {z:Z3}(L:LtE prog w A E s κ k D)(q:kindOf st=k)(T:Two κ D v u)(top:∀ y∈u.toList,∀ x,v.toList[v.size - 1]?=some x->LE κ y x)(m:MI κ v u z.2.1 z.2.2.1 z.2.2.2.1):wpS (model prog w) A E s (zlw v u z) (λr t=>Sm st t/\Go3 κ v u (z.2.2.1+z.2.2.2.1+1) r) st:=by
 unfold zlw
 have M:=m.li
 refine wpS_bind (wpS_mono (wpS_forRange (I:=λx c t=>t=st/\c.1=none/\MI κ v u c.2.1 c.2.2.1 c.2.2.2.1/\(x=0\/z.2.2.1+z.2.2.2.1+1<=c.2.2.1+c.2.2.2.1)/\z.2.2.1+z.2.2.2.1<=c.2.2.1+c.2.2.2.1) (Q:=λc t=>t=st/\Ok1 κ v u (z.2.2.1+z.2.2.2.1+1) c)
  (λx c t _ _ b=>?_) (λc t b=>?_) ⟨rfl,rfl,m,.inl rfl,Nat.le_refl _⟩) λy t b=>?_)
 .obtain⟨rfl,l,i,j,C⟩:=b
  refine wpS_mono (zfc L q T top i) λr g h=>?_
  obtain⟨rfl,a⟩:=h
  cases r with
  | done n =>
   rcases a with a | ⟨o,p,F⟩
   .exact⟨rfl,.inl a⟩
   .exact⟨rfl,.inr ⟨o,p,by omega⟩⟩
  | yield n =>
   obtain⟨o,p,F⟩:=a
   exact⟨rfl,o,p,.inr (by omega),by omega⟩
 .obtain⟨rfl,l,i,j,C⟩:=b
  refine⟨rfl,.inr ⟨l,i,?_⟩⟩
  rcases j with j | j
  .exfalso
   have:max 0 (v.size+u.size)=v.size+u.size:=by omega
   omega
  .exact j
 .obtain⟨rfl,G⟩:=b
  rcases G with ⟨r,e,a⟩ | ⟨e,B,l⟩
  .rw[e]
   exact wpS_pure ⟨Sm.refl _,r,rfl,a⟩
  .rw[e]
   dsimp only
   refine wpS_bind (wpS_lift (wpAny_rule ⟨rfl,?_⟩))
   refine wpS_bind (wpS_mono (wpS_forRange (I:=λx c g=>Sm t g/\c.1=none/\MI κ v u c.2.1 c.2.2.1 c.2.2.2.1/\z.2.2.1+z.2.2.2.1+1<=c.2.2.1+c.2.2.2.1) (Q:=λc g=>Sm t g/\Ok2 κ v u (z.2.2.1+z.2.2.2.1+1) c)
    (λx c g _ _ b=>?_) (λc g b=>?_) ⟨Sm.refl _,rfl,B,l⟩) λx g b=>?_)
   .obtain⟨f,b1,b2,b3⟩:=b
    refine wpS_mono (zeG L (f.kd.trans q) T top b2 b3) λr K h=>?_
    obtain⟨d,a⟩:=h
    cases r with
    | done n=>exact⟨f.trans d,a⟩
    | yield n=>exact⟨f.trans d,a⟩
   .obtain⟨f,b1,b2,b3⟩:=b
    exact⟨f,.inr ⟨b1,b2,b3⟩⟩
   .obtain⟨f,H⟩:=b
    rcases H with ⟨r,e,a⟩ | ⟨e,J,i⟩
    .rw[e]
     exact wpS_pure ⟨f,r,rfl,a⟩
    .rw[e]
     exact wpS_bind (vt λK d=>wpS_pure ⟨f.trans d,rfl,J,i⟩)
theorem zio {P:KA->SortSt->Prop}(L:LtE prog w A E s κ k D)(o:kindOf st=k)(T:Two κ D v u)(F:0 < v.size)(B:0 < u.size)(top:∀ y∈u.toList,∀ x,v.toList[v.size - 1]?=some x->LE κ y x)(j:∀ x∈v.toList,∀ y,u.toList[0]?=some y->LE κ y x)
 (h:∀ r t,Sm st t->Fn κ v u r->P r t):wpS (model prog w) A E s (mlo v u) P st:=by
 rw[zjL]
 refine wpS_bind (wpS_lift (wpAny_rule ⟨rfl,?_⟩))
 obtain⟨y,n⟩:=ZB B
 refine wpS_bind (zB n ?_)
 have w0:WI (LE κ) v.toList u.toList [] 0 0:=⟨Nat.zero_le _,Nat.zero_le _,List.Perm.refl _,List.Pairwise.nil,(λz g=>by cases g),(λz g=>by cases g)⟩
 have i:WI (LE κ) v.toList u.toList (#[y]:KA).toList 0 1:=w0.pushB T.su n λx q=>j x (List.mem_of_mem_drop q) y n
 by_cases m:1=u.size
 .rw[if_pos (beq_iff_eq.mpr m)]
  exact wpS_pure (h _ _ (Sm.refl _) (Wh T i (.inl m)))
 rw[if_neg (λz=>m (beq_iff_eq.mp z))]
 by_cases l:0+1=v.size
 .rw[if_pos (beq_iff_eq.mpr l)]
  exact wpS_pure (h _ _ (Sm.refl _) (zas T i l top))
 rw[if_neg (λz=>l (beq_iff_eq.mp z))]
 refine wpS_bind (wpS_get ?_)
 refine wpS_bind (wpS_mono (wpS_forRange (I:=λx c t=>Sm st t/\c.1=none/\MI κ v u c.2.1 c.2.2.1 c.2.2.2.1/\x+1<=c.2.2.1+c.2.2.2.1) (Q:=λc t=>Sm st t/\∃ r,c.1=some r/\Fn κ v u r)
  (λx c t _ _ f=>?_) (λc t f=>?_) ⟨Sm.refl _,rfl,⟨by show 0+1 < v.size;omega,by show 1 < u.size;omega,i⟩,by show 0+1<=0+1;omega⟩) λy t f=>?_)
 .obtain⟨b,b1,b2,b3⟩:=f
  refine wpS_mono (zgb L (b.kd.trans o) T top b2) λr C h=>?_
  obtain⟨d,a⟩:=h
  cases r with
  | done p=>exact⟨b.trans d,a⟩
  | yield p=>exact⟨b.trans d,a.1,a.2.1,by have:=a.2.2;omega⟩
 .obtain⟨b,b1,b2,b3⟩:=f
  exfalso
  have:=b2.li
  have:=b2.lj
  have:max 0 (v.size+u.size)=v.size+u.size:=by omega
  omega
 .obtain⟨b,r,e,a⟩:=f
  rw[e]
  exact wpS_pure (h r t b a)
end
noncomputable def mhi:Array Keyed->Array Keyed->SM (Array Keyed):=sortPriv% PySem.Builtin.mergeHi
noncomputable abbrev Y1:=Option KA × Nat × Nat × KA × Nat × Nat
noncomputable abbrev Y2:=Option KA × Nat × Nat × KA × Nat × Nat × Nat
noncomputable abbrev Y3:=Option KA × Nat × Nat × KA × Nat
noncomputable abbrev dh (v u o:KA)(i j:Nat):KA:=v.extract 0 i++u.extract 0 j++o.reverse
noncomputable abbrev fh (v u o:KA)(i j:Nat):KA:=u.extract 0 j++v.extract 0 i++o.reverse
noncomputable def zlv (v u:KA)(g:Nat)(z:Y1):SM (ForInStep Y1):=do
 let e<-elem' u (z.2.2.1 - 1)
 let f<-elem' v (z.2.1 - 1)
 let some b<-lt' e f | pure (.done (some (dh v u z.2.2.2.1 z.2.1 z.2.2.1),z.2.1,z.2.2.1,z.2.2.2.1,z.2.2.2.2.1,z.2.2.2.2.2))
 if b=true then do
  let f<-elem' v (z.2.1 - 1)
  if (z.2.1 - 1 == 0)=true then pure (.done (some (dh v u (z.2.2.2.1.push f) (z.2.1 - 1) z.2.2.1),z.2.1 - 1,z.2.2.1,z.2.2.2.1.push f,z.2.2.2.2.1+1,0))
  else if z.2.2.2.2.1+1 >= g then pure (.done (none,z.2.1 - 1,z.2.2.1,z.2.2.2.1.push f,z.2.2.2.2.1+1,0))
  else pure (.yield (none,z.2.1 - 1,z.2.2.1,z.2.2.2.1.push f,z.2.2.2.2.1+1,0))
 else do
  let e<-elem' u (z.2.2.1 - 1)
  if (z.2.2.1 - 1 == 1)=true then pure (.done (some (fh v u (z.2.2.2.1.push e) z.2.1 (z.2.2.1 - 1)),z.2.1,z.2.2.1 - 1,z.2.2.2.1.push e,0,z.2.2.2.2.2+1))
  else if z.2.2.2.2.2+1 >= g then pure (.done (none,z.2.1,z.2.2.1 - 1,z.2.2.2.1.push e,0,z.2.2.2.2.2+1))
  else pure (.yield (none,z.2.1,z.2.2.1 - 1,z.2.2.2.1.push e,0,z.2.2.2.2.2+1))
noncomputable def hiC (v u o:KA)(i j g c d:Nat):SM (ForInStep Y2):=do
 let f<-elem' v (i - 1)
 if (i - 1 == 0)=true then pure (.done (some (dh v u (o.push f) (i - 1) j),i - 1,j,o.push f,g,c,d))
 else if (decide (c < 7)&&decide (d < 7))=true then pure (.done (none,i - 1,j,o.push f,g,c,d))
 else pure (.yield (none,i - 1,j,o.push f,g,c,d))
noncomputable def hiB (v u o:KA)(i j g c d:Nat):SM (ForInStep Y2):=do
 let e<-elem' u (j - 1)
 if (j - 1 == 1)=true then pure (.done (some (fh v u (o.push e) i (j - 1)),i,j - 1,o.push e,g,c,d))
 else do
  let f<-elem' v (i - 1)
  let some p<-gal true f u 0 (j - 1) (j - 1 - 1) | pure (.done (some (dh v u (o.push e) i (j - 1)),i,j - 1,o.push e,g,c,d))
  if j - 1 - p > 0 then
   if (p == 1)=true then pure (.done (some (fh v u (o.push e++(u.extract p (j - 1)).reverse) i p),i,p,o.push e++(u.extract p (j - 1)).reverse,g,c,j - 1 - p))
   else if (p == 0)=true then pure (.done (some (dh v u (o.push e++(u.extract p (j - 1)).reverse) i p),i,p,o.push e++(u.extract p (j - 1)).reverse,g,c,j - 1 - p))
   else hiC v u (o.push e++(u.extract p (j - 1)).reverse) i p g c (j - 1 - p)
  else hiC v u (o.push e) i (j - 1) g c (j - 1 - p)
noncomputable def hiA (v u o:KA)(i j g c d:Nat):SM (ForInStep Y2):=do
 Wz g
 let e<-elem' u (j - 1)
 let some p<-gal false e v 0 i (i - 1) | pure (.done (some (dh v u o i j),i,j,o,g,c,d))
 if i - p > 0 then
  if (p == 0)=true then pure (.done (some (dh v u (o++(v.extract p i).reverse) p j),p,j,o++(v.extract p i).reverse,g,i - p,d))
  else hiB v u (o++(v.extract p i).reverse) p j g (i - p) d
 else hiB v u o i j g (i - p) d
noncomputable def zlB (v u:KA)(z:Y2):SM (ForInStep Y2) :=
 if z.2.2.2.2.1 > 1 then hiA v u z.2.2.2.1 z.2.1 z.2.2.1 (z.2.2.2.2.1 - 1) z.2.2.2.2.2.1 z.2.2.2.2.2.2
 else hiA v u z.2.2.2.1 z.2.1 z.2.2.1 z.2.2.2.2.1 z.2.2.2.2.2.1 z.2.2.2.2.2.2
noncomputable def zlj (v u:KA)(z:Y3):SM (ForInStep Y3):=do
 let y<-forIn [0:v.size+u.size] ((none,z.2.1,z.2.2.1,z.2.2.2.1,0,0):Y1) λ_ q=>zlv v u z.2.2.2.2 q
 match y.1 with
 | some r=>pure (.done (some r,y.2.1,y.2.2.1,y.2.2.2.1,z.2.2.2.2))
 | none=>do
  rule "list.sort.gallop"
  let x<-forIn [0:v.size+u.size] ((none,y.2.1,y.2.2.1,y.2.2.2.1,z.2.2.2.2+1,y.2.2.2.2.1,y.2.2.2.2.2):Y2) λ_ q=>zlB v u q
  match x.1 with
  | some r=>pure (.done (some r,x.2.1,x.2.2.1,x.2.2.2.1,x.2.2.2.2.1))
  | none=>do
   Wz (x.2.2.2.2.1+1)
   pure (.yield (none,x.2.1,x.2.2.1,x.2.2.2.1,x.2.2.2.2.1+1))
theorem zjb (v u:KA):mhi v u=(do
 rule "list.sort.merge-hi"
 let e<-elem' v (v.size - 1)
 if (v.size - 1 == 0)=true then pure (dh v u #[e] (v.size - 1) u.size)
 else if (u.size == 1)=true then pure (fh v u #[e] (v.size - 1) u.size)
 else do
  let g<-get
  let z<-forIn [0:v.size+u.size] ((none,v.size - 1,u.size,#[e],gallopOf g):Y3) λ_ q=>zlj v u q
  match z.1 with
  | some r=>pure r
  | none=>(unsupported ("internal:list.sort.merge-bound"))):=by
 show @bind SM _ _ _ _ _=_
 dsimp only[zlj,zlB,hiA,hiB,hiC,zlv,elem',lt',gal,Wz,gallopOf]
 congr 1;funext _;congr 1;funext e
 congr 1;congr 1;congr 1;funext g;congr 1
 .congr 1;funext _ z;congr 1
  funext x
  obtain⟨r,x⟩:=x
  cases r with
  | some r=>rfl
  | none =>
   dsimp only
   congr 1;funext _;congr 1
   funext y;obtain⟨r,y⟩:=y;cases r <;> rfl
 .funext y;obtain⟨r,y⟩:=y;cases r <;> rfl
structure MH (κ:KeyKind) (v u o:KA) (i j:Nat):Prop where
 li:i<=v.size
 lj:j<=u.size
 wi:WI (λa b=>LE κ b a) v.toList.reverse u.toList.reverse o.toList (v.size - i) (u.size - j)
section
variable {κ:KeyKind}{D:Keyed->Prop}{v u o:KA}{i j:Nat}
theorem yn {v:KA}{i:Nat}(h:i<=v.size):v.toList.reverse.drop (v.size - i)=(v.toList.take i).reverse:=by
 rw[List.drop_reverse,Array.length_toList,Nat.sub_sub_self h]
theorem yz {l:List Keyed}(h:l.Pairwise (LE κ)):l.reverse.Pairwise λa b=>LE κ b a:=List.pairwise_reverse.mpr h
theorem zb3 {v:KA}{i:Nat}(h0:0 < i)(h:i<=v.size):v.toList.reverse[v.size - i]?=v.toList[i - 1]?:=by
 rw[List.getElem?_reverse (by rw[Array.length_toList];omega),Array.length_toList,show v.size - 1 - (v.size - i)=i - 1 by omega]
theorem MH.pushA (T:Two κ D v u)(m:MH κ v u o i j)(h0:0 < i){x:Keyed}(c:v.toList[i - 1]?=some x)(h:∀ y∈u.toList.take j,LE κ y x):MH κ v u (o.push x) (i - 1) j:=by
 have b:=m.li
 refine⟨by omega,m.lj,?_⟩
 have:=m.wi.pushA (x:=x) (yz T.sv) (by rw[zb3 h0 b];exact c) λy a=>h y (by rw[yn m.lj]at a;exact List.mem_reverse.mp a)
 rw[<-Array.toList_push,show v.size - i+1=v.size - (i - 1) by omega]at this
 exact this
theorem MH.pushB (T:Two κ D v u)(m:MH κ v u o i j)(h0:0 < j){y:Keyed}(b:u.toList[j - 1]?=some y)(h:∀ x∈v.toList.take i,LE κ x y):MH κ v u (o.push y) i (j - 1):=by
 have c:=m.lj
 refine⟨m.li,by omega,?_⟩
 have:=m.wi.pushB (y:=y) (yz T.su) (by rw[zb3 h0 c];exact b) λx a=>h x (by rw[yn m.li]at a;exact List.mem_reverse.mp a)
 rw[<-Array.toList_push,show u.size - j+1=u.size - (j - 1) by omega]at this
 exact this
theorem X6 {v:KA}{p i:Nat}(a:p<=i)(h:i<=v.size):(v.toList.reverse.drop (v.size - i)).take (i - p)=(v.extract p i).reverse.toList:=by
 rw[yn h,List.take_reverse,Array.toList_reverse,xv,List.length_take,Array.length_toList,Nat.min_eq_left h,Nat.sub_sub_self a,List.drop_take]
theorem MH.runA (T:Two κ D v u)(m:MH κ v u o i j){p:Nat}(d:p<=i)(h:∀ x∈(v.toList.take i).drop p,∀ y∈u.toList.take j,LE κ y x):MH κ v u (o++(v.extract p i).reverse) p j:=by
 have b:=m.li
 refine⟨by omega,m.lj,?_⟩
 have:=m.wi.runA (k:=i - p) (yz T.sv) (by rw[List.length_reverse,Array.length_toList];omega) λx c y a=>by
  rw[X6 d b,Array.toList_reverse,xv]at c
  rw[yn m.lj]at a
  exact h x (by rw[List.drop_take];exact List.mem_reverse.mp c) y (List.mem_reverse.mp a)
 rw[X6 d b,<- Array.toList_append,show v.size - i+(i - p)=v.size - p by omega]at this
 exact this
theorem MH.runB (T:Two κ D v u)(m:MH κ v u o i j){p:Nat}(d:p<=j)(h:∀ y∈(u.toList.take j).drop p,∀ x∈v.toList.take i,LE κ x y):MH κ v u (o++(u.extract p j).reverse) i p:=by
 have c:=m.lj
 refine⟨m.li,by omega,?_⟩
 have:=m.wi.runB (k:=j - p) (yz T.su) (by rw[List.length_reverse,Array.length_toList];omega) λx b y a=>by
  rw[X6 d c,Array.toList_reverse,xv]at b
  rw[yn m.li]at a
  exact h x (by rw[List.drop_take];exact List.mem_reverse.mp b) y (List.mem_reverse.mp a)
 rw[X6 d c,<- Array.toList_append,show u.size - j+(j - p)=u.size - p by omega]at this
 exact this
theorem Yz (v:KA)(i:Nat):(v.extract 0 i).toList=v.toList.take i:=by rw[xv,List.drop_zero,Nat.sub_zero]
theorem Wj (T:Two κ D v u)(m:MH κ v u o i j)(h:i=0\/j=0):Fn κ v u (dh v u o i j):=by
 have e:=m.wi.swap.done (yz T.su) (yz T.sv) λy a x b=>by
  rw[yn m.lj]at a
  rw[yn m.li]at b
  rcases h with rfl | rfl
  .rw[List.take_zero]at b;cases b
  .rw[List.take_zero]at a;cases a
 rw[yn m.lj,yn m.li]at e
 have c:(dh v u o i j).toList=(o.toList++(u.toList.take j).reverse++(v.toList.take i).reverse).reverse:=by
  unfold dh
  rw[Array.toList_append,Array.toList_append,Yz,Yz,Array.toList_reverse,List.reverse_append,List.reverse_append,List.reverse_reverse,List.reverse_reverse,List.append_assoc]
 constructor
 .rw[c]
  refine(List.reverse_perm _).trans (e.1.trans ?_)
  exact(List.perm_append_comm).trans ((List.reverse_perm _).append (List.reverse_perm _))
 .rw[c,List.pairwise_reverse]
  exact e.2
theorem za7 (T:Two κ D v u)(m:MH κ v u o i j)(k:j=1)(b:∀ x∈v.toList,∀ y,u.toList[0]?=some y->LE κ y x):Fn κ v u (fh v u o i j):=by
 have e:=m.wi.done (yz T.sv) (yz T.su) λx d y c=>by
  rw[yn m.lj]at c
  rw[yn m.li]at d
  refine b x (List.mem_of_mem_take (List.mem_reverse.mp d)) y ?_
  obtain⟨a,h,g⟩:=wc (List.mem_reverse.mp c)
  obtain rfl:a=0:=by omega
  exact g
 rw[yn m.lj,yn m.li]at e
 have f:(fh v u o i j).toList=(o.toList++(v.toList.take i).reverse++(u.toList.take j).reverse).reverse:=by
  unfold fh
  rw[Array.toList_append,Array.toList_append,Yz,Yz,Array.toList_reverse,List.reverse_append,List.reverse_append,List.reverse_reverse,List.reverse_reverse,List.append_assoc]
 constructor
 .rw[f]
  exact(List.reverse_perm _).trans (e.1.trans ((List.reverse_perm _).append (List.reverse_perm _)))
 .rw[f,List.pairwise_reverse]
  exact e.2
theorem WK {l:List Keyed}(s:l.Pairwise (LE κ)){i:Nat}{x:Keyed}(h0:0 < i)(c:l[i - 1]?=some x):∀ z∈l.take i,LE κ z x:=λz b=>by
 obtain⟨a,d,e⟩:=wc b
 exact XA s (by omega) e c
noncomputable def Oj2 (κ:KeyKind)(v u:KA)(n:Nat)(c:Y2):Prop:=(∃ r,c.1=some r/\Fn κ v u r)\/(c.1=none/\(0 < c.2.1/\1 < c.2.2.1)/\MH κ v u c.2.2.2.1 c.2.1 c.2.2.1/\c.2.1+c.2.2.1<=n)
noncomputable def Gj2 (κ:KeyKind)(v u:KA)(n:Nat):ForInStep Y2->Prop
 | .done c=>Oj2 κ v u n c
 | .yield c=>c.1=none/\(0 < c.2.1/\1 < c.2.2.1)/\MH κ v u c.2.2.2.1 c.2.1 c.2.2.1/\c.2.1+c.2.2.1<=n
end
section
variable {prog:Program}{w:World}{A:Around}{E:Value->Shared->Prop}{s:Shared}{st:SortSt}{κ:KeyKind}{k:SortKind}{D:Keyed->Prop}{v u o:KA}{i j g c d n:Nat}
theorem zez (T:Two κ D v u)(m:MH κ v u o i j)(h0:0 < i)(f:1 < j){x:Keyed}(b:v.toList[i - 1]?=some x)(h:∀ y∈u.toList.take j,LE κ y x)(k:i+j<=n):wpS (model prog w) A E s (hiC v u o i j g c d) (λr t=>t=st/\Gj2 κ v u n r) st:=by
 unfold hiC
 refine wpS_bind (zB b ?_)
 have a:=m.pushA T h0 b h
 by_cases e:i - 1=0
 .rw[if_pos (beq_iff_eq.mpr e)]
  exact wpS_pure ⟨rfl,.inl ⟨_,rfl,Wj T a (.inl e)⟩⟩
 .rw[if_neg (λz=>e (beq_iff_eq.mp z))]
  split
  .exact wpS_pure ⟨rfl,.inr ⟨rfl,⟨by show 0 < i - 1;omega,f⟩,a,by show i - 1+j<=n;omega⟩⟩
  .exact wpS_pure ⟨rfl,rfl,⟨by show 0 < i - 1;omega,f⟩,a,by show i - 1+j<=n;omega⟩
theorem zef (L:LtE prog w A E s κ k D)(O:kindOf st=k)(T:Two κ D v u)(l:∀ x∈v.toList,∀ y,u.toList[0]?=some y->LE κ y x)(m:MH κ v u o i j)(h0:0 < i)(U:1 < j){y:Keyed}(K:u.toList[j - 1]?=some y)(h:∀ x∈v.toList.take i,LE κ x y)(V:i+j<=n):wpS (model prog w) A E s (hiB v u o i j g c d) (λr t=>t=st/\Gj2 κ v u n r) st:=by
 unfold hiB
 refine wpS_bind (zB K ?_)
 have F:=m.pushB T (by omega) K h
 have R:=m.li
 have S:=m.lj
 by_cases e:j - 1=1
 .rw[if_pos (beq_iff_eq.mpr e)]
  exact wpS_pure ⟨rfl,.inl ⟨_,rfl,za7 T F e l⟩⟩
 .rw[if_neg (λz=>e (beq_iff_eq.mp z))]
  obtain⟨x,q⟩:=ZB (v:=v) (i:=i - 1) (by omega)
  refine wpS_bind (zB q ?_)
  have P:u.toList.length=u.size:=Array.length_toList
  have b:(u.toList.drop 0).take (j - 1)=u.toList.take (j - 1):=by rw[List.drop_zero]
  refine wpS_bind (Xp L O (T.dv x (List.mem_of_getElem? q)) (λz f=>T.du z (List.mem_of_mem_drop (List.mem_of_mem_take f))) (by omega) (by omega) (by rw[b];exact T.su.sublist (List.take_sublist _ _)) λp N J g2=>?_)
  rw[b]at J g2
  dsimp only
  have H:=WK T.sv h0 q
  have G:=F.runB T N λz f a Q=>LE.trans (H a Q) (g2 z f)
  have M:∀ z∈u.toList.take p,LE κ z x:=λz f=>KeyOrd.kle_of_klt (J z (by rw[List.take_take,Nat.min_eq_left N];exact f))
  by_cases I:j - 1 - p > 0
  .rw[if_pos I]
   by_cases C:p=1
   .rw[if_pos (beq_iff_eq.mpr C)]
    exact wpS_pure ⟨rfl,.inl ⟨_,rfl,za7 T G C l⟩⟩
   .rw[if_neg (λz=>C (beq_iff_eq.mp z))]
    by_cases B:p=0
    .rw[if_pos (beq_iff_eq.mpr B)]
     exact wpS_pure ⟨rfl,.inl ⟨_,rfl,Wj T G (.inr B)⟩⟩
    .rw[if_neg (λz=>B (beq_iff_eq.mp z))]
     exact zez T G h0 (by omega) q M (by omega)
  .rw[if_neg I]
   obtain rfl:p=j - 1:=by omega
   exact zez T F h0 (by omega) q M (by omega)
theorem zdv (L:LtE prog w A E s κ k D)(B:kindOf st=k)(T:Two κ D v u)(l:∀ x∈v.toList,∀ y,u.toList[0]?=some y->LE κ y x)(m:MH κ v u o i j)(h0:0 < i)(J:1 < j)(Q:i+j<=n):wpS (model prog w) A E s (hiA v u o i j g c d) (λr t=>Sm st t/\Gj2 κ v u n r) st:=by
 unfold hiA
 refine wpS_bind (vt λt e=>?_)
 have R:=m.li
 have S:=m.lj
 obtain⟨y,q⟩:=ZB (v:=u) (i:=j - 1) (by omega)
 refine wpS_bind (zB q ?_)
 have O:v.toList.length=v.size:=Array.length_toList
 have b:(v.toList.drop 0).take i=v.toList.take i:=by rw[List.drop_zero]
 refine wpS_bind (Wa L (e.kd.trans B) (T.du y (List.mem_of_getElem? q)) (λz f=>T.dv z (List.mem_of_mem_drop (List.mem_of_mem_take f))) (by omega) (by omega) (by rw[b];exact T.sv.sublist (List.take_sublist _ _)) λp M H g2=>?_)
 rw[b]at H g2
 dsimp only
 have F:=WK T.su (i:=j) (by omega) q
 have I:=m.runA T M λz f a P=>LE.trans (F a P) (KeyOrd.kle_of_klt (g2 z f))
 have K:∀ z∈v.toList.take p,LE κ z y:=λz f=>H z (by rw[List.take_take,Nat.min_eq_left M];exact f)
 by_cases G:i - p > 0
 .rw[if_pos G]
  by_cases C:p=0
  .rw[if_pos (beq_iff_eq.mpr C)]
   exact wpS_pure ⟨e,.inl ⟨_,rfl,Wj T I (.inl C)⟩⟩
  .rw[if_neg (λz=>C (beq_iff_eq.mp z))]
   exact wpS_mono (zef L (e.kd.trans B) T l I (by omega) J q K (by omega)) λr N h=>⟨h.1 ▸ e,h.2⟩
 .rw[if_neg G]
  obtain rfl:p=i:=by omega
  exact wpS_mono (zef L (e.kd.trans B) T l m h0 J q K Q) λr N h=>⟨h.1 ▸ e,h.2⟩
noncomputable def Oj1 (κ:KeyKind)(v u:KA)(n:Nat)(c:Y1):Prop:=(∃ r,c.1=some r/\Fn κ v u r)\/(c.1=none/\(0 < c.2.1/\1 < c.2.2.1)/\MH κ v u c.2.2.2.1 c.2.1 c.2.2.1/\c.2.1+c.2.2.1<=n)
noncomputable def Gj1 (κ:KeyKind)(v u:KA)(n:Nat):ForInStep Y1->Prop
 | .done c=>Oj1 κ v u n c
 | .yield c=>c.1=none/\(0 < c.2.1/\1 < c.2.2.1)/\MH κ v u c.2.2.2.1 c.2.1 c.2.2.1/\c.2.1+c.2.2.1<=n
theorem zfI (L:LtE prog w A E s κ k D)(F:kindOf st=k)(T:Two κ D v u)(B:∀ x∈v.toList,∀ y,u.toList[0]?=some y->LE κ y x){z:Y1}(m:MH κ v u z.2.2.2.1 z.2.1 z.2.2.1)(h0:0 < z.2.1/\1 < z.2.2.1):wpS (model prog w) A E s (zlv v u g z) (λr t=>t=st/\Gj1 κ v u (z.2.1+z.2.2.1 - 1) r) st:=by
 obtain⟨r,i,j,o,c,d⟩:=z
 dsimp only at m h0 ⊢
 obtain⟨h0,C⟩:=h0
 have G:=m.li
 have H:=m.lj
 unfold zlv
 obtain⟨y,h⟩:=ZB (v:=u) (i:=j - 1) (by omega)
 obtain⟨x,l⟩:=ZB (v:=v) (i:=i - 1) (by omega)
 refine wpS_bind (zB h (wpS_bind (zB l (wpS_bind (L _ _ _ _ F (T.du y (List.mem_of_getElem? h)) (T.dv x (List.mem_of_getElem? l)) ?_)))))
 dsimp only
 have n:=WK T.sv h0 l
 have q:=WK T.su (i:=j) (by omega) h
 cases e:κ.blt (ky κ y) (ky κ x) with
 | true =>
  rw[if_pos rfl]
  refine wpS_bind (zB l ?_)
  have f:=m.pushA T h0 l λa p=>LE.trans (q a p) (KeyOrd.kle_of_klt e)
  by_cases b:i - 1=0
  .rw[if_pos (beq_iff_eq.mpr b)]
   exact wpS_pure ⟨rfl,.inl ⟨_,rfl,Wj T f (.inl b)⟩⟩
  .rw[if_neg (λz=>b (beq_iff_eq.mp z))]
   split
   .exact wpS_pure ⟨rfl,.inr ⟨rfl,⟨by show 0 < i - 1;omega,C⟩,f,by show i - 1+j<=i+j - 1;omega⟩⟩
   .exact wpS_pure ⟨rfl,rfl,⟨by show 0 < i - 1;omega,C⟩,f,by show i - 1+j<=i+j - 1;omega⟩
 | false =>
  rw[if_neg Bool.false_ne_true]
  refine wpS_bind (zB h ?_)
  have f:=m.pushB T (by omega) h λa p=>LE.trans (κ:=κ) (y:=x) (n a p) e
  by_cases b:j - 1=1
  .rw[if_pos (beq_iff_eq.mpr b)]
   exact wpS_pure ⟨rfl,.inl ⟨_,rfl,za7 T f b B⟩⟩
  .rw[if_neg (λz=>b (beq_iff_eq.mp z))]
   split
   .exact wpS_pure ⟨rfl,.inr ⟨rfl,⟨h0,by show 1 < j - 1;omega⟩,f,by show i+(j - 1)<=i+j - 1;omega⟩⟩
   .exact wpS_pure ⟨rfl,rfl,⟨h0,by show 1 < j - 1;omega⟩,f,by show i+(j - 1)<=i+j - 1;omega⟩
theorem zgc {z:Y2}(L:LtE prog w A E s κ k D)(b:kindOf st=k)(T:Two κ D v u)(a:∀ x∈v.toList,∀ y,u.toList[0]?=some y->LE κ y x)(m:MH κ v u z.2.2.2.1 z.2.1 z.2.2.1)(h0:0 < z.2.1/\1 < z.2.2.1)(c:z.2.1+z.2.2.1<=n):wpS (model prog w) A E s (zlB v u z) (λr t=>Sm st t/\Gj2 κ v u n r) st:=by
 unfold zlB
 split
 .exact zdv L b T a m h0.1 h0.2 c
 .exact zdv L b T a m h0.1 h0.2 c
noncomputable def Gj3 (κ:KeyKind)(v u:KA)(n:Nat):ForInStep Y3->Prop
 | .done c=>∃ r,c.1=some r/\Fn κ v u r
 | .yield c=>c.1=none/\(0 < c.2.1/\1 < c.2.2.1)/\MH κ v u c.2.2.2.1 c.2.1 c.2.2.1/\c.2.1+c.2.2.1<=n
theorem zfF {z:Y3}(L:LtE prog w A E s κ k D)(G:kindOf st=k)(T:Two κ D v u)(i:∀ x∈v.toList,∀ y,u.toList[0]?=some y->LE κ y x)(m:MH κ v u z.2.2.2.1 z.2.1 z.2.2.1)(h0:0 < z.2.1/\1 < z.2.2.1):wpS (model prog w) A E s (zlj v u z) (λr t=>Sm st t/\Gj3 κ v u (z.2.1+z.2.2.1 - 1) r) st:=by
 unfold zlj
 have U:=m.li
 have V:=m.lj
 refine wpS_bind (wpS_mono (wpS_forRange (I:=λx c t=>t=st/\c.1=none/\(0 < c.2.1/\1 < c.2.2.1)/\MH κ v u c.2.2.2.1 c.2.1 c.2.2.1/\(x=0\/c.2.1+c.2.2.1<=z.2.1+z.2.2.1 - 1)/\c.2.1+c.2.2.1<=z.2.1+z.2.2.1) (Q:=λc t=>t=st/\Oj1 κ v u (z.2.1+z.2.2.1 - 1) c)
  (λx c t _ _ b=>?_) (λc t b=>?_) ⟨rfl,rfl,h0,m,.inl rfl,Nat.le_refl _⟩) λy t b=>?_)
 .obtain⟨rfl,n,l,F,j,J⟩:=b
  refine wpS_mono (zfI L G T i F l) λr g h=>?_
  obtain⟨rfl,a⟩:=h
  cases r with
  | done o =>
   rcases a with a | ⟨B,C,q,H⟩
   .exact⟨rfl,.inl a⟩
   .exact⟨rfl,.inr ⟨B,C,q,by omega⟩⟩
  | yield o =>
   obtain⟨B,C,q,H⟩:=a
   exact⟨rfl,B,C,q,.inr (by omega),by omega⟩
 .obtain⟨rfl,n,l,F,j,J⟩:=b
  refine⟨rfl,.inr ⟨n,l,F,?_⟩⟩
  rcases j with j | j
  .exfalso
   have:max 0 (v.size+u.size)=v.size+u.size:=by omega
   omega
  .exact j
 .obtain⟨rfl,M⟩:=b
  rcases M with ⟨r,e,a⟩ | ⟨e,S,K,n⟩
  .rw[e]
   exact wpS_pure ⟨Sm.refl _,r,rfl,a⟩
  .rw[e]
   dsimp only
   refine wpS_bind (wpS_lift (wpAny_rule ⟨rfl,?_⟩))
   refine wpS_bind (wpS_mono (wpS_forRange (I:=λx c g=>Sm t g/\c.1=none/\(0 < c.2.1/\1 < c.2.2.1)/\MH κ v u c.2.2.2.1 c.2.1 c.2.2.1/\c.2.1+c.2.2.1<=z.2.1+z.2.2.1 - 1) (Q:=λc g=>Sm t g/\Oj2 κ v u (z.2.1+z.2.2.1 - 1) c)
    (λx c g _ _ b=>?_) (λc g b=>?_) ⟨Sm.refl _,rfl,S,K,n⟩) λx g b=>?_)
   .obtain⟨f,b1,b2,b3,p⟩:=b
    refine wpS_mono (zgc L (f.kd.trans G) T i b3 b2 p) λr P h=>?_
    obtain⟨d,a⟩:=h
    cases r with
    | done o=>exact⟨f.trans d,a⟩
    | yield o=>exact⟨f.trans d,a⟩
   .obtain⟨f,b1,b2,b3,p⟩:=b
    exact⟨f,.inr ⟨b1,b2,b3,p⟩⟩
   .obtain⟨f,N⟩:=b
    rcases N with ⟨r,e,a⟩ | ⟨e,R,O,l⟩
    .rw[e]
     exact wpS_pure ⟨f,r,rfl,a⟩
    .rw[e]
     exact wpS_bind (vt λP d=>wpS_pure ⟨f.trans d,rfl,R,O,l⟩)
theorem zhQ {P:KA->SortSt->Prop}(L:LtE prog w A E s κ k D)(p:kindOf st=k)(T:Two κ D v u)(G:0 < v.size)(J:0 < u.size)(top:∀ y∈u.toList,∀ x,v.toList[v.size - 1]?=some x->LE κ y x)(f:∀ x∈v.toList,∀ y,u.toList[0]?=some y->LE κ y x)
 (h:∀ r t,Sm st t->Fn κ v u r->P r t):wpS (model prog w) A E s (mhi v u) P st:=by
 rw[zjb]
 refine wpS_bind (wpS_lift (wpAny_rule ⟨rfl,?_⟩))
 obtain⟨x,o⟩:=ZB (v:=v) (i:=v.size - 1) (by omega)
 refine wpS_bind (zB o ?_)
 have B:MH κ v u #[] v.size u.size:=⟨Nat.le_refl _,Nat.le_refl _,by
  rw[Nat.sub_self,Nat.sub_self]
  exact⟨Nat.zero_le _,Nat.zero_le _,List.Perm.refl _,List.Pairwise.nil,(λz j=>by cases j),(λz j=>by cases j)⟩⟩
 have l:MH κ v u #[x] (v.size - 1) u.size:=B.pushA T G o λy F=>top y (List.mem_of_mem_take F) x o
 by_cases n:v.size - 1=0
 .rw[if_pos (beq_iff_eq.mpr n)]
  exact wpS_pure (h _ _ (Sm.refl _) (Wj T l (.inl n)))
 rw[if_neg (λz=>n (beq_iff_eq.mp z))]
 by_cases m:u.size=1
 .rw[if_pos (beq_iff_eq.mpr m)]
  exact wpS_pure (h _ _ (Sm.refl _) (za7 T l m f))
 rw[if_neg (λz=>m (beq_iff_eq.mp z))]
 refine wpS_bind (wpS_get ?_)
 refine wpS_bind (wpS_mono (wpS_forRange (I:=λx c t=>Sm st t/\c.1=none/\(0 < c.2.1/\1 < c.2.2.1)/\MH κ v u c.2.2.2.1 c.2.1 c.2.2.1/\x+(c.2.1+c.2.2.1)<=v.size+u.size) (Q:=λc t=>Sm st t/\∃ r,c.1=some r/\Fn κ v u r)
  (λx c t _ _ g=>?_) (λc t g=>?_) ⟨Sm.refl _,rfl,⟨by show 0 < v.size - 1;omega,by show 1 < u.size;omega⟩,l,by show 0+(v.size - 1+u.size)<=v.size+u.size;omega⟩) λy t g=>?_)
 .obtain⟨b,b1,b2,b3,C⟩:=g
  refine wpS_mono (zfF L (b.kd.trans p) T f b3 b2) λr H h=>?_
  obtain⟨d,a⟩:=h
  cases r with
  | done q=>exact⟨b.trans d,a⟩
  | yield q=>exact⟨b.trans d,a.1,a.2.1,a.2.2.1,by have:=a.2.2.2;omega⟩
 .obtain⟨b,b1,b2,b3,C⟩:=g
  exfalso
  have:max 0 (v.size+u.size)=v.size+u.size:=by omega
  omega
 .obtain⟨b,r,e,a⟩:=g
  rw[e]
  exact wpS_pure (h r t b a)
end
noncomputable abbrev Pd:=Array (Nat × Nat × Nat)
theorem zjN (i:Nat):mergeAt' i=(do
 let z<-get
 let (some (a,m,p),some (b,n,_)):=((pendingOf z)[i]?,(pendingOf z)[i+1]?) | (unsupported ("internal:list.sort.pending"))
 set (setPending z (((pendingOf z).setIfInBounds i (a,m+n,p)).eraseIdxIfInBounds (i+1)))
 let some k<-gal false (<- elem' (arrOf z) b) (arrOf z) a m 0 | return false
 let (a,m):=(a+k,m - k)
 if m == 0 then return true
 let some n<-gal true (<- elem' (arrOf z) (a+m - 1)) (arrOf z) b n (n - 1) | return false
 if n == 0 then return true
 let x:=(arrOf z).extract a b
 let y:=(arrOf z).extract b (b+n)
 let r<-if m<=n then mlo x y else mhi x y
 modify λs=>setArr s (r.toList.zipIdx.foldl (λx (y,j)=>x.setIfInBounds (a+j) y) (arrOf s))
 return (failedOf (<- get)).isNone):=rfl
theorem zf0:∀ (m:List Keyed) (x:KA) (b n:Nat),b+n+m.length<=x.size->((m.zipIdx n).foldl (λx z=>x.setIfInBounds (b+z.2) z.1) x).toList=x.toList.take (b+n)++m++x.toList.drop (b+n+m.length):=by
 intro m
 induction m with
 | nil=>intro x b n h;simp
 | cons y m d =>
  intro x b n h
  rw[List.length_cons]at h
  rw[List.zipIdx_cons,List.foldl_cons]
  rw[d (x.setIfInBounds (b+n) y) b (n+1) (by rw[Array.size_setIfInBounds];omega)]
  rw[Array.toList_setIfInBounds,List.length_cons,show b+(n+1)=b+n+1 by omega,show b+n+1+m.length=b+n+(m.length+1) by omega]
  have c:b+n < x.toList.length:=by rw[Array.length_toList];omega
  rw[List.drop_set_of_lt (by omega),List.take_set]
  have a:(x.toList.take (b+n+1)).set (b+n) y=x.toList.take (b+n)++[y]:=by
   rw[List.take_add_one,List.getElem?_eq_getElem c]
   have:(x.toList.take (b+n)).length=b+n:=by rw[List.length_take];omega
   rw[List.set_append_right _ _ (by omega),this,Nat.sub_self]
   rfl
  rw[a,List.append_assoc,List.append_assoc,List.append_assoc]
  rfl
theorem vq {l:List Keyed}{a m k:Nat}(h:k<=m):l.take (a+k)=l.take a++((l.drop a).take m).take k:=by
 rw[List.take_add,List.take_take,Nat.min_eq_left h]
theorem zfG {l:List Keyed}{b n q:Nat}(h:q<=n)(c:b+n<=l.length):l.drop (b+q)=((l.drop b).take n).drop q++l.drop (b+n):=by
 have e:(l.drop b).take n++(l.drop b).drop n=l.drop b:=List.take_append_drop n (l.drop b)
 rw[<-List.drop_drop,<- List.drop_drop]
 have a:(l.drop b).drop q=((l.drop b).take n++(l.drop b).drop n).drop q:=by rw[e]
 rw[a,List.drop_append_of_le_length (by rw[List.length_take,List.length_drop];omega)]
theorem zhh {a:Program}{w:World}{A:Around}{E:Value->Shared->Prop}{s:Shared}{b z:SortSt}{Q:PUnit->SortSt->Prop}(h:Q ⟨⟩ z):wpS (model a w) A E s (set z:SM PUnit) Q b:=wpS_modify (f:=λ_=>z) h
section
variable {prog:Program}{w:World}{A:Around}{E:Value->Shared->Prop}{s:Shared}{st:SortSt}{κ:KeyKind}{k:SortKind}{D:Keyed->Prop}
theorem zkE {l r:List Keyed}{q:Keyed}(e:l.Pairwise (LE κ))(d:r.Pairwise (LE κ))(c:∀ x∈l,LE κ x q)(f:∀ y∈r,LE κ q y):(l++r).Pairwise (LE κ):=by
 rw[List.pairwise_append]
 exact⟨e,d,λx b y a=>LE.trans (c x b) (f y a)⟩
theorem ziu {P:Bool->SortSt->Prop}{i a m p b n x:Nat}{l S1 S2:List Keyed}(L:LtE prog w A E s κ k D)(X:kindOf st=k)(hf:failedOf st=none)(h1:(pendingOf st)[i]?=some (a,m,p))(h2:(pendingOf st)[i+1]?=some (b,n,x))
 (g:(arrOf st).toList=l) (hd:∀ x∈l,D x) (hb:a+m=b) (hn:b+n<=l.length) (m0:0 < m) (n0:0 < n) (u:(l.drop a).take m=S1) (o:(l.drop b).take n=S2) (G:S1.Pairwise (LE κ)) (F:S2.Pairwise (LE κ))
 (h:∀ t M,kindOf t=k->failedOf t=none->pendingOf t=((pendingOf st).setIfInBounds i (a,m+n,p)).eraseIdxIfInBounds (i+1)->(arrOf t).toList=l.take a++M++l.drop (b+n)->M.Perm (S1++S2)->M.Pairwise (LE κ)->P true t):wpS (model prog w) A E s (mergeAt' i) P st:=by
 have a0:(arrOf st).size=l.length:=by rw[<-g,Array.length_toList]
 have l1:S1.length=m:=by rw[<-u,List.length_take,List.length_drop];omega
 have l2:S2.length=n:=by rw[<-o,List.length_take,List.length_drop];omega
 have j:l=l.take a++(S1++S2)++l.drop (b+n):=by
  have q1:=vq (l:=l) (a:=a) (Nat.le_refl m)
  rw[u,show S1.take m=S1 from List.take_of_length_le (by omega),hb]at q1
  have q2:=vq (l:=l) (a:=b) (Nat.le_refl n)
  rw[o,show S2.take n=S2 from List.take_of_length_le (by omega),q1]at q2
  have q3:=List.take_append_drop (b+n) l
  rw[q2]at q3
  rw[<-List.append_assoc]
  exact q3.symm
 have O:∀ {i x},S1[i]?=some x->l[a+i]?=some x:=λ{i x} e=>by
  have hi:i < m:=by have:=(List.getElem?_eq_some_iff.mp e).1;omega
  rw[<-u,List.getElem?_take_of_lt hi,List.getElem?_drop]at e
  exact e
 have R:∀ {i x},S2[i]?=some x->l[b+i]?=some x:=λ{i x} e=>by
  have hi:i < n:=by have:=(List.getElem?_eq_some_iff.mp e).1;omega
  rw[<-o,List.getElem?_take_of_lt hi,List.getElem?_drop]at e
  exact e
 have Z:∀ x∈S1,D x:=λx d=>hd x (by rw[<-u]at d;exact List.mem_of_mem_drop (List.mem_of_mem_take d))
 have Y:∀ x∈S2,D x:=λx d=>hd x (by rw[<-o]at d;exact List.mem_of_mem_drop (List.mem_of_mem_take d))
 rw[zjN]
 refine wpS_bind (wpS_get ?_)
 dsimp only
 rw[h1,h2]
 dsimp only
 refine wpS_bind (zhh ?_)
 obtain⟨y0,B⟩:∃ y,S2[0]?=some y:=⟨_,List.getElem?_eq_getElem (by omega)⟩
 refine wpS_bind (zB (by rw[g];exact R B) ?_)
 have H:∀ y∈S2,LE κ y0 y:=λy f=>Zc (LE.refl (κ:=κ)) F B y (by rw[List.drop_zero];exact f)
 have C:kindOf (setPending st (((pendingOf st).setIfInBounds i (a,m+n,p)).eraseIdxIfInBounds (i+1)))=k:=X
 refine wpS_bind (Wa L C (Y y0 (List.mem_of_getElem? B)) (λz Q=>Z z (by rw[g,u]at Q;exact Q)) (by rw[g];omega) (by omega) (by rw[g,u];exact G) λc hc V g2=>?_)
 rw[g,u]at V g2
 dsimp only
 by_cases c0:m - c=0
 .rw[if_pos (beq_iff_eq.mpr c0)]
  refine wpS_pure (h _ (S1++S2) X hf rfl (by show(arrOf st).toList=_;rw[g];exact j) (List.Perm.refl _) (zkE G F (λx d=>V x ?_) H))
  rw[List.take_of_length_le (by omega)]
  exact d
 rw[if_neg (λz=>c0 (beq_iff_eq.mp z))]
 obtain⟨x0,v⟩:∃ x,S1[m - 1]?=some x:=⟨_,List.getElem?_eq_getElem (by omega)⟩
 refine wpS_bind (zB (x:=x0) (by rw[g,show a+c+(m - c) - 1=a+(m - 1) by omega];exact O v) ?_)
 have S:∀ x∈S1,LE κ x x0:=λx d=>WK G (i:=m) (by omega) v x (by rw[List.take_of_length_le (by omega)];exact d)
 refine wpS_bind (Xp L C (Z x0 (List.mem_of_getElem? v)) (λz Q=>Y z (by rw[g,o]at Q;exact Q)) (by rw[g];omega) (by omega) (by rw[g,o];exact F) λq hq g3 g4=>?_)
 rw[g,o]at g3 g4
 dsimp only
 by_cases q0:q=0
 .rw[if_pos (beq_iff_eq.mpr q0)]
  subst q0
  exact wpS_pure (h _ (S1++S2) X hf rfl (by show(arrOf st).toList=_;rw[g];exact j) (List.Perm.refl _) (zkE G F S g4))
 rw[if_neg (λz=>q0 (beq_iff_eq.mp z))]
 have J:((arrOf st).extract (a+c) b).toList=S1.drop c:=by
  rw[xv,g,<- u,List.drop_take,List.drop_drop,show b - (a+c)=m - c by omega]
 have I:((arrOf st).extract b (b+q)).toList=S2.take q:=by
  rw[xv,g,<- o,List.take_take,Nat.add_sub_cancel_left,Nat.min_eq_left hq]
 have T:Two κ D ((arrOf st).extract (a+c) b) ((arrOf st).extract b (b+q)):=by
  refine⟨?_,?_,?_,?_⟩
  .rw[J];exact λx d=>Z x (List.mem_of_mem_drop d)
  .rw[I];exact λx d=>Y x (List.mem_of_mem_take d)
  .rw[J];exact G.sublist (List.drop_sublist _ _)
  .rw[I];exact F.sublist (List.take_sublist _ _)
 have zv:((arrOf st).extract (a+c) b).size=m - c:=by rw[<-Array.length_toList,J,List.length_drop];omega
 have zu:((arrOf st).extract b (b+q)).size=q:=by rw[<-Array.length_toList,I,List.length_take];omega
 have top:∀ y∈((arrOf st).extract b (b+q)).toList,∀ x,((arrOf st).extract (a+c) b).toList[((arrOf st).extract (a+c) b).size - 1]?=some x->LE κ y x:=by
  intro y f x d
  rw[I]at f
  rw[zv,J,List.getElem?_drop,show c+(m - c - 1)=m - 1 by omega,v]at d
  cases d
  exact KeyOrd.kle_of_klt (g3 y f)
 have N:∀ x∈((arrOf st).extract (a+c) b).toList,∀ y,((arrOf st).extract b (b+q)).toList[0]?=some y->LE κ y x:=by
  intro x d y f
  rw[J]at d
  rw[I,List.getElem?_take_of_lt (by omega),B]at f
  cases f
  exact KeyOrd.kle_of_klt (g2 x d)
 have fin:∀ r t,Sm (setPending st (((pendingOf st).setIfInBounds i (a,m+n,p)).eraseIdxIfInBounds (i+1))) t->Fn κ ((arrOf st).extract (a+c) b) ((arrOf st).extract b (b+q)) r->wpS (model prog w) A E s (do
  modify λs=>setArr s (r.toList.zipIdx.foldl (λx z=>x.setIfInBounds (a+c+z.2) z.1) (arrOf s))
  let z<-get
  pure (failedOf z).isNone:SM Bool) P t:=λr t W hr=>by
  refine wpS_bind (wpS_modify (wpS_bind (wpS_get ?_)))
  have U:failedOf t=none:=W.fl.trans hf
  show wpS _ _ _ _ (pure (failedOf t).isNone) _ _
  rw[U]
  have ha:arrOf t=arrOf st:=W.ar
  obtain⟨K,rs⟩:=hr
  rw[J,I]at K
  have rl:r.toList.length=m - c+q:=by rw[K.length_eq,List.length_append,List.length_drop,List.length_take];omega
  refine wpS_pure (h _ (S1.take c++r.toList++S2.drop q) (W.kd.trans X) U W.pd ?_ ?_ ?_)
  .show((r.toList.zipIdx.foldl (λx z=>x.setIfInBounds (a+c+z.2) z.1) (arrOf t))).toList=_
   rw[ha,zf0 r.toList (arrOf st) (a+c) 0 (by rw[rl,a0];omega),g,Nat.add_zero,rl,show a+c+(m - c+q)=b+q by omega,vq (l:=l) (a:=a) hc,u,zfG hq hn,o]
   simp only[List.append_assoc]
  .refine((K.append_left (S1.take c)).append_right (S2.drop q)).trans ?_
   rw[<-List.append_assoc,List.take_append_drop,List.append_assoc,List.take_append_drop]
  .rw[List.append_assoc]
   have s3:(r.toList++S2.drop q).Pairwise (LE κ):=by
    rw[List.pairwise_append]
    refine⟨rs,F.sublist (List.drop_sublist _ _),λx d y f=>?_⟩
    rcases List.mem_append.mp (K.mem_iff.mp d)with d | d
    .exact LE.trans (S x (List.mem_of_mem_drop d)) (g4 y f)
    .have:=List.take_append_drop q S2
     rw[<-this,List.pairwise_append]at F
     exact F.2.2 x d y f
   rw[List.pairwise_append]
   refine⟨G.sublist (List.take_sublist _ _),s3,λx d y f=>?_⟩
   rcases List.mem_append.mp f with f | f
   .rcases List.mem_append.mp (K.mem_iff.mp f)with f | f
    .have:=List.take_append_drop c S1
     rw[<-this,List.pairwise_append]at G
     exact G.2.2 x d y f
    .exact LE.trans (V x d) (H y (List.mem_of_mem_take f))
   .exact LE.trans (V x d) (H y (List.mem_of_mem_drop f))
 by_cases cc:m - c<=q
 .rw[if_pos cc]
  exact wpS_bind (zio L C T (by omega) (by omega) top N fin)
 .rw[if_neg cc]
  exact wpS_bind (zhQ L C T (by omega) (by omega) top N fin)
end
noncomputable def zkb (b a n:Nat):SM AscSt :=
 forIn [a:n] ((none,a):AscSt) λ_ c=>do
  let some z<-ltAt' (b+c.2) (b+c.2 - 1) | pure (.done (some none,c.2))
  if z=true then pure (.done (none,c.2))else pure (.yield (none,c.2+1))
noncomputable def zc3 (a n m:Nat):SM (Option Nat):=do
 reverseSlice' a (a+n)
 let c<-zkb a n m
 match c.1 with
 | some r=>pure r
 | none=>pure (some c.2)
noncomputable def zeZ (a n m:Nat):SM DescSt :=
 forIn [n:m] ((none,n,0):DescSt) λ_ c=>do
  let some z<-ltAt' (a+c.2.1) (a+c.2.1 - 1) | pure (.done (some none,c.2.1,c.2.2))
  if z=true then
   if c.2.2 > 0 then do
    reverseSlice' (a+c.2.1 - (c.2.2+1)) (a+c.2.1)
    pure (.yield (none,c.2.1+1,0))
   else pure (.yield (none,c.2.1+1,0))
  else do
   let some y<-ltAt' (a+c.2.1 - 1) (a+c.2.1) | pure (.done (some none,c.2.1,c.2.2))
   if y=true then pure (.done (none,c.2.1,c.2.2))else pure (.yield (none,c.2.1+1,c.2.2+1))
noncomputable def zdK (a n m:Nat):SM (Option Nat):=do
 (rule ("list.sort.descending-run"))
 let c<-zeZ a (n+1) m
 match c.1 with
 | some r=>pure r
 | none =>
  if c.2.2 > 0 then do
   reverseSlice' (a+c.2.1 - (c.2.2+1)) (a+c.2.1)
   zc3 a c.2.1 m
  else zc3 a c.2.1 m
theorem zd9 (a m:Nat):countRun' a m=(do
 let c<-zkb a 1 m
 match c.1 with
 | some r=>pure r
 | none =>
  if (c.2 == m)=true then pure (some c.2)
  else if c.2 > 1 then do
   let some z<-ltAt' a (a+c.2 - 1) | pure none
   if z=true then pure (some c.2)else do
    reverseSlice' a (a+c.2)
    zdK a c.2 m
  else zdK a c.2 m):=by
 rw[countRun'_eq]
 unfold zdK zc3 zeZ zkb
 dsimp only
 congr 1
 funext c
 obtain⟨r,n⟩:=c
 cases r with
 | some r=>rfl
 | none =>
  dsimp only
  split
  .rfl
  .split
   .congr 1
    funext x
    cases x with
    | none=>rfl
    | some z =>
     dsimp only
     split
     .rfl
     .congr 1;funext _;congr 1;funext _;congr 1;funext d
      obtain⟨f,i,h⟩:=d
      cases f with
      | some f=>rfl
      | none =>
       dsimp only
       split
       .congr 1;funext _;congr 1;funext _;congr 1;funext e
        obtain⟨b,g⟩:=e
        cases b <;> rfl
       .congr 1;funext _;congr 1;funext e
        obtain⟨b,g⟩:=e
        cases b <;> rfl
   .congr 1;funext _;congr 1;funext d
    obtain⟨f,i,h⟩:=d
    cases f with
    | some f=>rfl
    | none =>
     dsimp only
     split
     .congr 1;funext _;congr 1;funext _;congr 1;funext e
      obtain⟨b,g⟩:=e
      cases b <;> rfl
     .congr 1;funext _;congr 1;funext e
      obtain⟨b,g⟩:=e
      cases b <;> rfl
structure SL (k:SortKind) (a₀ X:KA) (lo:Nat) (p:Pd) (st:SortSt):Prop where
 pm:(arrOf st).Perm a₀
 kd:kindOf st=k
 fl:failedOf st=none
 pd:pendingOf st=p
 bl:∀ i,i < lo->(arrOf st)[i]?=X[i]?
noncomputable def SO (κ:KeyKind)(a:KA)(b n:Nat):Prop:=∀ i j,i<=j->j < n->κ.kle (KK κ a (b+i)) (KK κ a (b+j))
noncomputable def NO (κ:KeyKind)(a:KA)(b n:Nat):Prop:=∀ i j,i<=j->j < n->κ.kle (KK κ a (b+j)) (KK κ a (b+i))
section
variable {prog:Program}{w:World}{A:Around}{E:Value->Shared->Prop}{s:Shared}{st:SortSt}{κ:KeyKind}{k:SortKind}{a₀ X:KA}{lo:Nat}{p:Pd}
theorem SL.sz (S:SL k a₀ X lo p st):(arrOf st).size=a₀.size:=S.pm.size_eq
theorem SL.put (S:SL k a₀ X lo p st){a:KA}(h:a.Perm (arrOf st))(b:∀ i,i < lo->a[i]?=(arrOf st)[i]?):SL k a₀ X lo p (setArr st a):=⟨h.trans S.pm,S.kd,S.fl,S.pd,λi c=>(b i c).trans (S.bl i c)⟩
theorem SL.mirror (S:SL k a₀ X lo p st){i j:Nat}(c:lo<=i)(a:j<=a₀.size):SL k a₀ X lo p (setArr st (mirror (arrOf st) i j ((j - i) / 2))) :=
 S.put (mirror_perm _ _ _ _) λq b=>by rw[getElem?_mirror_all (by rw[S.sz];exact a),if_neg (by omega)]
theorem zcy {a:KA}{i:Nat}{x:Keyed}(h:a[i]?=some x):KK κ a i=ky κ x:=by
 unfold KK
 rw[h]
 rfl
theorem vE {i j:Nat}{Q:Option Bool->SortSt->Prop}(L:LtE prog w A E s κ k (·∈a₀.toList))(S:SL k a₀ X lo p st)(b:i < a₀.size)(g:j < a₀.size)(q:Q (some (κ.blt (KK κ (arrOf st) i) (KK κ (arrOf st) j))) st):wpS (model prog w) A E s (ltAt' i j) Q st:=by
 have a:∀ {i},i < a₀.size->∃ x,(arrOf st)[i]?=some x/\x∈a₀.toList:=λ{i} b=>by
  have c:i < (arrOf st).size:=by rw[S.sz];exact b
  exact⟨(arrOf st)[i],getElem?_pos _ i c,(Array.perm_iff_toList_perm.mp S.pm).mem_iff.mp (by simp)⟩
 obtain⟨x,d,f⟩:=a b
 obtain⟨y,e,h⟩:=a g
 rw[zcy d,zcy e]at q
 rw[ltAt'_eq]
 refine wpS_bind (wpS_get ?_)
 show wpS _ _ _ _ (elem' (arrOf st) i>>=λx=>elem' (arrOf st) j>>=λy=>lt' x y) Q st
 rw[elem'_eq,elem'_eq,d,e]
 exact wpS_bind (wpS_pure (wpS_bind (wpS_pure (L _ _ _ _ S.kd f h q))))
theorem SO.up {a:KA}{x:Nat}(h:SO κ a lo x)(g:1<=x)(e:κ.kle (KK κ a (lo+x - 1)) (KK κ a (lo+x))):SO κ a lo (x+1):=λi j b f=>by
 by_cases c:j < x
 .exact h i j b c
 .obtain rfl:j=x:=by omega
  by_cases d:i=j
  .rw[d];exact KeyOrd.kle_refl _
  .have:=h i (j - 1) (by omega) (by omega)
   rw[show lo+(j - 1)=lo+j - 1 by omega]at this
   exact KeyOrd.kle_trans this e
theorem NO.down {a:KA}{x:Nat}(h:NO κ a lo x)(g:1<=x)(e:κ.kle (KK κ a (lo+x)) (KK κ a (lo+x - 1))):NO κ a lo (x+1):=λi j b f=>by
 by_cases c:j < x
 .exact h i j b c
 .obtain rfl:j=x:=by omega
  by_cases d:i=j
  .rw[d];exact KeyOrd.kle_refl _
  .have:=h i (j - 1) (by omega) (by omega)
   rw[show lo+(j - 1)=lo+j - 1 by omega]at this
   exact KeyOrd.kle_trans e this
theorem SO.one {b:KA}:SO κ b lo 1:=λi j a c=>by
 obtain rfl:i=j:=by omega
 exact KeyOrd.kle_refl _
theorem NO.one {b:KA}:NO κ b lo 1:=λi j a c=>by
 obtain rfl:i=j:=by omega
 exact KeyOrd.kle_refl _
theorem NO.of {b c:KA}{n:Nat}(h:NO κ b lo n)(e:∀ i,KK κ c i=KK κ b i):NO κ c lo n:=λi j a d=>by rw[e,e];exact h i j a d
theorem NO.turn {a:KA}{n:Nat}(h:NO κ a lo n)(b:lo+n<=a.size):SO κ (mirror a lo (lo+n) ((lo+n - lo) / 2)) lo n:=λi j c d=>by
 rw[KK_mirror b,KK_mirror b,if_pos ⟨by omega,by omega⟩,if_pos ⟨by omega,by omega⟩]
 have:=h (n - 1 - j) (n - 1 - i) (by omega) (by omega)
 rw[show lo+(n - 1 - i)=lo+(lo+n) - 1 - (lo+i) by omega,show lo+(n - 1 - j)=lo+(lo+n) - 1 - (lo+j) by omega]at this
 exact this
theorem za2 {a n:Nat}{Q:AscSt->SortSt->Prop}(L:LtE prog w A E s κ k (·∈a₀.toList))(l:lo+n<=a₀.size)(j:1<=a)(f:a<=n)(S:SL k a₀ X lo p st)(i:SO κ (arrOf st) lo a)
 (h:∀ m,a<=m->m<=n->SO κ (arrOf st) lo m->(m=n\/κ.klt (KK κ (arrOf st) (lo+m)) (KK κ (arrOf st) (lo+m - 1)))->Q (none,m) st):wpS (model prog w) A E s (zkb lo a n) Q st:=by
 unfold zkb
 refine wpS_forRange (I:=λx c t=>(t=st/\c=(none,x))/\SO κ (arrOf st) lo x) (λx c t g o d=>?_) (λc t d=>?_) ⟨⟨rfl,rfl⟩,i⟩
 .obtain⟨⟨rfl,rfl⟩,b⟩:=d
  refine wpS_bind (vE L S (by omega) (by omega) ?_)
  dsimp only
  cases c:κ.blt (KK κ (arrOf t) (lo+x)) (KK κ (arrOf t) (lo+x - 1)) with
  | true=>exact wpS_pure (h x g (by omega) b (.inr c))
  | false=>exact wpS_pure ⟨⟨rfl,rfl⟩,b.up (by omega) c⟩
 .obtain⟨⟨rfl,rfl⟩,b⟩:=d
  have e:max a n=n:=by omega
  rw[e]at b ⊢
  exact h n f (Nat.le_refl _) b (.inl rfl)
theorem W6 {n m:Nat}{Q:Option Nat->SortSt->Prop}(L:LtE prog w A E s κ k (·∈a₀.toList))(d:lo+m<=a₀.size)(e:1<=n)(a:n<=m)(S:SL k a₀ X lo p st)(b:NO κ (arrOf st) lo n)
 (h:∀ r t,SL k a₀ X lo p t->1<=r->r<=m->SO κ (arrOf t) lo r->Q (some r) t):wpS (model prog w) A E s (zc3 lo n m) Q st:=by
 unfold zc3
 have S':=S.mirror (i:=lo) (j:=lo+n) (Nat.le_refl _) (by omega)
 exact wpS_bind (wpS_reverse (wpS_bind (za2 L d e a S' (b.turn (by rw[S.sz];omega)) λr f g2 c _=>wpS_pure (h r _ S' (by omega) g2 c))))
theorem zc8 {n m:Nat}{Q:DescSt->SortSt->Prop}(L:LtE prog w A E s κ k (·∈a₀.toList))(F:lo+m<=a₀.size)(z:1<=n)(l:n<=m)(S:SL k a₀ X lo p st)(B:NO κ (arrOf st) lo n)
 (h:∀ r q t,SL k a₀ X lo p t->n<=r->r<=m->NO κ (arrOf t) lo r->q+1<=r->(∀ i,lo+r - (q+1)<=i->i < lo+r->KK κ (arrOf t) i=KK κ (arrOf t) (lo+r - 1))->Q (none,r,q) t):wpS (model prog w) A E s (zeZ lo n m) Q st:=by
 unfold zeZ
 refine wpS_forRange (I:=λx c t=>∃ q,c=(none,x,q)/\SL k a₀ X lo p t/\NO κ (arrOf t) lo x/\q+1<=x/\∀ i,lo+x - (q+1)<=i->i < lo+x->KK κ (arrOf t) i=KK κ (arrOf t) (lo+x - 1))
  (λx c t y g2 o=>?_) (λc t o=>?_) ⟨0,rfl,S,B,z,λi u g=>by rw[show i=lo+n - 1 by omega]⟩
 .obtain⟨q,rfl,S1,a,j,b⟩:=o
  dsimp only
  refine wpS_bind (vE L S1 (by omega) (by omega) ?_)
  dsimp only
  cases c:κ.blt (KK κ (arrOf t) (lo+x)) (KK κ (arrOf t) (lo+x - 1)) with
  | true =>
   have d:=a.down (by omega) (KeyOrd.kle_of_klt c)
   rw[if_pos rfl]
   by_cases f:q > 0
   .rw[if_pos f]
    exact wpS_bind (wpS_reverse (wpS_pure ⟨0,rfl,S1.mirror (by omega) (by omega),d.of (KK_mirror_equal (by rw[S1.sz];omega) b),by omega,λi u g=>by rw[show i=lo+(x+1) - 1 by omega]⟩))
   .rw[if_neg f]
    exact wpS_pure ⟨0,rfl,S1,d,by omega,λi u g=>by rw[show i=lo+(x+1) - 1 by omega]⟩
  | false =>
   rw[if_neg Bool.false_ne_true]
   refine wpS_bind (vE L S1 (by omega) (by omega) ?_)
   dsimp only
   cases g:κ.blt (KK κ (arrOf t) (lo+x - 1)) (KK κ (arrOf t) (lo+x)) with
   | true=>exact wpS_pure (h x q t S1 y (by omega) a j b)
   | false =>
    have same:KK κ (arrOf t) (lo+x)=KK κ (arrOf t) (lo+x - 1):=KeyOrd.kle_antisymm g c
    refine wpS_pure ⟨q+1,rfl,S1,a.down (by omega) g,by omega,λi D C=>?_⟩
    show KK κ (arrOf t) i=KK κ (arrOf t) (lo+x)
    by_cases v:i=lo+x
    .rw[v]
    .rw[same];exact b i (by omega) (by omega)
 .obtain⟨q,rfl,S1,a,j,b⟩:=o
  have e:max n m=m:=by omega
  rw[e]at a j b ⊢
  exact h m q t S1 l (Nat.le_refl _) a j b
theorem Vq {n m:Nat}{Q:Option Nat->SortSt->Prop}(L:LtE prog w A E s κ k (·∈a₀.toList))(c:lo+m<=a₀.size)(b:n+1<=m)(S:SL k a₀ X lo p st)(g:NO κ (arrOf st) lo (n+1))
 (h:∀ r t,SL k a₀ X lo p t->1<=r->r<=m->SO κ (arrOf t) lo r->Q (some r) t):wpS (model prog w) A E s (zdK lo n m) Q st:=by
 unfold zdK
 refine wpS_bind (wpS_lift (wpAny_rule ⟨rfl,wpS_bind (zc8 L c (by omega) b S g λr q t S1 i e d j f=>?_)⟩))
 dsimp only
 by_cases a:q > 0
 .rw[if_pos a]
  exact wpS_bind (wpS_reverse (W6 (n:=r) L c (by omega) e (S1.mirror (by omega) (by omega)) (d.of (KK_mirror_equal (by rw[S1.sz];omega) f)) h))
 .rw[if_neg a]
  exact W6 (n:=r) L c (by omega) e S1 d h
theorem zbN {m:Nat}{Q:Option Nat->SortSt->Prop}(L:LtE prog w A E s κ k (·∈a₀.toList))(d:lo+m<=a₀.size)(v:1<=m)(S:SL k a₀ X lo p st)
 (h:∀ r t,SL k a₀ X lo p t->1<=r->r<=m->SO κ (arrOf t) lo r->Q (some r) t):wpS (model prog w) A E s (countRun' lo m) Q st:=by
 rw[zd9]
 refine wpS_bind (za2 L d (Nat.le_refl 1) v S SO.one λn l q a or=>?_)
 dsimp only
 by_cases e:n=m
 .rw[if_pos (by rw[e];exact beq_self_eq_true m)]
  exact wpS_pure (h n st S l q a)
 .rw[if_neg (λz=>e (eq_of_beq z))]
  have u:=or.resolve_left e
  by_cases g:n > 1
  .rw[if_pos g]
   refine wpS_bind (vE L S (by omega) (by omega) ?_)
   dsimp only
   cases c:κ.blt (KK κ (arrOf st) lo) (KK κ (arrOf st) (lo+n - 1)) with
   | true=>exact wpS_pure (h n st S l q a)
   | false =>
    have b:∀ i,lo<=i->i < lo+n->KK κ (arrOf st) i=KK κ (arrOf st) (lo+n - 1):=λi C B=>by
     have f:=a (i - lo) (n - 1) (by omega) (by omega)
     have o:=a 0 (i - lo) (by omega) (by omega)
     rw[show lo+(i - lo)=i by omega,show lo+(n - 1)=lo+n - 1 by omega]at f
     rw[show lo+(i - lo)=i by omega,Nat.add_zero]at o
     exact KeyOrd.kle_antisymm f (KeyOrd.kle_trans c o)
    have x:NO κ (arrOf st) lo n:=λi j _ y=>by rw[b (lo+i) (by omega) (by omega),b (lo+j) (by omega) (by omega)];exact KeyOrd.kle_refl _
    rw[if_neg Bool.false_ne_true]
    exact wpS_bind (wpS_reverse (Vq L d (by omega) (S.mirror (Nat.le_refl _) (by omega)) ((x.down (by omega) (KeyOrd.kle_of_klt u)).of (KK_mirror_equal (by rw[S.sz];omega) b)) h))
  .rw[if_neg g]
   obtain rfl:n=1:=by omega
   exact Vq L d (by omega) S (NO.one.down (Nat.le_refl 1) (KeyOrd.kle_of_klt u)) h
theorem SL.bubble (S:SL k a₀ X lo p st){x l:Nat}(b:l<=x)(a:lo+x < a₀.size):SL k a₀ X lo p (setArr st (bubble (arrOf st) (lo+x) (lo+x - (lo+l)))) :=
 S.put (bubble_perm _ _ _) λq c=>by rw[getElem?_bubble (by rw[S.sz];exact a) _ (by omega),if_neg (by omega),if_neg (by omega)]
theorem ziR {a:KA}{x l:Nat}(n:lo+x < a.size)(r:l<=x)(d:SO κ a lo x)(f:∀ i,i < l->κ.kle (KK κ a (lo+i)) (KK κ a (lo+x)))(p:∀ i,l<=i->i < x->κ.klt (KK κ a (lo+x)) (KK κ a (lo+i))):SO κ (bubble a (lo+x) (lo+x - (lo+l))) lo (x+1):=by
 have key:∀ i,i < x+1->KK κ (bubble a (lo+x) (lo+x - (lo+l))) (lo+i)=if i=l then KK κ a (lo+x)else if l < i then KK κ a (lo+(i - 1))else KK κ a (lo+i):=λi q=>by
  rw[KK_bubble n (by omega)]
  by_cases c:i=l
  .rw[if_pos (by omega),if_pos c]
  .rw[if_neg (by omega),if_neg c]
   by_cases k:l < i
   .rw[if_pos ⟨by omega,by omega⟩,if_pos k,show lo+i - 1=lo+(i - 1) by omega]
   .rw[if_neg (by omega),if_neg k]
 intro i j e o
 rw[key i (by omega),key j o]
 by_cases m:i=l
 .rw[if_pos m]
  by_cases b:j=l
  .rw[if_pos b];exact KeyOrd.kle_refl _
  .rw[if_neg b,if_pos (by omega)]
   exact KeyOrd.kle_of_klt (p (j - 1) (by omega) (by omega))
 .rw[if_neg m]
  by_cases h:l < i
  .rw[if_pos h,if_neg (by omega),if_pos (by omega)]
   exact d (i - 1) (j - 1) (by omega) (by omega)
  .rw[if_neg h]
   by_cases b:j=l
   .rw[if_pos b];exact f i (by omega)
   .rw[if_neg b]
    by_cases g:l < j
    .rw[if_pos g];exact d i (j - 1) (by omega) (by omega)
    .rw[if_neg g];exact d i j e (by omega)
theorem zfK {n r:Nat}{Q:Bool->SortSt->Prop}(L:LtE prog w A E s κ k (·∈a₀.toList))(P:lo+n<=a₀.size)(J:r<=n)(O:1<=r)(S:SL k a₀ X lo p st)(H:SO κ (arrOf st) lo r)
 (h:∀ t,SL k a₀ X lo p t->SO κ (arrOf t) lo n->Q true t):wpS (model prog w) A E s (binarySort' lo n r) Q st:=by
 rw[binarySort'_eq]
 rw[show max r 1=r by omega]
 refine wpS_bind (wpS_mono (wpS_forRange (I:=λx c t=>c=(none,())/\SL k a₀ X lo p t/\SO κ (arrOf t) lo x) (Q:=λc t=>c=(none,())/\SL k a₀ X lo p t/\SO κ (arrOf t) lo n)
  (λx c t N g2 j=>?_) (λc t j=>?_) ⟨rfl,S,H⟩) λc t j=>?_)
 .obtain⟨rfl,S1,e⟩:=j
  refine wpS_bind (wpS_mono (wpS_forRange
   (I:=λy c d=>d=t/\∃ l u,c=(none,l,u)/\(l<=u/\u<=x/\u - l<=x - y)/\(∀ i,i < l->κ.kle (KK κ (arrOf t) (lo+i)) (KK κ (arrOf t) (lo+x)))/\∀ i,u<=i->i < x->κ.klt (KK κ (arrOf t) (lo+x)) (KK κ (arrOf t) (lo+i)))
   (Q:=λc d=>d=t/\∃ l u,c=(none,l,u)/\l<=x/\(∀ i,i < l->κ.kle (KK κ (arrOf t) (lo+i)) (KK κ (arrOf t) (lo+x)))/\∀ i,l<=i->i < x->κ.klt (KK κ (arrOf t) (lo+x)) (KK κ (arrOf t) (lo+i)))
   (λy c d M K m=>?_) (λc d m=>?_) ⟨rfl,0,x,rfl,⟨Nat.zero_le _,Nat.le_refl _,Nat.le_refl _⟩,λi G=>absurd G (Nat.not_lt_zero _),λi o z=>absurd (Nat.lt_of_le_of_lt o z) (Nat.lt_irrefl _)⟩) λc d m=>?_)
  .obtain⟨rfl,l,u,rfl,⟨v,f,F⟩,a,g⟩:=m
   dsimp only
   by_cases C:l >= u
   .rw[if_pos C]
    obtain rfl:l=u:=by omega
    exact wpS_pure ⟨rfl,l,l,rfl,f,a,g⟩
   .rw[if_neg C]
    obtain⟨b,q⟩:∃ b,(l+u) / 2=b:=⟨_,rfl⟩
    rw[q]
    have D:l<=b/\b < u:=by omega
    refine wpS_bind (vE L S1 (by omega) (by omega) ?_)
    dsimp only
    cases B:κ.blt (KK κ (arrOf d) (lo+x)) (KK κ (arrOf d) (lo+b)) with
    | true=>exact wpS_pure ⟨rfl,l,b,rfl,⟨D.1,by omega,by omega⟩,a,λi o z=>KeyOrd.klt_of_klt_of_kle B (e b i o z)⟩
    | false=>exact wpS_pure ⟨rfl,b+1,u,rfl,⟨by omega,f,by omega⟩,λi o=>KeyOrd.kle_trans (e i b (by omega) (by omega)) B,g⟩
  .obtain⟨rfl,l,u,rfl,⟨v,f,F⟩,a,g⟩:=m
   obtain rfl:l=u:=by omega
   exact⟨rfl,l,l,rfl,f,a,g⟩
  .obtain⟨rfl,l,u,rfl,f,a,g⟩:=m
   dsimp only
   rw[moveDown'_eq]
   exact wpS_bind (wpS_modify (wpS_pure ⟨rfl,S1.bubble f (by omega),ziR (by rw[S1.sz];omega) f e a g⟩))
 .obtain⟨v,S1,e⟩:=j
  rw[show max r n=n by omega]at e
  exact⟨v,S1,e⟩
 .obtain⟨rfl,S1,e⟩:=j
  exact wpS_pure (h t S1 e)
end
noncomputable abbrev U1:=Option Unit × Unit
noncomputable abbrev U2:=Option Unit × Nat
noncomputable def zlz (q:Nat)(_:U1):SM (ForInStep U1):=do
 let z<-get
 let some (_,_,o):=(if (pendingOf z).size > 1 then (pendingOf z)[(pendingOf z).size - 2]? else none) | pure (.done (none,()))
 if o<=q then pure (.done (none,()))else do
  let b<-mergeAt' ((pendingOf z).size - 2)
  if (!b)=true then pure (.done (some (),()))else pure (.yield (none,()))
noncomputable def WJ (N b n:Nat):SM (ForInStep U2):=do
 let z<-get
 let some (a,m,_):=(pendingOf z).back? | do
  modify λs=>setPending s ((pendingOf s).push (b,n,0))
  pure (.yield (none,b+n))
 let c<-forIn [0:N] ((none,()):U1) λ_ c=>zlz (power' N (2*a+m) (2*a+m+m+n) N) c
 match c.1 with
 | some r=>pure (.done (some r,b))
 | none=>do
  modify λs=>setPending s ((pendingOf s).modify ((pendingOf s).size - 1) λx=>(x.1,x.2.1,power' N (2*a+m) (2*a+m+m+n) N))
  modify λs=>setPending s ((pendingOf s).push (b,n,0))
  pure (.yield (none,b+n))
noncomputable def zlp (N M:Nat)(c:U2):SM (ForInStep U2) :=
 if c.2 >= N then pure (.done (none,c.2))else do
  let some f<-countRun' c.2 (N - c.2) | pure (.done (some (),c.2))
  if f < M then do
   (rule ("list.sort.binary-insertion"))
   let b<-binarySort' c.2 (min (N - c.2) M) f
   if (!b)=true then pure (.done (some (),c.2))else WJ N c.2 (min (N - c.2) M)
  else WJ N c.2 f
noncomputable def zlV (p:Pd):Nat:=if ((if p.size - 2 > 0 then p[p.size - 2 - 1]?.map (·.2.1)else none).any (· < (p[p.size - 2+1]?.elim 0 (·.2.1))))=true then p.size - 2 - 1 else p.size - 2
noncomputable def zmp (_:U1):SM (ForInStep U1):=do
 let z<-get
 if (pendingOf z).size<=1 then pure (.done (none,()))else do
  let b<-mergeAt' (zlV (pendingOf z))
  if (!b)=true then pure (.done (some (),()))else pure (.yield (none,()))
theorem zhl:sortRuns'=(do
 let z<-get
 let c<-forIn [0:(arrOf z).size] ((none,0):U2) λ_ c=>zlp (arrOf z).size (minRun' (arrOf z).size (arrOf z).size 0) c
 match c.1 with
 | some r=>pure r
 | none=>do
  let d<-forIn [0:(arrOf z).size] ((none,()):U1) λ_ d=>zmp d
  match d.1 with
  | some r=>pure r
  | none=>pure ()):=by
 rw[sortRuns'_eq]
 dsimp only[zlp,WJ,zlz,zmp,zlV]
 congr 1;funext z;congr 1
 .congr 1;funext _ c
  congr 1;congr 1;funext f
  cases f with
  | none=>rfl
  | some f =>
   dsimp only
   split
   .congr 1;funext _;congr 1;funext b
    congr 1;congr 1;funext y
    cases (pendingOf y).back? with
    | none=>rfl
    | some r =>
     dsimp only
     congr 1;funext d;obtain⟨r,d⟩:=d;cases r <;> rfl
   .congr 1;funext y
    cases (pendingOf y).back? with
    | none=>rfl
    | some r =>
     dsimp only
     congr 1;funext d;obtain⟨r,d⟩:=d;cases r <;> rfl
 .funext c;obtain⟨r,c⟩:=c
  cases r with
  | some r=>rfl
  | none =>
   dsimp only
   congr 1;funext d;obtain⟨r,d⟩:=d;cases r <;> rfl
noncomputable def Yq (κ:KeyKind)(l:List Keyed):Nat->List (Nat × Nat)->Nat->Prop
 | a,[],b=>a=b
 | a,r::p,b=>r.1=a/\0 < r.2/\((l.drop a).take r.2).Pairwise (LE κ)/\Yq κ l (a+r.2) p b
section
variable {κ:KeyKind}{l l':List Keyed}
theorem Yq.le:∀ {p:List (Nat × Nat)} {a b:Nat},Yq κ l a p b->a+p.length<=b
 | [],a,b,h=>by have:a=b:=h;rw[this];exact Nat.le_refl _
 | r::p,a,b,h=>by have:=Yq.le h.2.2.2;have:=h.2.1;rw[List.length_cons];omega
theorem Yq.split:∀ {p q:List (Nat × Nat)} {a b:Nat},Yq κ l a (p++q) b->∃ c,Yq κ l a p c/\Yq κ l c q b
 | [],q,a,b,h=>⟨a,rfl,h⟩
 | r::p,q,a,b,h=>by
  obtain⟨c,e,d⟩:=Yq.split (p:=p) h.2.2.2
  exact⟨c,⟨h.1,h.2.1,h.2.2.1,e⟩,d⟩
theorem Yq.join:∀ {p q:List (Nat × Nat)} {a b c:Nat},Yq κ l a p c->Yq κ l c q b->Yq κ l a (p++q) b
 | [],q,a,b,c,h,h2=>by have:a=c:=h;rw[this];exact h2
 | r::p,q,a,b,c,h,h2=>⟨h.1,h.2.1,h.2.2.1,Yq.join h.2.2.2 h2⟩
theorem Yq.low:∀ {p:List (Nat × Nat)} {a b:Nat},Yq κ l a p b->l'.take b=l.take b->Yq κ l' a p b
 | [],a,b,h,_=>h
 | r::p,a,b,h,e=>by
  have c:=h.2.2.2.le
  refine⟨h.1,h.2.1,?_,h.2.2.2.low e⟩
  have key:∀ m:List Keyed,(m.drop a).take r.2=((m.take b).drop a).take r.2:=λm=>by
   rw[List.drop_take,List.take_take,Nat.min_eq_left (by omega)]
  rw[key,e,<- key]
  exact h.2.2.1
theorem Yq.high:∀ {p:List (Nat × Nat)} {a b:Nat},Yq κ l a p b->l'.drop a=l.drop a->Yq κ l' a p b
 | [],a,b,h,_=>h
 | r::p,a,b,h,e=>by
  refine⟨h.1,h.2.1,by rw[e];exact h.2.2.1,h.2.2.2.high ?_⟩
  rw[<-List.drop_drop,e,List.drop_drop]
end
noncomputable abbrev g2 (r:Nat × Nat × Nat):Nat × Nat:=(r.1,r.2.1)
structure ST (κ:KeyKind) (k:SortKind) (a₀:KA) (hi:Nat) (st:SortSt):Prop where
 pm:(arrOf st).Perm a₀
 kd:kindOf st=k
 fl:failedOf st=none
 sg:Yq κ (arrOf st).toList 0 ((pendingOf st).toList.map g2) hi
section
variable {prog:Program}{w:World}{A:Around}{E:Value->Shared->Prop}{s:Shared}{st:SortSt}{κ:KeyKind}{k:SortKind}{a₀:KA}{hi:Nat}
theorem ST.sz (S:ST κ k a₀ hi st):(arrOf st).size=a₀.size:=S.pm.size_eq
theorem ST.mem (S:ST κ k a₀ hi st):∀ x∈(arrOf st).toList,x∈a₀.toList:=λx a=>(Array.perm_iff_toList_perm.mp S.pm).mem_iff.mp a
theorem zdp {α:Type}{l:List α}{i:Nat}(h:i+1 < l.length):∃ P x y Q,l=P++x::y::Q/\P.length=i:=by
 refine⟨l.take i,l[i],l[i+1],l.drop (i+2),?_,by rw[List.length_take];omega⟩
 have a:l.drop i=l[i]::l[i+1]::l.drop (i+2):=by rw[List.drop_eq_getElem_cons (by omega),List.drop_eq_getElem_cons h]
 rw[<-a,List.take_append_drop]
theorem WY {i:Nat}{Q:Bool->SortSt->Prop}(L:LtE prog w A E s κ k (·∈a₀.toList))(S:ST κ k a₀ hi st)(u:i+1 < (pendingOf st).size)(a0:hi<=a₀.size)
 (h:∀ t,ST κ k a₀ hi t->(pendingOf t).size+1=(pendingOf st).size->(arrOf t).toList.drop hi=(arrOf st).toList.drop hi->Q true t):wpS (model prog w) A E s (mergeAt' i) Q st:=by
 obtain⟨P,⟨a,m,p⟩,⟨b,n,x⟩,R,e,j⟩:=zdp (l:=(pendingOf st).toList) (i:=i) (by rw[Array.length_toList];exact u)
 have y:=S.sg
 rw[e,List.map_append,List.map_cons,List.map_cons]at y
 obtain⟨c,I,W,B,d,J,D,f,o⟩:=y.split
 have r:a=c:=W
 have q:b=c+m:=J
 subst r q
 dsimp only at B D d f o
 have O:=o.le
 have hz:(arrOf st).toList.length=a₀.size:=by rw[Array.length_toList,S.sz]
 have p1:(pendingOf st)[i]?=some (a,m,p):=by
  rw[<-Array.getElem?_toList,e,List.getElem?_append_right (by omega),j,Nat.sub_self]
  rfl
 have Z:(pendingOf st)[i+1]?=some (a+m,n,x):=by
  rw[<-Array.getElem?_toList,e,List.getElem?_append_right (by omega),j,Nat.add_sub_cancel_left]
  rfl
 refine ziu L S.kd S.fl p1 Z rfl S.mem rfl (by omega) B D rfl rfl d f λt M N X T g z Y=>?_
 have H:(pendingOf t).toList=P++(a,m+n,p)::R:=by
  rw[T,Array.toList_eraseIdxIfInBounds,Array.toList_setIfInBounds,e,List.set_append_right _ _ (by omega),j,Nat.sub_self,List.eraseIdx_append_of_length_le (by omega),j,Nat.add_sub_cancel_left]
  rfl
 have lP:((arrOf st).toList.take a).length=a:=by rw[List.length_take];omega
 have lM:M.length=m+n:=by rw[z.length_eq,List.length_append,List.length_take,List.length_take,List.length_drop,List.length_drop];omega
 have U:(arrOf t).toList.take a=(arrOf st).toList.take a:=by rw[g,List.append_assoc,List.take_append_of_le_length (by omega),List.take_of_length_le (by omega)]
 have v:(arrOf t).toList.drop (a+m+n)=(arrOf st).toList.drop (a+m+n):=by
  rw[g,List.drop_append_of_le_length (by rw[List.length_append];omega),List.drop_eq_nil_of_le (by rw[List.length_append];omega),List.nil_append]
 have K:((arrOf t).toList.drop a).take (m+n)=M:=by
  rw[g,List.append_assoc,List.drop_append_of_le_length (by omega),List.drop_eq_nil_of_le (by omega),List.nil_append,List.take_append_of_le_length (by omega),List.take_of_length_le (by omega)]
 refine h t ⟨?_,N,X,?_⟩ ?_ ?_
 .refine Array.perm_iff_toList_perm.mpr (List.Perm.trans ?_ (Array.perm_iff_toList_perm.mp S.pm))
  rw[g]
  have C:=vq (l:=(arrOf st).toList) (a:=a) (Nat.le_refl m)
  rw[List.take_take,Nat.min_self]at C
  have G:=vq (l:=(arrOf st).toList) (a:=a+m) (Nat.le_refl n)
  rw[List.take_take,Nat.min_self,C]at G
  have F:=List.take_append_drop (a+m+n) (arrOf st).toList
  rw[G]at F
  have V:(arrOf st).toList.Perm (List.take a (arrOf st).toList++(List.take m (List.drop a (arrOf st).toList)++List.take n (List.drop (a+m) (arrOf st).toList))++List.drop (a+m+n) (arrOf st).toList):=by
   rw[<-List.append_assoc,F]
  exact((z.append_left _).append_right _).trans V.symm
 .rw[H,List.map_append,List.map_cons]
  refine(I.low U).join ⟨rfl,by show 0 < m+n;omega,by show(((arrOf t).toList.drop a).take (m+n)).Pairwise _;rw[K];exact Y,?_⟩
  have:Yq κ (arrOf t).toList (a+m+n) (R.map g2) hi:=o.high v
  show Yq κ (arrOf t).toList (a+(m+n)) (R.map g2) hi
  rw[<-Nat.add_assoc]
  exact this
 .rw[<-Array.length_toList,<- Array.length_toList,H,e]
  simp only[List.length_append,List.length_cons]
  omega
 .rw[show hi=a+m+n+(hi - (a+m+n)) by omega,<- List.drop_drop,v,List.drop_drop]
theorem zdD {a:KA}{b n:Nat}(h:SO κ a b n):((a.toList.drop b).take n).Pairwise (LE κ):=by
 rw[List.pairwise_iff_getElem]
 intro i j hi f g
 have d:j < n:=by rw[List.length_take]at f;omega
 have z:=h i j (by omega) d
 have e:∀ {q} (hq:q < ((a.toList.drop b).take n).length),KK κ a (b+q)=ky κ ((a.toList.drop b).take n)[q]:=λ{q} hq=>by
  refine zcy ?_
  have c:q < n:=by rw[List.length_take]at hq;omega
  rw[<-Array.getElem?_toList,<- List.getElem?_drop,<- List.getElem?_take_of_lt c,List.getElem?_eq_getElem hq]
 rw[e hi,e f]at z
 exact z
theorem ST.push (S:ST κ k a₀ hi st){n:Nat}(a:0 < n)(h:(((arrOf st).toList.drop hi).take n).Pairwise (LE κ)):ST κ k a₀ (hi+n) (setPending st ((pendingOf st).push (hi,n,0))):=by
 refine⟨S.pm,S.kd,S.fl,?_⟩
 show Yq κ (arrOf st).toList 0 (((pendingOf st).push (hi,n,0)).toList.map g2) (hi+n)
 rw[Array.toList_push,List.map_append]
 exact S.sg.join ⟨rfl,a,h,rfl⟩
theorem zig {f:Nat × Nat × Nat->Nat × Nat × Nat}(a:∀ r,g2 (f r)=g2 r)(p:Pd)(i:Nat):(p.modify i f).toList.map g2=p.toList.map g2:=by
 refine List.ext_getElem? λj=>?_
 rw[Array.toList_modify,List.getElem?_map,List.getElem?_map,List.getElem?_modify]
 cases p.toList[j]? with
 | none=>rfl
 | some r =>
  show Option.map g2 (some (if i=j then f r else r))=_
  split
  .exact congrArg some (a r)
  .rfl
theorem ST.mod (S:ST κ k a₀ hi st){f:Nat × Nat × Nat->Nat × Nat × Nat}(a:∀ r,g2 (f r)=g2 r)(i:Nat):ST κ k a₀ hi (setPending st ((pendingOf st).modify i f)):=by
 refine⟨S.pm,S.kd,S.fl,?_⟩
 show Yq κ (arrOf st).toList 0 (((pendingOf st).modify i f).toList.map g2) hi
 rw[zig a]
 exact S.sg
theorem ZX {N n:Nat}(L:LtE prog w A E s κ k (·∈a₀.toList))(S:ST κ k a₀ hi st)(h:0 < n)(l:hi+n<=a₀.size)(g:(((arrOf st).toList.drop hi).take n).Pairwise (LE κ)) :
 wpS (model prog w) A E s (WJ N hi n) (λr t=>r=.yield (none,hi+n)/\ST κ k a₀ (hi+n) t) st:=by
 unfold WJ
 refine wpS_bind (wpS_get ?_)
 cases e:(pendingOf st).back? with
 | none=>exact wpS_bind (wpS_modify (wpS_pure ⟨rfl,S.push h g⟩))
 | some r =>
  obtain⟨a,m,q⟩:=r
  dsimp only
  refine wpS_bind (wpS_mono (wpS_forRange (I:=λ_ c t=>c=(none,())/\ST κ k a₀ hi t/\(arrOf t).toList.drop hi=(arrOf st).toList.drop hi) (Q:=λc t=>c=(none,())/\ST κ k a₀ hi t/\(arrOf t).toList.drop hi=(arrOf st).toList.drop hi)
   (λx c t _ _ d=>?_) (λc t d=>d) ⟨rfl,S,rfl⟩) λc t d=>?_)
  .obtain⟨rfl,S1,b⟩:=d
   unfold zlz
   refine wpS_bind (wpS_get ?_)
   by_cases i:(pendingOf t).size > 1
   .rw[if_pos i]
    cases y:(pendingOf t)[(pendingOf t).size - 2]? with
    | none=>exact wpS_pure ⟨rfl,S1,b⟩
    | some r =>
     obtain⟨p,v,o⟩:=r
     dsimp only
     split
     .exact wpS_pure ⟨rfl,S1,b⟩
     .refine wpS_bind (WY L S1 (by omega) (by omega) λu S2 _ j=>?_)
      exact wpS_pure ⟨rfl,S2,j.trans b⟩
   .rw[if_neg i]
    exact wpS_pure ⟨rfl,S1,b⟩
  .obtain⟨rfl,S1,b⟩:=d
   dsimp only
   refine wpS_bind (wpS_modify (wpS_bind (wpS_modify (wpS_pure ⟨rfl,?_⟩))))
   exact(S1.mod (f:=λx=>(x.1,x.2.1,power' N (2*a+m) (2*a+m+m+n) N)) (λ_=>rfl) ((pendingOf t).size - 1)).push h (by show(((arrOf t).toList.drop hi).take n).Pairwise (LE κ);rw[b];exact g)
theorem zeY {b d:KA}{a:Nat}(h:∀ i,i < a->d[i]?=b[i]?):d.toList.take a=b.toList.take a:=by
 refine List.ext_getElem? λi=>?_
 by_cases c:i < a
 .rw[List.getElem?_take_of_lt c,List.getElem?_take_of_lt c,Array.getElem?_toList,Array.getElem?_toList]
  exact h i c
 .rw[List.getElem?_eq_none (by rw[List.length_take];omega),List.getElem?_eq_none (by rw[List.length_take];omega)]
theorem ST.sl (S:ST κ k a₀ hi st):SL k a₀ (arrOf st) hi (pendingOf st) st:=⟨S.pm,S.kd,S.fl,rfl,λ_ _=>rfl⟩
theorem ST.from (S:ST κ k a₀ hi st){t:SortSt}(T:SL k a₀ (arrOf st) hi (pendingOf st) t):ST κ k a₀ hi t:=⟨T.pm,T.kd,T.fl,by rw[T.pd];exact S.sg.low (zeY T.bl)⟩
theorem zga {M:Nat}{c:U2}(L:LtE prog w A E s κ k (·∈a₀.toList))(S:ST κ k a₀ c.2 st)(u:c.1=none)(o:c.2<=a₀.size) :
 wpS (model prog w) A E s (zlp a₀.size M c) (λr t=>(c.2=a₀.size/\r=.done (none,c.2)/\t=st)\/∃ n,0 < n/\c.2+n<=a₀.size/\r=.yield (none,c.2+n)/\ST κ k a₀ (c.2+n) t) st:=by
 unfold zlp
 by_cases e:c.2 >= a₀.size
 .rw[if_pos e]
  exact wpS_pure (.inl ⟨by omega,rfl,rfl⟩)
 .rw[if_neg e]
  refine wpS_bind (zbN (m:=a₀.size - c.2) L (by omega) (by omega) S.sl λf t T i j b=>?_)
  dsimp only
  have S1:=S.from T
  by_cases d:f < M
  .rw[if_pos d]
   refine wpS_bind (wpS_lift (wpAny_rule ⟨rfl,?_⟩))
   have p:f<=min (a₀.size - c.2) M:=Nat.le_min.mpr ⟨j,by omega⟩
   have l:min (a₀.size - c.2) M<=a₀.size - c.2:=Nat.min_le_left _ _
   refine wpS_bind (zfK (n:=min (a₀.size - c.2) M) L (by omega) p i S1.sl b λq T2 a=>?_)
   exact wpS_mono (ZX L (S1.from T2) (by omega) (by omega) (zdD a)) λr g h=>.inr ⟨_,by omega,by omega,h.1,h.2⟩
  .rw[if_neg d]
   exact wpS_mono (ZX L S1 (by omega) (by omega) (zdD b)) λr g h=>.inr ⟨f,by omega,by omega,h.1,h.2⟩
theorem zhK {p:Pd}(h:1 < p.size):zlV p+1 < p.size:=by
 have key:∀ b:Bool,(if b=true then p.size - 2 - 1 else p.size - 2)+1 < p.size:=λb=>by
  cases b with
  | true=>rw[if_pos rfl];omega
  | false=>rw[if_neg Bool.false_ne_true];omega
 exact key _
theorem own_runsE {Q:Unit->SortSt->Prop}(L:LtE prog w A E s κ k (·∈a₀.toList))(v:(arrOf st).Perm a₀)(N:kindOf st=k)(P:failedOf st=none)(H:pendingOf st=#[])
 (h:∀ t,(arrOf t).Perm a₀->failedOf t=none->SortedToK κ (arrOf t) a₀.size->Q () t):wpS (model prog w) A E s sortRuns' Q st:=by
 rw[zhl]
 refine wpS_bind (wpS_get ?_)
 have G:(arrOf st).size=a₀.size:=v.size_eq
 rw[G]
 have S0:ST κ k a₀ 0 st:=⟨v,N,P,by rw[H];exact rfl⟩
 refine wpS_bind (wpS_mono (wpS_forRange (I:=λx c t=>c.1=none/\ST κ k a₀ c.2 t/\c.2<=a₀.size/\(x<=c.2\/c.2=a₀.size)) (Q:=λc t=>c.1=none/\ST κ k a₀ a₀.size t)
  (λx c t _ m a=>?_) (λc t a=>?_) ⟨rfl,S0,Nat.zero_le _,.inl (Nat.le_refl _)⟩) λc t a=>?_)
 .obtain⟨g,b,D,f⟩:=a
  refine wpS_mono (zga L b g D) λr R J=>?_
  rcases J with ⟨e,rfl,rfl⟩ | ⟨n,U,M,rfl,S2⟩
  .exact⟨rfl,by rw[e]at b;exact b⟩
  .exact⟨rfl,S2,M,by rcases f with f | f <;> (show x+1<=c.2+n\/c.2+n=a₀.size;omega)⟩
 .obtain⟨g,b,D,f⟩:=a
  refine⟨g,?_⟩
  have e:c.2=a₀.size:=by
   rcases f with f | f
   .have:max 0 a₀.size=a₀.size:=by omega
    omega
   .exact f
  rw[e]at b
  exact b
 .obtain⟨g,S1⟩:=a
  rw[g]
  dsimp only
  have o:=S1.sg.le
  rw[List.length_map,Array.length_toList]at o
  refine wpS_bind (wpS_mono (wpS_forRange (I:=λx d t=>d=(none,())/\ST κ k a₀ a₀.size t/\(pendingOf t).size+x<=a₀.size) (Q:=λd t=>d=(none,())/\ST κ k a₀ a₀.size t/\(pendingOf t).size<=1)
   (λx d t _ m a=>?_) (λd t a=>?_) ⟨rfl,S1,by omega⟩) λd t a=>?_)
  .obtain⟨rfl,S2,b⟩:=a
   unfold zmp
   refine wpS_bind (wpS_get ?_)
   by_cases p:(pendingOf t).size<=1
   .rw[if_pos p]
    exact wpS_pure ⟨rfl,S2,p⟩
   .rw[if_neg p]
    refine wpS_bind (WY L S2 (zhK (by omega)) (Nat.le_refl _) λR S3 T _=>?_)
    exact wpS_pure ⟨rfl,S3,by omega⟩
  .obtain⟨rfl,S2,b⟩:=a
   refine⟨rfl,S2,?_⟩
   have:max 0 a₀.size=a₀.size:=by omega
   omega
  .obtain⟨rfl,S2,b⟩:=a
   refine wpS_pure (h t S2.pm S2.fl ?_)
   have V:(arrOf t).toList.length=a₀.size:=by rw[Array.length_toList,S2.sz]
   have O:(arrOf t).toList.Pairwise (LE κ):=by
    have l:=S2.sg
    have F:((pendingOf t).toList.map g2).length<=1:=by rw[List.length_map,Array.length_toList];exact b
    match e:(pendingOf t).toList.map g2 with
    | [] =>
     rw[e]at l
     have z:0=a₀.size:=l
     have:(arrOf t).toList=[]:=List.length_eq_zero_iff.mp (by omega)
     rw[this]
     exact List.Pairwise.nil
    | [r] =>
     rw[e]at l
     obtain⟨_,_,B,K⟩:=l
     have z:0+r.2=a₀.size:=K
     rw[List.drop_zero,List.take_of_length_le (by omega)]at B
     exact B
    | r::r2::q=>rw[e]at F;simp at F
   intro i j u S
   obtain⟨y,C⟩:∃ y,(arrOf t).toList[j]?=some y:=⟨_,List.getElem?_eq_getElem (by omega)⟩
   obtain⟨x,m⟩:∃ x,(arrOf t).toList[i]?=some x:=⟨_,List.getElem?_eq_getElem (by omega)⟩
   rw[zcy (by rw[<-Array.getElem?_toList];exact m),zcy (by rw[<-Array.getElem?_toList];exact C)]
   exact XA O u m C
end
end OwnTim
namespace OwnSortT
open PySem PyProof.Rows OwnSort
theorem lex_irr:∀ a:List Int,HT.lexLt a a=false:=by
 intro a
 induction a with
 | nil=>rfl
 | cons x c b=>rw[HT.lexLt_cons,if_pos rfl,b]
theorem lex_trans:∀ a b c:List Int,HT.lexLt a b=true->HT.lexLt b c=true->HT.lexLt a c=true:=by
 intro a
 induction a with
 | nil =>
  intro b c e d
  cases c with
  | nil=>cases b <;> cases d
  | cons _ _=>rfl
 | cons x i h =>
  intro b c e d
  cases b with
  | nil=>cases e
  | cons y j=>cases c with
   | nil=>cases d
   | cons z zs =>
    rw[HT.lexLt_cons]at e d ⊢
    by_cases g:x=y
    .rw[if_pos g]at e
     by_cases f:y=z
     .rw[if_pos f]at d;rw[if_pos (g.trans f)];exact h _ _ e d
     .rw[if_neg f,decide_eq_true_eq]at d;rw[if_neg (by omega),decide_eq_true_eq];omega
    .rw[if_neg g,decide_eq_true_eq]at e
     by_cases f:y=z
     .rw[if_neg (by omega),decide_eq_true_eq];omega
     .rw[if_neg f,decide_eq_true_eq]at d;rw[if_neg (by omega),decide_eq_true_eq];omega
theorem lex_total:∀ a b:List Int,HT.lexLt a b=false->HT.lexLt b a=false->a=b:=by
 intro a
 induction a with
 | nil =>
  intro b d c
  cases b with
  | nil=>rfl
  | cons _ _=>cases d
 | cons x g f =>
  intro b d c
  cases b with
  | nil=>cases c
  | cons y h =>
   rw[HT.lexLt_cons]at d c
   by_cases e:x=y
   .rw[if_pos e]at d;rw[if_pos e.symm]at c;rw[e,f _ d c]
   .rw[if_neg e,decide_eq_false_iff_not]at d;rw[if_neg (Ne.symm e),decide_eq_false_iff_not]at c;omega
theorem lex_neg (a b c:List Int)(h:HT.lexLt a c=true):HT.lexLt a b=true\/HT.lexLt b c=true:=by
 cases e:HT.lexLt a b with
 | true=>exact .inl rfl
 | false =>
  refine .inr ?_
  cases d:HT.lexLt b a with
  | true=>exact lex_trans _ _ _ d h
  | false=>rw[<-lex_total _ _ e d];exact h
noncomputable def TT (h:Heap) (v:Value) (t:List Int):Prop:=∃ a o n b,v=.ref a/\h.get? a=some o/\o.cls=.type "tuple"/\o.data=.seq b.toArray n/\IntsAre b t/\t≠[]
theorem zdP:∀ {b:List Value} {ns a:List Int},IntsAre b ns->IntsAre b a->ns=a:=by
 intro b ns a h
 induction h generalizing a with
 | nil=>intro c;cases c;rfl
 | cons n t h e=>intro c;cases c with | cons g f d=>rw[e d]
theorem TT.uniq {h:Heap}{v:Value}{s t:List Int}(x:TT h v s)(y:TT h v t):s=t:=by
 obtain⟨a,o,n,d,rfl,i,_,q,k,_⟩:=x
 obtain⟨b,p,m,c,e,g,_,f,j,_⟩:=y
 cases e
 rw[i]at g
 cases g
 rw[q]at f
 have l:d.toArray=c.toArray:=by injection f
 cases List.toArray_inj l
 exact zdP k j
theorem TT.keep {h d:Heap}{v:Value}{t:List Int}(x:TT h v t)(k:∀ b o,h.get? b=some o->d.get? b=some o):TT d v t:=by
 obtain⟨a,o,n,c,e,f,r⟩:=x
 exact⟨a,o,n,c,e,k _ _ f,r⟩
theorem TT.keepT {h f:Heap} {v:Value} {t:List Int} (x:TT h v t) (k:∀ b o,o.cls=.type "tuple"->h.get? b=some o->f.get? b=some o):TT f v t:=by
 obtain⟨a,o,n,d,e,g,c,r⟩:=x
 exact⟨a,o,n,d,e,k _ _ c g,c,r⟩
open Classical in
noncomputable def keyTT (h:Heap)(v:Value):Option (List Int):=if x:∃ t,TT h v t then some x.choose else none
theorem keyTT_of {h:Heap}{v:Value}{t:List Int}(x:TT h v t):keyTT h v=some t:=by
 unfold keyTT
 have y:∃ t,TT h v t:=⟨t,x⟩
 rw[dif_pos y,y.choose_spec.uniq x]
@[reducible] noncomputable def zau (h:Heap):KeyKind where
 α:=List Int
 blt:=HT.lexLt
 irrefl:=lex_irr
 trans:=lex_trans
 negTrans:=lex_neg
 total:=lex_total
 keyOf:=keyTT h
 dflt:=[]
section
variable {prog:Program}{w:World}{A:Around}{E:Value->Shared->Prop}{s:Shared}
noncomputable def zi5 (d:Bool):List Int->List Int->Bool
 | x::xs,y::ys=>if x=y then zi5 d xs ys else decide (x < y)
 | _,_=>d
theorem zhI:∀ a b:List Int,zi5 (decide (a.length < b.length)) a b=HT.lexLt a b:=by
 intro a
 induction a with
 | nil=>intro b;cases b with
  | nil=>rfl
  | cons _ _=>rfl
 | cons x d e=>intro b;cases b with
  | nil=>rfl
  | cons y c =>
   rw[HT.lexLt_cons,<- e c]
   show(if x=y then zi5 (decide (d.length+1 < c.length+1)) d c else decide (x < y))=_
   rw[show decide (d.length+1 < c.length+1)=decide (d.length < c.length) by congr 1;apply propext;omega]
noncomputable def zdB (x:(Value × Value) × Nat)(_:Option Bool × Unit):Sem (ForInStep (Option Bool × Unit)):=do
 let b<-eqBool x.1.1 x.1.2
 if (!b)=true then do
  let c<-oneLt' (true&&x.2 == 0) x.1.1 x.1.2
  pure (ForInStep.done (some c,()))
 else pure (ForInStep.yield (none,()))
theorem zfj {d:Bool}:∀ {f:List Value} {ns:List Int} {e:List Value} {a:List Int} {k:Nat} {Q:Option Bool × Unit->Shared->Prop},IntsAre f ns->IntsAre e a->(∀ r:Option Bool × Unit,r.1.getD d=zi5 d ns a->Q r s) ->
 wpAny (model prog w) A (forIn ((f.zip e).zipIdx k) ((none,()):Option Bool × Unit) zdB) Q E s:=by
 intro f ns e a k Q g
 induction g generalizing e a k with
 | nil=>intro b q;exact wpAny_pure (q (none,()) rfl)
 | cons x t g j =>
  intro b q
  cases b with
  | nil=>exact wpAny_pure (q (none,()) rfl)
  | cons y u b =>
   rw[List.zip_cons_cons,List.zipIdx_cons,List.forIn_cons]
   refine wpAny_bind (wpAny_bind (SeqAt.EqAt.int_int x t y u prog w E _ ?_))
   by_cases c:x=y
   .rw[show(x == y)=true by rw[c];exact beq_self_eq_true _]
    refine wpAny_pure (j b λr i=>q r (i.trans ?_))
    show _=(if x=y then zi5 d _ _ else decide (x < y))
    rw[if_pos c]
   .rw[show(x == y)=false by simpa using c]
    have h:Q (some (decide (x < y)),()) s:=q _ (by
     show decide (x < y)=(if x=y then zi5 d _ _ else decide (x < y))
     rw[if_neg c])
    cases k with
    | zero=>exact wpAny_bind (oneLt_int (wpAny_pure (wpAny_pure h)))
    | succ k=>exact wpAny_bind (lt0 (wpAny_pure (wpAny_pure h)))
theorem zhw {x y:Value}{a b:List Int}{Q:Bool->Shared->Prop}(z:TT s.heap x a)(k:TT s.heap y b)(h:Q (HT.lexLt a b) s):wpAny (model prog w) A (keyLt' (tuples' true) x y) Q E s:=by
 obtain⟨p,o,n,c,rfl,j,_,C,i,_⟩:=z
 obtain⟨q,D,F,f,rfl,B,_,m,g,_⟩:=k
 rw[zes]
 refine wpAny_bind (listItems_at j C (wpAny_bind (listItems_at B m ?_)))
 show wpAny _ _ (forIn ((c.zip f).zipIdx 0) ((none,()):Option Bool × Unit) zdB>>=_) _ _ _
 refine wpAny_bind (zfj (d:=decide (c.length < f.length)) i g λr l=>?_)
 have e:Q (r.1.getD (decide (c.length < f.length))) s:=by
  rw[l,i.length,g.length,zhI];exact h
 obtain⟨t,u⟩:=r
 cases t with
 | none=>exact wpAny_pure e
 | some v=>exact wpAny_pure e
theorem zfS {d:List Value}(n:∀ v∈d,∃ t,TT s.heap v t):OwnTim.LtE prog w A E s (zau s.heap) (tuples' true) (·∈(pairsOf d).toList):=by
 intro o x y Q g k i h
 have c:∀ {x:Keyed},x∈(pairsOf d).toList->∃ t,TT s.heap x.1 t/\OwnTim.ky (zau s.heap) x=t:=λ{x} hm=>by
  rw[pairsOf_toList]at hm
  obtain⟨t,e⟩:=n _ (mem_zip_self hm).2
  refine⟨t,e,?_⟩
  unfold OwnTim.ky
  show(keyTT s.heap x.1).getD _=t
  rw[keyTT_of e]
  rfl
 obtain⟨a,l,f⟩:=c k
 obtain⟨b,j,m⟩:=c i
 rw[f,m]at h
 rw[lt'_eq]
 refine wpS_bind (wpS_get ?_)
 rw[g]
 exact wpS_bind (wpS_lift (wpAny_attempt (zhw l j ⟨rfl,wpS_pure h⟩)))
theorem Z4:∀ {e:List Value} {Q:List (Option Value)->Shared->Prop},(∀ v∈e,∃ t,TT s.heap v t)->(∀ c:List Value,c.length=e.length->(∀ f∈c,∃ i t,f=.int i t)->Q (c.map some) s)->wpAny (model prog w) A (e.mapM firstOfTuple') Q E s
 | [],Q,_,h=>by rw[List.mapM_nil];exact wpAny_pure (h [] rfl (by simp))
 | v::e,Q,hT,h=>by
  obtain⟨t,a,o,n,k,rfl,l,y,p,m,j⟩:=hT v List.mem_cons_self
  obtain⟨z,zs,g,d,rfl,rfl⟩:∃ z zs g d,k=z::zs/\z=.int g d:=by
   cases m with
   | nil=>exact absurd rfl j
   | cons g d m=>exact⟨_,_,_,_,rfl,rfl⟩
  rw[List.mapM_cons,zdL]
  refine wpAny_bind (wpAny_bind (wpAny_typeOf (T:="tuple") ⟨o,l,y⟩ ?_))
  rw[if_neg (by simp)]
  refine wpAny_bind (listItems_at l p (wpAny_pure (wpAny_bind (Z4 (λu q=>hT u (List.mem_cons_of_mem _ q)) λc x r=>wpAny_pure ?_))))
  exact h (.int g d::c) (by simp[x]) λf b=>by
   rcases List.mem_cons.mp b with rfl | b
   .exact⟨_,_,rfl⟩
   .exact r f b
theorem zcE {b:Value}{c:List Value}{Q:SortKind->Shared->Prop}(j:∀ v∈b::c,∃ t,TT s.heap v t)(h:Q (tuples' true) s):wpAny (model prog w) A (keyKind' (b::c).toArray) Q E s:=by
 rw[keyKind'_eq,List.mapM_toArray,<- bind_pure_comp,bind_assoc]
 refine wpAny_bind (Z4 j λa i d=>wpAny_bind (wpAny_pure ?_))
 cases a with
 | nil=>simp at i
 | cons f a =>
  rw[if_pos (by simp)]
  have g:((f::a).map some).toArray.filterMap id=(f::a).toArray:=by simp
  refine wpAny_bind (wpAny_rule ?_)
  rw[g,oneTypeOnly'_eq,List.mapM_toArray,zaG d]
  simp only[map_pure,pure_bind]
  rw[show(List.map (λ_=>Value.type "int") (f::a)).toArray[0]?=some (Value.type "int") by simp]
  have e:((List.map (λ_=>Value.type "int") (f::a)).toArray.all λx=>x == Value.type "int")=true:=by
   simp only[List.all_toArray,List.all_map,List.all_eq_true]
   intro _ _
   rfl
  simp only[e,if_true,pure_bind,Option.any_some]
  rw[show(Value.type "int" != Value.type "tuple")=true by decide +kernel]
  exact wpAny_pure h
end
noncomputable def Rise (h:Heap)(c:List Value):Prop:=∃ d:List (List Int),c.length=d.length/\(∀ (i:Nat) (v:Value) (t:(List Int)),c[i]?=some v->d[i]?=some t->TT h v t)/\d.Pairwise λa b=>HT.lexLt b a=false
theorem Xy {h c:Heap}{a:List Value}{xs:Array Keyed}(x:∀ v∈a,∃ t,TT h v t)(n:∀ v t,TT h v t->TT c v t)(l:xs.Perm (pairsOf a))(y:SortedToK (zau c) xs (pairsOf a).size):(xs.map (·.2)).toList.Perm a/\Rise h (xs.map (·.2)).toList:=by
 have m:xs.toList.Perm (a.zip a):=by rw[<-pairsOf_toList];exact Array.perm_iff_toList_perm.mp l
 have o:∀ p∈xs.toList,p.1=p.2/\p.1∈a:=λp z=>mem_zip_self (m.mem_iff.mp z)
 have w:(xs.map (·.2)).toList=xs.toList.map (·.2):=by simp
 rw[w]
 refine⟨?_,xs.toList.map λp=>(keyTT c p.1).getD ([]:List Int),by simp,λi v t e b=>?_,?_⟩
 .have:=m.map (·.2)
  rwa[show(a.zip a).map (·.2)=a from List.map_snd_zip (Nat.le_refl _)]at this
 .rw[List.getElem?_map]at e b
  cases f:xs.toList[i]? with
  | none=>rw[f]at e;cases e
  | some p =>
   rw[f]at e b
   cases e
   cases b
   obtain⟨u,r⟩:=o p (List.mem_of_getElem? f)
   obtain⟨t,b⟩:=x _ r
   show TT h p.2 ((keyTT c p.1).getD ([]:List Int))
   rw[keyTT_of (n _ _ b),<- u]
   exact b
 .rw[List.pairwise_iff_getElem]
  intro i j s q g
  have k:i < xs.size:=by simpa using s
  have d:j < xs.size:=by simpa using q
  have:=y i j (Nat.le_of_lt g) (by rw[<-l.size_eq];exact d)
  unfold KK at this
  rw[getElem?_pos xs i k,getElem?_pos xs j d]at this
  have this:HT.lexLt ((keyTT c xs[j].1).getD ([]:List Int)) ((keyTT c xs[i].1).getD ([]:List Int))=false:=this
  simpa using this
section
variable {prog:Program}{w:World}{A:Around}{E:Value->Shared->Prop}{s:Shared}
theorem ownT_list_sort {a:Addr} {d:List Value} {n:Nat} {P:Fin->Shared->Prop} (k:s.heap.get? a=some (seqObj "list" d.toArray n)) (y:∀ v∈d,∃ t,TT s.heap v t) (H:d.length < 10000000)
 (h:∀ g:Array Value,g.toList.Perm d->Rise s.heap g.toList->P (.done (.ret .none)) { s with heap:=sortedHeap s.heap a d g }):wpAny (model prog w) A (Builtin.«list.sort» ⟨[.ref a],[]⟩) P E s:=by
 have N:a < s.heap.objs.size:=Heap.lt_size k
 have M:d.toArray.size=d.length:=List.size_toArray
 obtain⟨f,F⟩:∃ f,(s.heap.update a (Obj.mapSeq λ_=>#[])).get? a=some (seqObj "list" #[] f):=⟨_,get?_update_seq k (λ_=>#[])⟩
 have q:(((s.heap.update a (Obj.mapSeq λ_=>#[])).push (seqObj "tuple" d.toArray 0)).push (seqObj "list" #[] 0)).get? a=some (seqObj "list" #[] f):=Heap.get?_push_of_some _ (Heap.get?_push_of_some _ F)
 have G:∀ b o,o.cls=.type "tuple"->s.heap.get? b=some o->(((s.heap.update a (Obj.mapSeq λ_=>#[])).push (seqObj "tuple" d.toArray 0)).push (seqObj "list" #[] 0)).get? b=some o:=λb o c e=>by
  refine Heap.get?_push_of_some _ (Heap.get?_push_of_some _ ((Heap.get?_update_other _ _ λz=>?_).trans e))
  subst z
  rw[k]at e
  cases e
  exact absurd (show Value.type "list"=Value.type "tuple" from c) (by decide +kernel)
 have p:∀ v∈d,∃ t,TT (((s.heap.update a (Obj.mapSeq λ_=>#[])).push (seqObj "tuple" d.toArray 0)).push (seqObj "list" #[] 0)) v t:=λv K=>let ⟨t,m⟩:=y v K;⟨t,m.keepT G⟩
 rw[list_sort_plain]
 refine wpAny_bind (listItems_at k rfl (wpAny_bind (listUpdate_at k rfl (wpAny_bind (seqEpoch_at F rfl (wpAny_bind (wpAny_newTuple (wpAny_bind (wpAny_newList (wpAny_holding ?_))))))))))
 show wpAny (model prog w) A _ P E { s with heap:=((s.heap.update a (Obj.mapSeq λ_=>#[])).push (seqObj "tuple" d.toArray 0)).push (seqObj "list" #[] 0) }
 by_cases l:d.toArray.size < 2
 .rw[if_pos l,if_pos l]
  refine wpAny_bind (wpAny_pure ?_)
  dsimp only
  rw[StateT.run_pure]
  refine wpAny_bind (wpAny_pure ?_)
  obtain⟨B,C⟩:=Xy (xs:=pairsOf d) y (λv t m=>m) (Array.Perm.refl _) (λi j J I=>by
   obtain rfl:i=j:=by rw[pairsOf_size]at I;omega
   exact KeyOrd.kle_refl _)
  refine wpAny_bind (seqEpoch_at q rfl (wpAny_bind (listUpdate_at q rfl ?_ (hsz2:=by rw[Array.size_map];show(pairsOf d).size<=_;rw[pairsOf_size,sizeLine_eq];omega))))
  rw[show(f != f)=false by simp]
  exact wpAny_pure (h _ B C)
 .rw[if_neg l,if_neg l]
  cases d with
  | nil=>simp at l
  | cons r rest =>
   refine wpAny_bind (zcE p ?_)
   refine wpAny_bind (wpAny_mono (OwnTim.own_runsE (st:=SortSt.mk' (tuples' true) ((r::rest).toArray.zip (r::rest).toArray) #[] 7 none) (Q:=λ_ t=>(arrOf t).Perm (pairsOf (r::rest))/\failedOf t=none/\SortedToK (zau _) (arrOf t) (pairsOf (r::rest)).size)
    (zfS p) (Array.Perm.refl _) rfl rfl rfl λt u D x=>⟨u,D,x⟩) ?_ λ_ _ e=>e)
   rintro⟨⟨⟩,t⟩ L ⟨rfl,u,D,x⟩
   obtain⟨B,C⟩:=Xy y (λv t m=>m.keepT G) u x
   refine wpAny_bind (seqEpoch_at q rfl (wpAny_bind (listUpdate_at q rfl ?_ (hsz2:=by rw[Array.size_map];show(arrOf t).size<=_;rw[u.size_eq,pairsOf_size,sizeLine_eq];omega))))
   rw[D,show(f != f)=false by simp]
   exact wpAny_pure (h _ B C)
theorem ownT_sorted {l:Addr}{a:List Value}{Q:Value->Shared->Prop}(C:s.heap.IsList l a.toArray)(r:∀ v∈a,∃ t,TT s.heap v t)(j:a.length < 10000000)
 (h:∀ c:Array Value,c.toList.Perm a->Rise s.heap c.toList->Q (.ref (s.heap.objs.size+1)) { s with heap:=sortedAll s.heap a c }):wpAny (model prog w) A (call (.builtin "sorted") [.ref l]) Q E s:=by
 have k:((s.heap.push (seqObj "list" #[] 0)).update s.heap.objs.size (Obj.mapSeq (·++a.toArray))).objs.size=s.heap.objs.size+1:=(Heap.size_update ..).trans (size_push' _ _)
 have q:(((s.heap.push (seqObj "list" #[] 0)).update s.heap.objs.size (Obj.mapSeq (·++a.toArray))).push (seqObj "list" a.toArray 0)).get? (s.heap.objs.size+1)=some (seqObj "list" a.toArray 0):=k ▸ Heap.get?_push_size _ rfl
 have p:∀ b o,s.heap.get? b=some o->(((s.heap.push (seqObj "list" #[] 0)).update s.heap.objs.size (Obj.mapSeq (·++a.toArray))).push (seqObj "list" a.toArray 0)).get? b=some o:=λb o e =>
  Heap.get?_push_of_some _ ((Heap.get?_update_other _ _ λz=>by subst z;exact absurd (Heap.lt_size e) (Nat.lt_irrefl _)).trans (Heap.get?_push_of_some _ e))
 refine Calls.call_function_entry kind_sorted plain_sorted entry_sorted (args_sorted1 _) ?_
 unfold Builtin.«sorted»
 refine wpAny_bind (m:=checkCount "sorted" 1 1 _) (wpAny_pure (wpAny_bind (collect_list C (wpAny_bind (wpAny_newList ?_)))))
 show wpAny _ _ _ _ _ (Shared.mk (((s.heap.push (seqObj "list" #[] 0)).update s.heap.objs.size (Obj.mapSeq (·++a.toArray))).push (seqObj "list" a.toArray 0)) s.gens s.drawn s.toks s.os)
 rw[k]
 refine wpAny_bind (wpAny_holding (wpAny_call_entry slot_list_sort ⟨_,q,rfl⟩ entry_list_sort (ownT_list_sort q (λv f=>let ⟨t,g⟩:=r v f;⟨t,g.keep p⟩) j λc n D=>⟨_,rfl,wpAny_pure ⟨_,rfl,h c n ?_⟩⟩) (args_list_sort _)))
 obtain⟨u,B,y,x⟩:=D
 refine⟨u,B,λi v t f g=>?_,x⟩
 obtain⟨F,d⟩:=r v (n.mem_iff.mp (List.mem_of_getElem? f))
 rw[(y i v t f g).uniq (d.keep p)]
 exact d
end
end OwnSortT
namespace OwnSort
open PySem PyProof.Rows
noncomputable def Rise (h:Heap)(c:List Value):Prop:=∃ d:List Pr,c.length=d.length/\(∀ (i:Nat) (v:Value) (t:Pr),c[i]?=some v->d[i]?=some t->TP h v t)/\d.Pairwise λa b=>bltP b a=false
theorem TP.tt {h:Heap}{v:Value}{t:Pr}(x:TP h v t):OwnSortT.TT h v [t.1,t.2]:=by
 obtain⟨a,o,n,f,ty,b,e,d,c⟩:=x
 exact⟨a,o,n,[.int t.1 f,.int t.2 ty],b,e,d,c,.cons _ _ (.cons _ _ .nil),List.cons_ne_nil _ _⟩
theorem zfZ (a b:Pr):HT.lexLt [a.1,a.2] [b.1,b.2]=bltP a b:=by
 rw[HT.lexLt_cons,HT.lexLt_cons]
 unfold bltP
 by_cases c:a.1=b.1
 .rw[if_pos c]
  by_cases d:a.2=b.2
  .rw[if_pos d,decide_eq_false (by omega)];rfl
  .rw[if_neg d,decide_eq_decide];omega
 .rw[if_neg c,decide_eq_decide];omega
theorem zcD {h:Heap}{k c:List Value}(y:∀ v∈k,∃ t,TP h v t)(x:c.Perm k)(r:OwnSortT.Rise h c):Rise h c:=by
 obtain⟨d,o,s,m⟩:=r
 have key:∀ (i:Nat) (v:Value) (t:List Int),c[i]?=some v->d[i]?=some t->∃ p:Pr,TP h v p/\t=[p.1,p.2]:=λi v t f g=>by
  obtain⟨p,j⟩:=y v (x.mem_iff.mp (List.mem_of_getElem? f))
  exact⟨p,j,OwnSortT.TT.uniq (s i v t f g) j.tt⟩
 have ex:∀ t∈d,∃ p:Pr,t=[p.1,p.2]:=λt l=>by
  obtain⟨i,w,rfl⟩:=List.getElem_of_mem l
  obtain⟨p,_,e⟩:=key i c[i] d[i] (List.getElem?_eq_getElem (by omega)) (List.getElem?_eq_getElem w)
  exact⟨p,e⟩
 refine⟨d.map λt=>(t.getD 0 0,t.getD 1 0),by rw[List.length_map,o],λi v t f g=>?_,?_⟩
 .rw[List.getElem?_map]at g
  obtain⟨u,n,rfl⟩:=Option.map_eq_some_iff.mp g
  obtain⟨p,j,rfl⟩:=key i v u f n
  exact j
 .rw[List.pairwise_map]
  refine m.imp_of_mem λ{a b} ha hb hab=>?_
  obtain⟨p,rfl⟩:=ex a ha
  obtain⟨q,rfl⟩:=ex b hb
  rw[zfZ]at hab
  exact hab
section
variable {prog:Program}{w:World}{A:Around}{E:Value->Shared->Prop}{s:Shared}
theorem own_sorted {l:Addr}{b:List Value}{Q:Value->Shared->Prop}(g:s.heap.IsList l b.toArray)(c:∀ v∈b,∃ t,TP s.heap v t)(e:b.length < 64)
 (h:∀ a:Array Value,a.toList.Perm b->Rise s.heap a.toList->Q (.ref (s.heap.objs.size+1)) { s with heap:=sortedAll s.heap b a }):wpAny (model prog w) A (call (.builtin "sorted") [.ref l]) Q E s :=
 OwnSortT.ownT_sorted g (λv f=>(c v f).imp' (λt=>[t.1,t.2]) λ_ d=>d.tt) (by omega) λa p r=>h a p (zcD c p r)
end
end OwnSort
namespace Dl
open PySem L2
class KK where
 K:W.Frag
 dk:Addr
inductive D where
 | non | bl (b:Bool) | int (i:Int) | str (x:Str) | tup (ds:List D) | lst (ds:List D) | scr (ns:List Int)
  | dct (z t:Bool) (ks:List (List Key)) (vs:List D)
  | obj (w h:D) (ps:List D)
 deriving Inhabited
noncomputable def ZM (a b:V) (q:Addr):List (Str × V):=[("web",a),("heap",b),("past",.ref q)]
section
variable [KK]
noncomputable def zac (o:HO)(t:Bool)(c:List (List Key))(b:List V):Prop :=
 if t=true then ∃ a,o=.dT a/\a.map (·.1)=c/\a.map (·.2)=b else ∃ a:List (Key × V),o=.dK a/\a.map (λp=>[p.1])=c/\a.map (·.2)=b
noncomputable def XO (H:Hp)(a:Addr)(z t:Bool)(d:List (List Key))(b:List V):Prop :=
 ∃ u,zac u t d b/\if z=true then ∃ c,H a=some (.frz c u)else H a=some u
theorem XO.mono {H H':Hp}{a:Addr}{z t:Bool}{c:List (List Key)}{d:List V}(s:zD H H')(h:XO H a z t c d):XO H' a z t c d:=by
 obtain⟨u,f,b⟩:=h
 refine⟨u,f,?_⟩
 cases z with
 | true =>
  rw[if_pos rfl]at b ⊢
  obtain⟨e,b⟩:=b
  exact⟨e,s _ _ b⟩
 | false =>
  rw[if_neg Bool.false_ne_true]at b ⊢
  exact s _ _ b
theorem XO.rd {H:Hp}{a:Addr}{z t:Bool}{d:List (List Key)}{c:List V}(h:XO H a z t d c):∃ u,zac u t d c/\Rd H a u:=by
 obtain⟨u,f,b⟩:=h
 refine⟨u,f,?_⟩
 cases z with
 | true =>
  rw[if_pos rfl]at b
  obtain⟨e,b⟩:=b
  exact .inr ⟨e,b⟩
 | false =>
  rw[if_neg Bool.false_ne_true]at b
  exact .inl b
mutual
noncomputable def At (H:Hp):D->V->Prop
 | .non,v=>v=.non
 | .bl b,v=>v=.bl b
 | .int i,v=>v=.int i
 | .str x,v=>v=.str x
 | .tup ds,v=>∃ a c,v=.ref a/\H a=some (.tup c)/\AtL H ds c
 | .lst ds,v=>∃ a c,v=.ref a/\H a=some (.lst c)/\AtL H ds c
 | .scr ns,v=>∃ a,v=.ref a/\SqL KK.K H a (ns.map V.int)
 | .dct z t ks vs,v=>∃ a c,v=.ref a/\XO H a z t ks c/\AtL H vs c
 | .obj w h ps,v=>∃ p f q d e c,v=.ref p/\H p=some (.ins KK.dk f (ZM d e q))/\H q=some (.lst c)/\At H w d/\At H h e/\AtL H ps c
noncomputable def AtL (H:Hp):List D->List V->Prop
 | [],xs=>xs=[]
 | d::ds,xs=>∃ x r,xs=x::r/\At H d x/\AtL H ds r
end
mutual
theorem At.mono {H H':Hp}(s:zD H H'):∀ {d:D} {v:V},At H d v->At H' d v
 | .non,_,h=>by unfold At at h ⊢;exact h
 | .bl _,_,h=>by unfold At at h ⊢;exact h
 | .int _,_,h=>by unfold At at h ⊢;exact h
 | .str _,_,h=>by unfold At at h ⊢;exact h
 | .tup ds,_,h=>by
  unfold At at h ⊢
  obtain⟨a,c,e,b,f⟩:=h
  exact⟨a,c,e,s _ _ b,AtL.mono s f⟩
 | .lst ds,_,h=>by
  unfold At at h ⊢
  obtain⟨a,c,e,b,f⟩:=h
  exact⟨a,c,e,s _ _ b,AtL.mono s f⟩
 | .scr ns,_,h=>by
  unfold At at h ⊢
  obtain⟨a,e,b⟩:=h
  exact⟨a,e,s.seq b⟩
 | .dct z t ks vs,_,h=>by
  unfold At at h ⊢
  obtain⟨a,c,e,b,f⟩:=h
  exact⟨a,c,e,b.mono s,AtL.mono s f⟩
 | .obj w d ps,_,h=>by
  unfold At at h ⊢
  obtain⟨p,l,q,j,m,c,e,b,i,g,k,f⟩:=h
  exact⟨p,l,q,j,m,c,e,s _ _ b,s _ _ i,At.mono s g,At.mono s k,AtL.mono s f⟩
theorem AtL.mono {H H':Hp}(s:zD H H'):∀ {a:List D} {b:List V},AtL H a b->AtL H' a b
 | [],_,h=>by unfold AtL at h ⊢;exact h
 | d::a,_,h=>by
  unfold AtL at h ⊢
  obtain⟨x,r,e,f,c⟩:=h
  exact⟨x,r,e,At.mono s f,AtL.mono s c⟩
end
mutual
noncomputable def noL:D->Bool
 | .tup ds=>zeV ds
 | .lst _=>false
 | .scr _=>false
 | .dct _ _ _ _=>false
 | .obj _ _ _=>false
 | _=>true
noncomputable def zeV:List D->Bool
 | []=>true
 | d::ds=>noL d&&zeV ds
end
mutual
theorem At.flat {G F:Hp}(h:∀ q b,G q=some (.tup b)->F q=some (.tup b)):∀ {d:D} {v:V},noL d=true->At G d v->At F d v
 | .non,_,_,a=>by unfold At at a ⊢;exact a
 | .bl _,_,_,a=>by unfold At at a ⊢;exact a
 | .int _,_,_,a=>by unfold At at a ⊢;exact a
 | .str _,_,_,a=>by unfold At at a ⊢;exact a
 | .tup ds,_,n,a=>by
  unfold At at a ⊢
  unfold noL at n
  obtain⟨p,b,e,f,c⟩:=a
  exact⟨p,b,e,h _ _ f,AtL.flat h n c⟩
 | .lst ds,_,n,_=>by unfold noL at n;cases n
 | .scr ds,_,n,_=>by unfold noL at n;cases n
 | .dct _ _ _ _,_,n,_=>by unfold noL at n;cases n
 | .obj _ _ _,_,n,_=>by unfold noL at n;cases n
theorem AtL.flat {G F:Hp}(h:∀ q b,G q=some (.tup b)->F q=some (.tup b)):∀ {c:List D} {b:List V},zeV c=true->AtL G c b->AtL F c b
 | [],_,_,a=>by unfold AtL at a ⊢;exact a
 | d::c,_,n,a=>by
  unfold AtL at a ⊢
  unfold zeV at n
  rw[Bool.and_eq_true]at n
  obtain⟨x,r,e,g,f⟩:=a
  exact⟨x,r,e,At.flat h n.1 g,AtL.flat h n.2 f⟩
end
section
variable {H H':Hp}{d:D}{ds es:List D}{v x:V}{xs ys:List V}
theorem At.int {i:Int}:At H (.int i) (.int i):=by unfold At;rfl
theorem At.bl {b:Bool}:At H (.bl b) (.bl b):=by unfold At;rfl
theorem At.non:At H .non .non:=by unfold At;rfl
theorem At.str {y:Str}:At H (.str y) (.str y):=by unfold At;rfl
theorem At.tup {a:Addr}(h:H a=some (.tup xs))(b:AtL H ds xs):At H (.tup ds) (.ref a):=by unfold At;exact⟨a,xs,rfl,h,b⟩
theorem At.lst {a:Addr}(h:H a=some (.lst xs))(b:AtL H ds xs):At H (.lst ds) (.ref a):=by unfold At;exact⟨a,xs,rfl,h,b⟩
theorem AtL.nil:AtL H [] []:=by unfold AtL;rfl
theorem AtL.cons (h:At H d x)(a:AtL H ds xs):AtL H (d::ds) (x::xs):=by unfold AtL;exact⟨x,xs,rfl,h,a⟩
theorem At.int_inv {i:Int}(h:At H (.int i) v):v=.int i:=by unfold At at h;exact h
theorem At.bl_inv {b:Bool}(h:At H (.bl b) v):v=.bl b:=by unfold At at h;exact h
theorem At.non_inv (h:At H .non v):v=.non:=by unfold At at h;exact h
theorem At.str_inv {y:Str}(h:At H (.str y) v):v=.str y:=by unfold At at h;exact h
theorem At.tup_inv (h:At H (.tup ds) v):∃ a xs,v=.ref a/\H a=some (.tup xs)/\AtL H ds xs:=by unfold At at h;exact h
theorem At.lst_inv (h:At H (.lst ds) v):∃ a xs,v=.ref a/\H a=some (.lst xs)/\AtL H ds xs:=by unfold At at h;exact h
theorem At.scr_inv {ns:List Int}(h:At H (.scr ns) v):∃ a,v=.ref a/\SqL KK.K H a (ns.map V.int):=by unfold At at h;exact h
theorem At.dct_inv {z t:Bool}{c:List (List Key)}{b:List D}(h:At H (.dct z t c b) v):∃ a xs,v=.ref a/\XO H a z t c xs/\AtL H b xs:=by unfold At at h;exact h
theorem At.obj_inv {w d:D}{c:List D}(h:At H (.obj w d c) v):∃ p e q a b xs,v=.ref p/\H p=some (.ins KK.dk e (ZM a b q))/\H q=some (.lst xs)/\At H w a/\At H d b/\AtL H c xs:=by unfold At at h;exact h
theorem AtL.nil_inv (h:AtL H [] xs):xs=[]:=by unfold AtL at h;exact h
theorem AtL.cons_inv (h:AtL H (d::ds) xs):∃ x r,xs=x::r/\At H d x/\AtL H ds r:=by unfold AtL at h;exact h
theorem AtL.length:∀ {ds:List D} {xs:List V},AtL H ds xs->xs.length=ds.length
 | [],_,h=>by rw[h.nil_inv];rfl
 | _::_,_,h=>by
  obtain⟨x,r,rfl,_,a⟩:=h.cons_inv
  rw[List.length_cons,List.length_cons,AtL.length a]
theorem AtL.get:∀ {ds:List D} {xs:List V} {i:Nat} {d:D},AtL H ds xs->ds[i]?=some d->∃ x,xs[i]?=some x/\At H d x
 | [],_,_,_,_,e=>by simp at e
 | _::_,_,i,_,h,e=>by
  obtain⟨x,r,rfl,f,c⟩:=h.cons_inv
  cases i with
  | zero =>
   simp at e
   subst e
   exact⟨x,rfl,f⟩
  | succ i =>
   obtain⟨y,a,b⟩:=AtL.get (i:=i) c (by simpa using e)
   exact⟨y,by simpa using a,b⟩
theorem AtL.append:∀ {ds es:List D} {xs ys:List V},AtL H ds xs->AtL H es ys->AtL H (ds++es) (xs++ys)
 | [],_,_,_,h,k=>by rw[h.nil_inv];exact k
 | _::_,_,_,_,h,k=>by
  obtain⟨x,r,rfl,b,a⟩:=h.cons_inv
  exact .cons b (AtL.append a k)
theorem AtL.snoc (h:AtL H ds xs)(k:At H d v):AtL H (ds++[d]) (xs++[v]):=h.append (.cons k .nil)
theorem AtL.take:∀ (n:Nat) {ds:List D} {xs:List V},AtL H ds xs->AtL H (ds.take n) (xs.take n)
 | 0,_,_,_=>by simpa using AtL.nil
 | n+1,[],_,h=>by rw[h.nil_inv];simpa using AtL.nil
 | n+1,_::_,_,h=>by
  obtain⟨x,r,rfl,b,a⟩:=h.cons_inv
  rw[List.take_succ_cons,List.take_succ_cons]
  exact .cons b (AtL.take n a)
theorem AtL.drop:∀ (n:Nat) {ds:List D} {xs:List V},AtL H ds xs->AtL H (ds.drop n) (xs.drop n)
 | 0,_,_,h=>h
 | n+1,[],_,h=>by rw[h.nil_inv];simpa using AtL.nil
 | n+1,_::_,_,h=>by
  obtain⟨x,r,rfl,b,a⟩:=h.cons_inv
  rw[List.drop_succ_cons,List.drop_succ_cons]
  exact AtL.drop n a
theorem AtL.rep (h:AtL H ds xs):∀ k:Nat,AtL H (List.replicate k ds).flatten (List.replicate k xs).flatten
 | 0=>.nil
 | k+1=>by
  rw[List.replicate_succ,List.replicate_succ,List.flatten_cons,List.flatten_cons]
  exact h.append (AtL.rep h k)
theorem AtL.ints (ns:List Int):AtL H (ns.map D.int) (ns.map V.int):=by
 induction ns with
 | nil=>exact .nil
 | cons n r a=>exact .cons .int a
theorem AtL.of_ints:∀ {ns:List Int} {xs:List V},AtL H (ns.map D.int) xs->xs=ns.map V.int
 | [],_,h=>h.nil_inv
 | n::r,_,h=>by
  obtain⟨x,c,rfl,b,a⟩:=AtL.cons_inv (by simpa using h)
  rw[b.int_inv,AtL.of_ints a]
  rfl
end
noncomputable def tyN:D->String
 | .non=>"NoneType" | .bl _=>"bool" | .int _=>"int" | .str _=>"str" | .tup _=>"tuple" | .lst _=>"list" | .scr _=>"list" | .dct _ _ _ _=>"dict" | .obj _ _ _=>"object"
noncomputable def Hid (F':Hp)(p:Addr)(o:HO):Prop:=F' p=none\/((∃ a,o=.tup a)/\F' p=some o)
noncomputable def Keep (F H F' H':Hp):Prop:=∀ p o,F p=none->H p=some o->Hid F' p o/\H' p=some o
structure Gr (F H F' H':Hp):Prop where
 ff:zD F F'
 fh:zD F' H'
 kp:Keep F H F' H'
theorem Gr.refl {F H:Hp}(s:zD F H):Gr F H F H:=⟨zD.refl _,s,λ_ _ a b=>⟨.inl a,b⟩⟩
theorem Gr.trans {F H F1 H1 F2 H2:Hp}(a:Gr F H F1 H1)(b:Gr F1 H1 F2 H2):Gr F H F2 H2 :=
 ⟨a.ff.trans b.ff,b.fh,λp o d f=>by
  obtain⟨x,y⟩:=a.kp p o d f
  rcases x with x | ⟨e,c⟩
  .exact b.kp p o x y
  .exact⟨.inr ⟨e,b.ff _ _ c⟩,b.fh _ _ (b.ff _ _ c)⟩⟩
theorem Gr.kl {F H F' H':Hp}{p:Addr}{o:HO}(g:Gr F H F' H')(n:∀ a,o≠.tup a)(b:F p=none)(d:H p=some o):F' p=none/\H' p=some o:=by
 obtain⟨x,y⟩:=g.kp p o b d
 rcases x with x | ⟨⟨a,c⟩,_⟩
 .exact⟨x,y⟩
 .exact absurd c (n a)
theorem Gr.alloc {F H:Hp}{p:Addr}(s:zD F H)(h:H p=none)(o:HO):Gr F H (upd F p o) (upd H p o):=by
 have a:F p=none:=s.free h
 refine⟨λb u q=>?_,λb u q=>?_,λb u q r=>?_⟩
 .rw[ze (zd q a)];exact q
 .by_cases e:b=p
  .subst e;rw[zf]at q ⊢;exact q
  .rw[ze e]at q ⊢;exact s b u q
 .have e:b≠p:=zd r h
  rw[ze e];exact⟨.inl (by rw[ze e];exact q),r⟩
theorem Gr.hide {F H:Hp}{p:Addr}(s:zD F H)(h:H p=none)(o:HO):Gr F H F (upd H p o):=by
 refine⟨zD.refl _,λb u q=>?_,λb u q r=>?_⟩
 .rw[ze (zd (s b u q) h)];exact s b u q
 .have e:b≠p:=zd r h
  rw[ze e];exact⟨.inl q,r⟩
theorem Gr.show {F H:Hp}{p:Addr}{o:HO}{F0 H0:Hp}(g:Gr F0 H0 F H)(h0:H0 p=none)(a:F p=none)(h:H p=some o):Gr F0 H0 (upd F p o) H:=by
 refine⟨λb u q=>?_,λb u q=>?_,λb u q r=>?_⟩
 .have:=g.ff b u q
  rw[ze (zd this a)];exact this
 .by_cases e:b=p
  .subst e;rw[zf]at q;rw[<-q];exact h
  .rw[ze e]at q;exact g.fh b u q
 .have e:b≠p:=zd r h0
  obtain⟨x,y⟩:=g.kp b u q r
  refine⟨?_,y⟩
  unfold Hid
  rw[ze e]
  exact x
noncomputable abbrev Ev:=List (Option D)
noncomputable def VAt (F:Hp)(ρ:Ev)(σ:St):Prop:=∀ (i:Nat) (d:D),ρ[i]?=some (some d)->∃ v,σ[i]?=some (some v)/\At F d v
theorem VAt.mono {F F':Hp}{ρ:Ev}{σ:St}(h:VAt F ρ σ)(s:zD F F'):VAt F' ρ σ:=λi d e=>let ⟨v,e1,a⟩:=h i d e;⟨v,e1,a.mono s⟩
noncomputable def RE (t:TE)(f:Ev->Option D):Prop :=
 ∀ (σ:St) (ρ:Ev) (F H:Hp) (d:D) (Q:VK),zD F H->VAt F ρ σ->f ρ=some d->(∀ F' H' v,Gr F H F' H'->At F' d v->Q v H')->t σ H Q
noncomputable def RT (t:TT)(f:Ev->Option Bool):Prop :=
 ∀ (σ:St) (ρ:Ev) (F H:Hp) (b:Bool) (Q:Bool->Hp->Prop),zD F H->VAt F ρ σ->f ρ=some b->(∀ F' H',Gr F H F' H'->Q b H')->t σ H Q
noncomputable def RA (t:TA)(f:Ev->Option (List D)):Prop :=
 ∀ (σ:St) (ρ:Ev) (F H:Hp) (a:List D) (Q:List V->Hp->Prop),zD F H->VAt F ρ σ->f ρ=some a->(∀ F' H' b,Gr F H F' H'->AtL F' a b->Q b H')->t σ H Q
noncomputable def RF (t:TE)(f:Ev->Option (List D)):Prop :=
 ∀ (σ:St) (ρ:Ev) (F H:Hp) (a:List D) (Q:VK),zD F H->VAt F ρ σ->f ρ=some a->(∀ F' H' p b,Gr F H F' H'->H p=none->F' p=none->H' p=some (.lst b)->AtL F' a b->Q (.ref p) H')->t σ H Q
noncomputable def ED (X:Cx)(e:Expr)(f:Ev->Option D):Prop:=∃ t,PE X e t/\RE t f
noncomputable def TD (X:Cx)(e:Expr)(f:Ev->Option Bool):Prop:=∃ t,PT X e t/\RT t f
noncomputable def WD (X:Cx)(e:Expr)(f:Ev->Option Bool):Prop:=∃ t,PW X e t/\RT t f
noncomputable def AD (X:Cx)(a:List Expr)(f:Ev->Option (List D)):Prop:=∃ t,PA X a t/\RA t f
noncomputable def FL (X:Cx)(e:Expr)(f:Ev->Option (List D)):Prop:=∃ t,PE X e t/\RF t f
section
variable {X:Cx}{a b c:Expr}{pos:Pos}
noncomputable def yy (f:Ev->Option (List D)):Ev->Option D:=fun ρ=>(f ρ).map .lst
theorem wl {f:Ev->Option (List D)}(h:FL X a f):ED X a (yy f):=by
 obtain⟨t,l,r⟩:=h
 refine⟨t,l,fun σ ρ F H d Q s k e q=>?_⟩
 obtain⟨i,m,rfl⟩:=Option.map_eq_some_iff.mp e
 refine r σ ρ F H i Q s k m λF' H' p o g h0 c j n=>?_
 have g2:=g.show h0 c j
 exact q _ _ _ g2 (At.lst zf (n.mono (λb u e=>by rw[ze (zd e c)];exact e)))
noncomputable def zc (i:Nat):Ev->Option D:=fun ρ=>(ρ[i]?).getD none
theorem zjc (i:Nat)(h:PE X a (Yl i)):ED X a (zc i):=by
 refine⟨_,h,fun σ ρ F H d Q s g e q=>?_⟩
 have f:ρ[i]?=some (some d):=by
  unfold zc at e
  cases h:ρ[i]? with
  | none=>rw[h]at e;cases e
  | some x=>rw[h]at e;cases x with
   | none=>cases e
   | some y=>cases e;rfl
 obtain⟨v,b,c⟩:=g i d f
 exact⟨v,b,q _ _ _ (.refl s) c⟩
noncomputable def eC (d:D):Ev->Option D:=λ_=>some d
theorem zw {i:Int}(h:PE X a (tC (.int i))):ED X a (eC (.int i)):=⟨_,h,λ_ _ _ _ _ _ s _ e q=>by cases e;exact q _ _ _ (.refl s) .int⟩
theorem zf4 {i:Bool}(h:PE X a (tC (.bl i))):ED X a (eC (.bl i)):=⟨_,h,λ_ _ _ _ _ _ s _ e q=>by cases e;exact q _ _ _ (.refl s) .bl⟩
theorem zk {i:Str}(h:PE X a (tC (.str i))):ED X a (eC (.str i)):=⟨_,h,λ_ _ _ _ _ _ s _ e q=>by cases e;exact q _ _ _ (.refl s) .str⟩
theorem Va (h:PE X a (tC .non)):ED X a (eC .non):=⟨_,h,λ_ _ _ _ _ _ s _ e q=>by cases e;exact q _ _ _ (.refl s) .non⟩
noncomputable def OpD (r:R2)(g:D->D->Option D):Prop :=
 ∀ (F H:Hp) (x y:V) (d e z:D) (Q:VK),zD F H->At F d x->At F e y->g d e=some z->(∀ F' H' v,Gr F H F' H'->At F' z v->Q v H')->r x y H Q
noncomputable def zh (g:D->D->Option D)(f h:Ev->Option D):Ev->Option D:=fun ρ=>(f ρ).bind λx=>(h ρ).bind λy=>g x y
theorem zd0 {r:R2}{g:D->D->Option D}{b d:TE}{f h:Ev->Option D}(p:OpD r g)(i:RE b f)(t:RE d h):RE (tOp r b d) (zh g f h):=by
 intro σ ρ F H z Q s c e q
 obtain⟨x,m,e⟩:=Option.bind_eq_some_iff.mp e
 obtain⟨y,j,e⟩:=Option.bind_eq_some_iff.mp e
 refine i σ ρ F H x _ s c m λF1 H1 v a n=>?_
 refine t σ ρ F1 H1 y _ a.fh (c.mono a.ff) j λF2 H2 u g2 o=>?_
 exact p F2 H2 v u x y z Q g2.fh (n.mono g2.ff) o e λF3 H3 w k l=>q F3 H3 w ((a.trans g2).trans k) l
theorem Zh {c:Operator}{r:R2}{g:D->D->Option D}{f h:Ev->Option D}(d:OpR X (binaryOp c) r)(i:OpD r g)(e:ED X a f)(j:ED X b h):ED X (.BinOp a c b pos) (zh g f h) :=
 let ⟨_,pa,ra⟩:=e
 let ⟨_,pb,rb⟩:=j
 ⟨_,zeP d pa pb,zd0 i ra rb⟩
theorem W8 {c:CmpOp}{r:R2}{g:D->D->Option D}{f h:Ev->Option D}(d:OpR X (compareOp c) r)(i:OpD r g)(k:behindInMarks c b=false)(e:ED X a f)(j:ED X b h):ED X (.Compare a [c] [b] pos) (zh g f h) :=
 let ⟨_,pa,ra⟩:=e
 let ⟨_,pb,rb⟩:=j
 ⟨_,V4 d pa pb k,zd0 i ra rb⟩
noncomputable def asB:D->Option Bool
 | .bl b=>some b
 | _=>none
theorem vC {d:D}{b:Bool}(h:asB d=some b):d=.bl b:=by
 cases d <;> first | (cases h;rfl) | cases h
noncomputable def tOf (f:Ev->Option D):Ev->Option Bool:=fun ρ=>(f ρ).bind asB
theorem zft {t:TE}{f:Ev->Option D}(r:RE t f):RT (zbT t) (tOf f):=by
 intro σ ρ F H b Q s g e q
 obtain⟨x,a,e⟩:=Option.bind_eq_some_iff.mp e
 cases vC e
 exact r σ ρ F H _ _ s g a λF1 H1 v d c=>⟨b,c.bl_inv,q F1 H1 d⟩
theorem yr {c:CmpOp}{r:R2}{g:D->D->Option D}{f h:Ev->Option D}(d:OpR X (compareOp c) r)(i:OpD r g)(k:behindInMarks c b=false)(e:ED X a f)(j:ED X b h):TD X (.Compare a [c] [b] pos) (tOf (zh g f h)) :=
 let ⟨_,pa,ra⟩:=e
 let ⟨_,pb,rb⟩:=j
 ⟨_,Vx d pa pb k,zft (zd0 i ra rb)⟩
theorem ZZ {f:Ev->Option D}(d:ED X a f)(c:∀ b,isTrue a X.env b=(do let v<-b;standAt a.pos;holding [v] (truthy v)):=by intro _;rfl):TD X a (tOf f) :=
 let ⟨_,pa,ra⟩:=d
 ⟨_,zgE pa c,zft ra⟩
noncomputable def xN (f g:Ev->Option Bool):Ev->Option Bool:=fun ρ=>(f ρ).bind λc=>if c=true then g ρ else some false
noncomputable def Zi (f g:Ev->Option Bool):Ev->Option Bool:=fun ρ=>(f ρ).bind λc=>if c=true then some true else g ρ
noncomputable def yu (f:Ev->Option Bool):Ev->Option Bool:=fun ρ=>(f ρ).map (!·)
theorem zca {f:Ev->Option Bool}(b:TD X a f):WD X (.BoolOp .And [a] pos) f:=let ⟨_,pa,ra⟩:=b;⟨_,ziT pa,ra⟩
theorem Vc {f:Ev->Option Bool}(b:TD X a f):WD X (.BoolOp .Or [a] pos) f:=let ⟨_,pa,ra⟩:=b;⟨_,zgY pa,ra⟩
theorem zgK {rest:List Expr}{f g:Ev->Option Bool}(k:TD X a f)(m:WD X (.BoolOp .And (b::rest) pos) g):WD X (.BoolOp .And (a::b::rest) pos) (xN f g):=by
 obtain⟨p,l,j⟩:=k
 obtain⟨o,i,n⟩:=m
 refine⟨_,zj9 l i,fun σ ρ F H z Q s d e q=>?_⟩
 obtain⟨x,h,e⟩:=Option.bind_eq_some_iff.mp e
 refine j σ ρ F H x _ s d h λF1 H1 c=>?_
 cases x with
 | true =>
  rw[if_pos rfl]at e ⊢
  exact n σ ρ F1 H1 z Q c.fh (d.mono c.ff) e λF2 H2 g2=>q F2 H2 (c.trans g2)
 | false =>
  rw[if_neg Bool.false_ne_true]at e ⊢
  cases e
  exact q F1 H1 c
theorem zcQ {rest:List Expr}{f g:Ev->Option Bool}(k:TD X a f)(m:WD X (.BoolOp .Or (b::rest) pos) g):WD X (.BoolOp .Or (a::b::rest) pos) (Zi f g):=by
 obtain⟨p,l,j⟩:=k
 obtain⟨o,i,n⟩:=m
 refine⟨_,zkL l i,fun σ ρ F H z Q s d e q=>?_⟩
 obtain⟨x,h,e⟩:=Option.bind_eq_some_iff.mp e
 refine j σ ρ F H x _ s d h λF1 H1 c=>?_
 cases x with
 | false =>
  rw[if_neg Bool.false_ne_true]at e ⊢
  exact n σ ρ F1 H1 z Q c.fh (d.mono c.ff) e λF2 H2 g2=>q F2 H2 (c.trans g2)
 | true =>
  rw[if_pos rfl]at e ⊢
  cases e
  exact q F1 H1 c
theorem zi1 {f:Ev->Option Bool}(h:WD X a f):TD X a f:=let ⟨_,p,r⟩:=h;⟨_,p.pt,r⟩
theorem YL {f:Ev->Option Bool}(d:TD X a f):TD X (.UnaryOp .Not a pos) (yu f):=by
 obtain⟨j,g,c⟩:=d
 refine⟨_,zgv g,fun σ ρ F H z Q s i e q=>?_⟩
 obtain⟨x,b,rfl⟩:=Option.map_eq_some_iff.mp e
 exact c σ ρ F H x _ s i b λF1 H1 h=>q F1 H1 h
noncomputable def Zy (f g:Ev->Option D):Ev->Option D:=fun ρ=>((f ρ).bind asB).bind λc=>if c=true then g ρ else some (.bl false)
noncomputable def eOr (f g:Ev->Option D):Ev->Option D:=fun ρ=>((f ρ).bind asB).bind λc=>if c=true then some (.bl true)else g ρ
noncomputable def za4 (f:Ev->Option D):Ev->Option D:=fun ρ=>((f ρ).bind asB).map λc=>.bl (!c)
theorem zkD {op}{f:Ev->Option D}(ha:ED X a f):ED X (.BoolOp op [a] pos) f:=let ⟨_,pa,ra⟩:=ha;⟨_,zgJ pa,ra⟩
theorem zkv {rest:List Expr}{f g:Ev->Option D}(m:ED X a f)(o:ED X (.BoolOp .And (b::rest) pos) g):ED X (.BoolOp .And (a::b::rest) pos) (Zy f g):=by
 obtain⟨u,n,k⟩:=m
 obtain⟨t,i,p⟩:=o
 refine⟨_,zgG n i,fun σ ρ F H z Q s h e q=>?_⟩
 obtain⟨x,d,e⟩:=Option.bind_eq_some_iff.mp e
 obtain⟨y,d,r⟩:=Option.bind_eq_some_iff.mp d
 cases vC r
 refine k σ ρ F H _ _ s h d λF1 H1 v c j=>⟨x,j.bl_inv,?_⟩
 cases x with
 | true =>
  rw[if_pos rfl]at e ⊢
  exact p σ ρ F1 H1 z Q c.fh (h.mono c.ff) e λF2 H2 w g2 l=>q F2 H2 w (c.trans g2) l
 | false =>
  rw[if_neg Bool.false_ne_true]at e ⊢
  cases e
  exact q F1 H1 _ c .bl
theorem zj4 {f:Ev->Option D}(g:ED X a f):ED X (.UnaryOp .Not a pos) (za4 f):=by
 obtain⟨l,h,d⟩:=g
 refine⟨_,zka h,fun σ ρ F H z Q s k e q=>?_⟩
 obtain⟨x,b,rfl⟩:=Option.map_eq_some_iff.mp e
 obtain⟨y,b,i⟩:=Option.bind_eq_some_iff.mp b
 cases vC i
 exact d σ ρ F H _ _ s k b λF1 H1 v j c=>⟨x,c.bl_inv,q F1 H1 _ j .bl⟩
noncomputable def eIf (t:Ev->Option Bool)(f g:Ev->Option D):Ev->Option D:=fun ρ=>(t ρ).bind λc=>if c=true then f ρ else g ρ
noncomputable def eUn (g:D->Option D)(f:Ev->Option D):Ev->Option D:=fun ρ=>(f ρ).bind g
noncomputable def Vu:D->Option D
 | .int i=>some (.int (-i))
 | _=>none
theorem zg1 {f:Ev->Option D}(g:ED X a f):ED X (.UnaryOp .USub a pos) (eUn Vu f):=by
 obtain⟨k,h,d⟩:=g
 refine⟨_,zjk zgR h,fun σ ρ F H z Q s j e q=>?_⟩
 obtain⟨x,b,e⟩:=Option.bind_eq_some_iff.mp e
 cases x <;> try cases e
 exact d σ ρ F H _ _ s j b λF1 H1 v i c=>⟨_,c.int_inv,q F1 H1 _ i .int⟩
noncomputable def zo:Ev->Option (List D):=λ_=>some []
noncomputable def za (f:Ev->Option D)(g:Ev->Option (List D)):Ev->Option (List D):=fun ρ=>(f ρ).bind λd=>(g ρ).map (d::·)
theorem zm:AD X [] zo:=⟨_,z9,λ_ _ _ _ _ _ s _ e q=>by cases e;exact q _ _ _ (.refl s) .nil⟩
theorem zb {e:Expr}{a:List Expr}{f:Ev->Option D}{g:Ev->Option (List D)}(n:ED X e f)(i:AD X a g)(t:starEach (e::a) X.env=(false,eval e X.env)::starEach a X.env:=by rfl):AD X (e::a) (za f g):=by
 obtain⟨y,o,l⟩:=n
 obtain⟨u,h,p⟩:=i
 refine⟨_,zn o h t,fun σ ρ F H z Q s c e q=>?_⟩
 obtain⟨x,d,e⟩:=Option.bind_eq_some_iff.mp e
 obtain⟨k,r,rfl⟩:=Option.map_eq_some_iff.mp e
 refine l σ ρ F H x _ s c d λF1 H1 v b j=>?_
 exact p σ ρ F1 H1 k _ b.fh (c.mono b.ff) r λF2 H2 w g2 m=>q F2 H2 _ (b.trans g2) (.cons (j.mono g2.ff) m)
noncomputable def lim (n:Nat):Bool:=decide (n<=sizeLine)
noncomputable def wT (g:Ev->Option (List D)):Ev->Option D:=fun ρ=>(g ρ).bind λa=>if lim a.length=true then some (.tup a)else none
noncomputable def zO (g:Ev->Option (List D)):Ev->Option (List D):=fun ρ=>(g ρ).bind λa=>if lim a.length=true then some a else none
theorem Y0 {b:List Expr}{x1}{g:Ev->Option (List D)}(h:AD X b g):ED X (.Tuple b x1 pos) (wT g):=by
 obtain⟨o,k,i⟩:=h
 refine⟨_,zk4 k,fun σ ρ F H z Q s m e q=>?_⟩
 obtain⟨f,d,e⟩:=Option.bind_eq_some_iff.mp e
 split at e <;> cases e
 rename_i l
 refine i σ ρ F H f _ s m d λF1 H1 j c a=>⟨by rw[a.length];exact of_decide_eq_true l,λp n=>?_⟩
 have g2:=Gr.alloc c.fh n (.tup j)
 exact q _ _ _ (c.trans g2) (.tup zf (a.mono g2.ff))
theorem xz {f:List Expr}{g:Ev->Option (List D)}(h:AD X f g):FL X (.List f pos) (zO g):=by
 obtain⟨t,k,i⟩:=h
 refine⟨_,Vl k,fun σ ρ F H z Q s l e q=>?_⟩
 obtain⟨r,m,e⟩:=Option.bind_eq_some_iff.mp e
 split at e <;> cases e
 rename_i n
 refine i σ ρ F H _ _ s l m λF1 H1 j a d=>⟨by rw[d.length];exact of_decide_eq_true n,λp b=>?_⟩
 have g2:=Gr.hide a.fh b (.lst j)
 have h0:H p=none:=by
  cases e:H p with
  | none=>rfl
  | some o =>
   cases c:F p with
   | none=>rw[(a.kp p o c e).2]at b;cases b
   | some u=>rw[a.fh _ _ (a.ff _ _ c)]at b;cases b
 exact q _ _ _ _ (a.trans g2) h0 (a.fh.free b) zf d
end
end
end Dl
namespace Dl
open PySem L2
variable [KK]
structure Pst where
 z:Option (Addr × Addr × Addr)
 l:List D
 deriving Inhabited
inductive Sl where
 | no | v (d:D) | o (ds:List D) | m (t:Bool) (ks:List (List Key)) (vs:List D) | k (w h:D) (ps:Pst)
 deriving Inhabited
noncomputable abbrev SE:=List Sl
noncomputable def Sl.f:Sl->Option D
 | .v d=>some d
 | _=>none
noncomputable def Sl.g:Sl->Option D
 | .v d=>some d
 | .o ds=>some (.lst ds)
 | .m t b a=>some (.dct false t b a)
 | .k w h ps=>some (.obj w h ps.l)
 | .no=>none
noncomputable def Sl.isO:Sl->Bool
 | .o _=>true
 | .m _ _ _=>true
 | .k _ _ _=>true
 | _=>false
noncomputable def Sl.isK:Sl->Bool
 | .k _ _ _=>true
 | _=>false
noncomputable def visF (ρ:SE):Ev:=ρ.map Sl.f
noncomputable def visG (ρ:SE):Ev:=ρ.map Sl.g
noncomputable def zaJ (F:Hp)(o:HO):Sl->Prop
 | .o b=>∃ a,o=.lst a/\AtL F b a
 | .m t f b=>∃ a,zac o t f a/\AtL F b a
 | .k w h _=>∃ e c d q,o=.ins KK.dk e (ZM c d q)/\At F w c/\At F h d
 | _=>False
theorem zaJ.mono {F F':Hp}{o:HO}{s:Sl}(h:zaJ F o s)(k:zD F F'):zaJ F' o s:=by
 cases s with
 | no=>exact h
 | v d=>exact h
 | o f=>obtain⟨c,e,a⟩:=h;exact⟨c,e,a.mono k⟩
 | m t l f=>obtain⟨c,e,a⟩:=h;exact⟨c,e,a.mono k⟩
 | k w d ps=>obtain⟨i,g,j,q,e,a,b⟩:=h;exact⟨i,g,j,q,e,a.mono k,b.mono k⟩
theorem zaJ.isO {F:Hp}{o:HO}{s:Sl}(h:zaJ F o s):s.isO=true:=by
 cases s with
 | no=>exact h.elim
 | v d=>exact h.elim
 | o a=>rfl
 | m t b a=>rfl
 | k w d c=>rfl
theorem zaJ.ntup {F:Hp}{o:HO}{s:Sl}(h:zaJ F o s)(c:List V):o≠.tup c:=by
 cases s with
 | no=>exact h.elim
 | v d=>exact h.elim
 | o b=>obtain⟨f,rfl,_⟩:=h;intro e;cases e
 | m t l b =>
  obtain⟨f,e,_⟩:=h
  unfold zac at e
  split at e
  .obtain⟨a,rfl,_⟩:=e;intro e;cases e
  .obtain⟨a,rfl,_⟩:=e;intro e;cases e
 | k w d n=>obtain⟨i,g,j,q,rfl,_⟩:=h;intro e;cases e
theorem zaJ.at {F G:Hp}{o:HO}{s:Sl}{d:D}{p:Addr}(h:zaJ F o s)(e:s.g=some d)(c:G p=some o)(k:zD F G)(g:s.isK=false):At G d (.ref p):=by
 cases s with
 | no=>exact h.elim
 | v d=>exact h.elim
 | o f =>
  cases e
  obtain⟨b,rfl,a⟩:=h
  exact .lst c (a.mono k)
 | m t i f =>
  cases e
  obtain⟨b,e,a⟩:=h
  unfold At
  exact⟨p,b,rfl,⟨o,e,c⟩,a.mono k⟩
 | k w d j=>cases g
noncomputable def DkF (Hb F H:Hp)(ρ:SE)(σ:St):Prop:=∀ (i:Nat) (w h:D) (b:Pst),ρ[i]?=some (Sl.k w h b)->∃ (p c q:Addr) (e f:V) (d:List V),σ[i]?=some (some (.ref p))/\H p=some (.ins KK.dk c (ZM e f q))/\Hb q=none/\F q=none/\H q=some (.lst d)/\AtL F b.l d/\(∀ (j:Nat) (s:Sl),ρ[j]?=some s->s.isO=true->σ[j]?≠some (some (.ref q)))/\(∀ (j:Nat) (s:Sl),ρ[j]?=some s->s.isK=true->j=i)/\∀ a,b.z=some a->a=(p,c,q)
theorem Sl.isK_eq {s:Sl}(h:s.isK=true):∃ w d a,s=.k w d a:=by
 cases s with
 | k w d a=>exact⟨w,d,a,rfl⟩
 | _=>cases h
theorem DkF.step {Hb F H Hb' F' H':Hp}{ρ k:SE}{σ g:St}(r:DkF Hb F H ρ σ)(m:∀ (i:Nat) (w h:D) (a:Pst),k[i]?=some (.k w h a)->ρ[i]?=some (.k w h a)/\g[i]?=σ[i]?)(t:zD F F')
 (B:∀ (i:Nat) (w h:D) (a:Pst) (p c q:Addr) (b f:V) (d:List V),ρ[i]?=some (.k w h a)->σ[i]?=some (some (.ref p))->H p=some (.ins KK.dk c (ZM b f q))->Hb q=none->F q=none->H q=some (.lst d)->(∀ (j:Nat) (s:Sl),ρ[j]?=some s->s.isO=true->σ[j]?≠some (some (.ref q))) ->
  H' p=some (.ins KK.dk c (ZM b f q))/\Hb' q=none/\F' q=none/\H' q=some (.lst d)/\∀ (j:Nat) (s:Sl),k[j]?=some s->s.isO=true->g[j]?≠some (some (.ref q))):DkF Hb' F' H' k g:=λi w h a e=>by
 obtain⟨n,C⟩:=m i w h a e
 obtain⟨p,c,q,b,f,d,o,I,K,O,z,N,y,M,x⟩:=r i w h a n
 obtain⟨G,g2,E,L,J⟩:=B i w h a p c q b f d n o I K O z y
 refine⟨p,c,q,b,f,d,by rw[C];exact o,G,g2,E,L,N.mono t,J,λj s v P=>?_,x⟩
 obtain⟨A,u,l,rfl⟩:=Sl.isK_eq P
 exact M j _ (m j A u l v).1 rfl
theorem zjg {d e a b:V}{q c:Addr}(h:ZM d e q=ZM a b c):q=c:=by
 unfold ZM at h
 simp at h
 exact h.2.2
theorem zjr {C f a q d:Addr}{e g c b:V}(h:(some (HO.ins C f (ZM e g q)):Option HO)=some (.ins C a (ZM c b d))):q=d:=zjg (HO.ins.inj (Option.some.inj h)).2.2
structure Rl (Fb Hb F H:Hp) (ρ:SE) (σ:St):Prop where
 gr:Gr Fb Hb F H
 vals:∀ (i:Nat) (d:D),ρ[i]?=some (.v d)->∃ v,σ[i]?=some (some v)/\At F d v
 ows:∀ (i:Nat) (s:Sl),ρ[i]?=some s->s.isO=true->∃ p o,σ[i]?=some (some (.ref p))/\Hb p=none/\F p=none/\H p=some o/\zaJ F o s
 dis:∀ (i j:Nat) (p:Addr) (s t:Sl),ρ[i]?=some s->ρ[j]?=some t->s.isO=true->t.isO=true->σ[i]?=some (some (.ref p))->σ[j]?=some (some (.ref p))->i=j
 len:ρ.length=σ.length
 dk:DkF Hb F H ρ σ
section
variable {Fb Hb F H F' H':Hp}{ρ ρ':SE}{σ σ':St}
theorem Rl.owns (r:Rl Fb Hb F H ρ σ)(i:Nat)(c:List D)(e:ρ[i]?=some (.o c)):∃ p b,σ[i]?=some (some (.ref p))/\Hb p=none/\F p=none/\H p=some (.lst b)/\AtL F c b:=by
 obtain⟨p,o,d,h,g,f,b,rfl,a⟩:=r.ows i _ e rfl
 exact⟨p,b,d,h,g,f,a⟩
theorem Rl.grow (r:Rl Fb Hb F H ρ σ)(g:Gr F H F' H'):Rl Fb Hb F' H' ρ σ:=by
 refine⟨r.gr.trans g,λi d e=>?_,λi s e h=>?_,r.dis,r.len,r.dk.step (λ_ _ _ _ e=>⟨e,rfl⟩) g.ff λi w h K p D q C I E b j f c y x A=>?_⟩
 .obtain⟨v,b,a⟩:=r.vals i d e
  exact⟨v,b,a.mono g.ff⟩
 .obtain⟨p,o,b,j,f,c,a⟩:=r.ows i s e h
  obtain⟨m,k⟩:=g.kl a.ntup f c
  exact⟨p,o,b,j,m,k,a.mono g.ff⟩
 .obtain⟨B,o,l,G,u,J,a⟩:=r.ows i _ b rfl
  rw[j]at l
  cases l
  obtain⟨m,k⟩:=g.kl (λ_ z=>by cases z) u f
  obtain⟨n,t⟩:=g.kl (λ_ z=>by cases z) y x
  exact⟨k,c,n,t,A⟩
theorem Rl.visF (r:Rl Fb Hb F H ρ σ):VAt F (visF ρ) σ:=λi d e=>by
 unfold Dl.visF at e
 rw[List.getElem?_map]at e
 cases h:ρ[i]? with
 | none=>rw[h]at e;cases e
 | some x =>
  rw[h]at e
  cases x with
  | no=>cases e
  | v b =>
   cases e
   exact r.vals i d h
  | o a=>cases e
  | m t c a=>cases e
  | k w d f=>cases e
noncomputable def Own (ρ:SE)(σ:St)(H:Hp)(p:Addr):Prop:=∃ (i:Nat) (s:Sl) (r:Addr),ρ[i]?=some s/\s.isO=true/\σ[i]?=some (some (.ref r))/\(p=r\/(s.isK=true/\∃ b a c,H r=some (.ins KK.dk b (ZM a c p))))
open Classical in
noncomputable def gOf (ρ:SE)(σ:St)(F H:Hp):Hp:=λp=>if Own ρ σ H p then H p else F p
open Classical in
noncomputable def fOf (ρ:SE)(σ:St)(H G:Hp):Hp:=λp=>if Own ρ σ H p then none else G p
theorem Rl.own (r:Rl Fb Hb F H ρ σ){p:Addr}(h:Own ρ σ H p):Hb p=none/\F p=none/\∃ o,H p=some o/\∀ e,o≠.tup e:=by
 obtain⟨i,s,J,g,m,f,b⟩:=h
 rcases b with b | ⟨C,I,G,K,b⟩
 .subst b
  obtain⟨q,o,c,y,x,A,a⟩:=r.ows i s g m
  rw[f]at c
  cases c
  exact⟨y,x,o,A,a.ntup⟩
 .obtain⟨w,d,D,rfl⟩:=Sl.isK_eq C
  obtain⟨E,n,q,u,t,e,j,k,v,B,l,L,_⟩:=r.dk i w d D g
  rw[f]at j
  cases j
  rw[b]at k
  cases zjr k
  exact⟨v,B,_,l,λ_ z=>by cases z⟩
noncomputable def zlP (ρ:SE)(σ:St)(H:Hp)(q:Addr):Prop:=(∀ (j:Nat) (s:Sl),ρ[j]?=some s->s.isO=true->σ[j]?≠some (some (.ref q)))/\∀ (j:Nat) (w h:D) (d:Pst) (p b:Addr) (a c:V),ρ[j]?=some (.k w h d)->σ[j]?=some (some (.ref p))->H p≠some (.ins KK.dk b (ZM a c q))
theorem Rl.notown (r:Rl Fb Hb F H ρ σ)(g:Gr F H F' H'){q:Addr}(h:H q=none):zlP ρ σ H' q:=by
 refine⟨λj s a c e=>?_,λj w d n p K I T a c e=>?_⟩
 .obtain⟨p,o,b,_,_,f,_⟩:=r.ows j s a c
  rw[e]at b
  cases b
  rw[h]at f
  cases f
 .obtain⟨G,x,O,A,y,L,b,P,Q,f,J,U,_⟩:=(r.grow g).dk j w d n a
  obtain⟨V,u,S,v,t,B,i,g2,N,R,l,E,_⟩:=r.dk j w d n a
  rw[c]at b i
  cases b
  cases i
  obtain⟨D,o,m,_,C,M,_⟩:=r.ows j _ a rfl
  rw[c]at m
  cases m
  have k:=(g.kl (λ_ z=>by cases z) C g2).2
  rw[e]at k
  cases zjr k
  rw[h]at l
  cases l
theorem Rl.notbase (r:Rl Fb Hb F H ρ σ){q:Addr}(h:H q=none):Hb q=none:=by
 cases z:Hb q with
 | none=>rfl
 | some o =>
  cases a:Fb q with
  | none=>rw[(r.gr.kp q o a z).2]at h;cases h
  | some u=>rw[r.gr.fh _ _ (r.gr.ff _ _ a)]at h;cases h
theorem Rl.fg (r:Rl Fb Hb F H ρ σ):zD F (gOf ρ σ F H):=λp o e=>by
 unfold gOf
 split
 .exact r.gr.fh p o e
 .exact e
theorem Rl.gh (r:Rl Fb Hb F H ρ σ):zD (gOf ρ σ F H) H:=λp o e=>by
 unfold gOf at e
 split at e
 .exact e
 .exact r.gr.fh p o e
theorem Rl.visG (r:Rl Fb Hb F H ρ σ):VAt (gOf ρ σ F H) (visG ρ) σ:=λi d e=>by
 unfold Dl.visG at e
 rw[List.getElem?_map]at e
 cases h:ρ[i]? with
 | none=>rw[h]at e;cases e
 | some x =>
  rw[h]at e
  have e:x.g=some d:=Option.some.inj e
  have own:x.isO=true->∃ v,σ[i]?=some (some v)/\At (gOf ρ σ F H) d v:=λs=>by
   obtain⟨p,o,b,P,O,c,a⟩:=r.ows i x h s
   cases f:x.isK with
   | false =>
    refine⟨_,b,a.at e ?_ r.fg f⟩
    unfold gOf
    rw[if_pos ⟨i,x,p,h,s,b,.inl rfl⟩]
    exact c
   | true =>
    obtain⟨w,y,z,rfl⟩:=Sl.isK_eq f
    cases e
    obtain⟨M,j,q,g,u,C,l,n,R,N,B,J,_⟩:=r.dk i w y z h
    rw[b]at l
    cases l
    obtain⟨D,E,L,S,K,G,I⟩:=a
    rw[c]at n
    cases n
    cases K
    refine⟨_,b,?_⟩
    unfold At
    refine⟨p,j,q,g,u,C,rfl,?_,?_,G.mono r.fg,I.mono r.fg,J.mono r.fg⟩
    .unfold gOf
     rw[if_pos ⟨i,_,p,h,rfl,b,.inl rfl⟩]
     exact c
    .unfold gOf
     rw[if_pos ⟨i,_,p,h,rfl,b,.inr ⟨rfl,j,g,u,c⟩⟩]
     exact B
  cases x with
  | no=>cases e
  | v Q =>
   cases e
   obtain⟨v,b,a⟩:=r.vals i d h
   exact⟨v,b,a.mono r.fg⟩
  | o A=>exact own rfl
  | m t T A=>exact own rfl
  | k w d z=>exact own rfl
theorem Rl.back {G':Hp}(r:Rl Fb Hb F H ρ σ)(g:Gr (gOf ρ σ F H) H G' H'):Gr F H (fOf ρ σ H G') H'/\∀ q a,G' q=some (.tup a)->fOf ρ σ H G' q=some (.tup a):=by
 refine⟨⟨λp o e=>?_,λp o e=>?_,λp o c b=>?_⟩,λq a e=>?_⟩
 .unfold fOf
  rw[if_neg (λh=>by rw[(r.own h).2.1]at e;cases e)]
  exact g.ff p o (r.fg p o e)
 .unfold fOf at e
  split at e
  .cases e
  .exact g.fh p o e
 .by_cases h:Own ρ σ H p
  .refine⟨.inl (by unfold fOf;rw[if_pos h]),g.fh p o (g.ff p o ?_)⟩
   unfold gOf
   rw[if_pos h]
   exact b
  .obtain⟨x,y⟩:=g.kp p o (by unfold gOf;rw[if_neg h];exact c) b
   refine⟨?_,y⟩
   unfold Hid fOf
   rw[if_neg h]
   exact x
 .unfold fOf
  rw[if_neg (λh=>?_)]
  .exact e
  .obtain⟨_,_,o,b,n⟩:=r.own h
   have:G' q=some o:=g.ff q _ (by unfold gOf;rw[if_pos h];exact b)
   rw[this]at e
   cases e
   exact n a rfl
theorem Rl.out {G':Hp}(r:Rl Fb Hb F H ρ σ)(g:Gr (gOf ρ σ F H) H G' H'):Gr Fb Hb G' H':=by
 refine⟨λp o e=>g.ff p o (r.fg p o (r.gr.ff p o e)),g.fh,λp o f b=>?_⟩
 obtain⟨a,i⟩:=r.gr.kp p o f b
 have c:gOf ρ σ F H p=F p:=by
  unfold gOf
  rw[if_neg (λh=>by rw[(r.own h).1]at b;cases b)]
 rcases a with a | ⟨a,d⟩
 .exact g.kp p o (by rw[c];exact a) i
 .have:=g.ff p o (by rw[c];exact d)
  exact⟨.inr ⟨a,this⟩,g.fh _ _ this⟩
theorem Rl.set (r:Rl Fb Hb F H ρ σ){i:Nat}{d:D}{v:V}(a:At F d v):Rl Fb Hb F H (ρ.set i (.v d)) (σ.set i (some v)):=by
 have g:∀ {j:Nat} {s:Sl},(ρ.set i (.v d))[j]?=some s->s.isO=true->i≠j:=λ{j s} h c e=>by
  subst e
  rw[List.getElem?_set]at h
  simp only[if_true]at h
  split at h <;> cases h
  cases c
 have z:∀ {j:Nat} {w h:D} {m:Pst},(ρ.set i (.v d))[j]?=some (.k w h m)->i≠j:=λh=>g h rfl
 refine⟨r.gr,λj e h=>?_,λj s h c=>?_,λj k p s t f l o x u n=>?_,by simp[r.len],r.dk.step (λj w h m e=>?_) (zD.refl _) λj w h m p L q K P M O N A y G E I=>⟨A,y,G,E,λk s f c=>?_⟩⟩
 .by_cases b:i=j
  .subst b
   rw[List.getElem?_set]at h
   simp only[if_true]at h
   split at h
   .rename_i J
    cases h
    refine⟨v,?_,a⟩
    rw[List.getElem?_set]
    simp[<-r.len,J]
   .cases h
  .rw[List.getElem?_set_ne b]at h ⊢
   exact r.vals j e h
 .have b:=g h c
  rw[List.getElem?_set_ne b]at h ⊢
  exact r.ows j s h c
 .have B:=g f o
  have C:=g l x
  rw[List.getElem?_set_ne B]at f u
  rw[List.getElem?_set_ne C]at l n
  exact r.dis j k p s t f l o x u n
 .have b:=z e
  rw[List.getElem?_set_ne b]at e ⊢
  exact⟨e,rfl⟩
 .have b:=g f c
  rw[List.getElem?_set_ne b]at f ⊢
  exact I k s f c
theorem Rl.setW (r:Rl Fb Hb F H ρ σ){i:Nat}{w:Sl}{p:Addr}{o:HO}(h0:Hb p=none)(L:F p=none)(P:H p=some o)(a:zaJ F o w)
 (y:zlP ρ σ H p) (C:w.isK=false:=by rfl):Rl Fb Hb F H (ρ.set i w) (σ.set i (some (.ref p))):=by
 have b:∀ {s:Sl},(ρ.set i w)[i]?=some s->i < ρ.length/\s=w:=λ{s} h=>by
  rw[List.getElem?_set]at h
  simp only[if_true]at h
  split at h
  .rename_i g
   cases h
   exact⟨g,rfl⟩
  .cases h
 have c:i < ρ.length->(σ.set i (some (V.ref p)))[i]?=some (some (.ref p)):=λg=>by
  rw[List.getElem?_set]
  simp[<-r.len,g]
 have M:∀ {j:Nat} {x h:D} {v:Pst},(ρ.set i w)[j]?=some (.k x h v)->i≠j:=λ{j x h v} e z=>by
  subst z
  have B:=(b e).2
  rw[<-B]at C
  cases C
 refine⟨r.gr,λj e h=>?_,λj s h A=>?_,λj k q s t f u G I n m=>?_,by simp[r.len],r.dk.step (λj x h v e=>?_) (zD.refl _) λj x h v J O q N R W Q B E K S T U=>⟨E,K,S,T,λk s f A=>?_⟩⟩
 .by_cases d:i=j
  .subst d
   have e:=(b h).2
   have:=a.isO
   rw[<-e]at this
   cases this
  .rw[List.getElem?_set_ne d]at h ⊢
   exact r.vals j e h
 .by_cases d:i=j
  .subst d
   obtain⟨g,e⟩:=b h
   subst e
   exact⟨p,o,c g,h0,L,P,a⟩
  .rw[List.getElem?_set_ne d]at h ⊢
   exact r.ows j s h A
 .by_cases d:i=j
  .subst d
   by_cases l:i=k
   .exact l
   .obtain⟨g,_⟩:=b f
    rw[c g]at n
    cases n
    rw[List.getElem?_set_ne l]at u m
    exact absurd m (y.1 k t u I)
  .by_cases l:i=k
   .subst l
    obtain⟨g,_⟩:=b u
    rw[c g]at m
    cases m
    rw[List.getElem?_set_ne d]at f n
    exact absurd n (y.1 j s f G)
   .rw[List.getElem?_set_ne d]at f n
    rw[List.getElem?_set_ne l]at u m
    exact r.dis j k q s t f u G I n m
 .have d:=M e
  rw[List.getElem?_set_ne d]at e ⊢
  exact⟨e,rfl⟩
 .by_cases l:i=k
  .subst l
   rw[c (b f).1]
   intro z
   cases z
   exact y.2 j x h v J O N R Q B E
  .rw[List.getElem?_set_ne l]at f ⊢
   exact U k s f A
theorem Rl.setO (r:Rl Fb Hb F H ρ σ){i:Nat}{c:List D}{p:Addr}{b:List V}(h0:Hb p=none)(d:F p=none)(f:H p=some (.lst b))(a:AtL F c b)
 (e:zlP ρ σ H p):Rl Fb Hb F H (ρ.set i (.o c)) (σ.set i (some (.ref p))):=r.setW h0 d f ⟨b,rfl,a⟩ e
theorem Rl.mutW (r:Rl Fb Hb F H ρ σ){i:Nat}{w v:Sl}{p:Addr}{G:HO}(e:ρ[i]?=some w)(hw:w.isO=true)(A:σ[i]?=some (some (.ref p)))(a:zaJ F G v)(T:w.isK=false:=by rfl)(C:v.isK=false:=by rfl):Rl Fb Hb F (upd H p G) (ρ.set i v) σ:=by
 obtain⟨q,o,Q,h0,O,hH,_⟩:=r.ows i w e hw
 rw[A]at Q
 cases Q
 have L:i < ρ.length:=(List.getElem?_eq_some_iff.mp e).1
 have n:∀ {j:Nat} {s:Sl} {q:Addr},i≠j->ρ[j]?=some s->s.isO=true->σ[j]?=some (some (.ref q))->q≠p:=λ{j s q} hne m g I z=>by
  subst z
  exact hne (r.dis i j q w s e m hw g A I)
 refine⟨⟨r.gr.ff,λb o z=>?_,λb o S R=>?_⟩,λj d h=>?_,λj s h g=>?_,λj k q s t m I W Z X U=>?_,by simp[r.len],r.dk.step (λj x h ps y=>?_) (zD.refl _) λj x h ps p' dx q vw vh xs l u J M E Y D=>⟨?_,M,E,?_,λk s m g=>?_⟩⟩
 .rw[ze (zd z O)]
  exact r.gr.fh b o z
 .rw[ze (zd R h0)]
  exact r.gr.kp b o S R
 .by_cases c:i=j
  .subst c
   rw[List.getElem?_set_self L]at h
   cases h
   exact(Bool.noConfusion a.isO)
  .rw[List.getElem?_set_ne c]at h
   exact r.vals j d h
 .by_cases c:i=j
  .subst c
   rw[List.getElem?_set_self L]at h
   cases h
   exact⟨p,G,A,h0,O,zf,a⟩
  .rw[List.getElem?_set_ne c]at h
   obtain⟨q,z,l,u,J,M,E⟩:=r.ows j s h g
   refine⟨q,z,l,u,J,?_,E⟩
   rw[ze (n c h g l)]
   exact M
 .have f:∀ {j:Nat} {s:Sl},(ρ.set i v)[j]?=some s->s.isO=true->∃ P,ρ[j]?=some P/\P.isO=true:=λ{j s} h g=>by
   by_cases c:i=j
   .subst c;exact⟨w,e,hw⟩
   .rw[List.getElem?_set_ne c]at h;exact⟨s,h,g⟩
  obtain⟨l,V,B⟩:=f m W
  obtain⟨u,g2,K⟩:=f I Z
  exact r.dis j k q l u V g2 B K X U
 .by_cases c:i=j
  .subst c
   rw[List.getElem?_set_self L]at y
   cases y
   cases C
  .rw[List.getElem?_set_ne c]at y
   exact⟨y,rfl⟩
 .have c:i≠j:=λz=>by
   subst z
   rw[e]at l
   cases l
   cases T
  rw[ze (n c l rfl u)]
  exact J
 .rw[ze (λz=>D i w e hw (by rw[z];exact A))]
  exact Y
 .by_cases N:i=k
  .subst N
   exact D i w e hw
  .rw[List.getElem?_set_ne N]at m
   exact D k s m g
theorem Rl.mutate (r:Rl Fb Hb F H ρ σ){i:Nat}{f c:List D}{p:Addr}{b:List V}(e:ρ[i]?=some (.o f))(d:σ[i]?=some (some (.ref p)))(a:AtL F c b):Rl Fb Hb F (upd H p (.lst b)) (ρ.set i (.o c)) σ :=
 r.mutW e rfl d ⟨b,rfl,a⟩
noncomputable def Sl.fz:Sl->Sl
 | .o b=>.v (.lst b)
 | .m t c a=>.v (.dct false t c a)
 | .k _ _ _=>.no
 | s=>s
noncomputable def zly (ρ:SE)(i:Nat):SE:=ρ.set i ((ρ[i]?).getD .no).fz
theorem Rl.freeze (r:Rl Fb Hb F H ρ σ)(i:Nat):∃ F',Rl Fb Hb F' H (zly ρ i) σ:=by
 unfold zly
 cases h:ρ[i]? with
 | none =>
  refine⟨F,?_⟩
  rw[List.set_eq_of_length_le (List.getElem?_eq_none_iff.mp h)]
  exact r
 | some s =>
  have P:i < ρ.length:=(List.getElem?_eq_some_iff.mp h).1
  have same:s.fz=s->∃ F',Rl Fb Hb F' H (ρ.set i ((some s).getD .no).fz) σ:=λe=>by
   refine⟨F,?_⟩
   show Rl Fb Hb F H (ρ.set i s.fz) σ
   rw[e]
   have:ρ.set i s=ρ:=by
    apply List.ext_getElem?
    intro j
    by_cases g:i=j
    .subst g;rw[List.getElem?_set_self P,h]
    .rw[List.getElem?_set_ne g]
   rw[this]
   exact r
  have A:∀ d,s.isO=true->s.isK=false->s.g=some d->s.fz=.v d->∃ F',Rl Fb Hb F' H (ρ.set i ((some s).getD .no).fz) σ:=λd R W hg Z=>by
   obtain⟨p,o,T,e2,Y,e4,a⟩:=r.ows i s h R
   have M:zD F (upd F p o):=λb u e=>by rw[ze (zd e Y)];exact e
   show ∃ F',Rl Fb Hb F' H (ρ.set i s.fz) σ
   rw[Z]
   have n:∀ {j:Nat} {t:Sl},(ρ.set i (.v d))[j]?=some t->t.isO=true->i≠j:=λ{j t} h c e=>by
    subst e
    rw[List.getElem?_set_self P]at h
    cases h
    cases c
   refine⟨upd F p o,r.gr.show e2 Y e4,λj e z=>?_,λj t z c=>?_,λj k q t u f C G K V S=>?_,by simp[r.len],r.dk.step (λj x U Q B=>?_) M λj x U Q p' dx q vw vh xs D I J L E X N=>⟨J,L,?_,X,λk t f c=>?_⟩⟩
   .by_cases g:i=j
    .subst g
     rw[List.getElem?_set_self P]at z
     cases z
     exact⟨_,T,a.at hg zf M W⟩
    .rw[List.getElem?_set_ne g]at z
     obtain⟨v,D,I⟩:=r.vals j e z
     exact⟨v,D,I.mono M⟩
   .have g:=n z c
    rw[List.getElem?_set_ne g]at z
    obtain⟨q,y,D,I,J,L,E⟩:=r.ows j t z c
    refine⟨q,y,D,I,?_,L,E.mono M⟩
    rw[ze (λw=>g (r.dis i j p s t h z R c T (by rw[<-w];exact D)))]
    exact J
   .have a1:=n f G
    have a2:=n C K
    rw[List.getElem?_set_ne a1]at f
    rw[List.getElem?_set_ne a2]at C
    exact r.dis j k q t u f C G K V S
   .have g:=n B rfl
    rw[List.getElem?_set_ne g]at B
    exact⟨B,rfl⟩
   .rw[ze (λz=>N i s h R (by rw[z];exact T))]
    exact E
   .have g:=n f c
    rw[List.getElem?_set_ne g]at f
    exact N k t f c
  cases s with
  | no=>exact same rfl
  | v d=>exact same rfl
  | o ds=>exact A _ rfl rfl rfl rfl
  | m t ks ds=>exact A _ rfl rfl rfl rfl
  | k w d Q =>
   refine⟨F,?_⟩
   have n:∀ {j:Nat} {t:Sl},(ρ.set i Sl.no)[j]?=some t->t≠.no->i≠j:=λ{j t} h c e=>by
    subst e
    rw[List.getElem?_set_self P]at h
    cases h
    exact c rfl
   have O:∀ {t:Sl},t.isO=true->t≠.no:=λ{t} h e=>by subst e;cases h
   refine⟨r.gr,λj e z=>?_,λj t z c=>?_,λj l q t u f C G K V S=>?_,by simp[r.len,Sl.fz],r.dk.step (λj x U Q B=>?_) (zD.refl _) λj x U Q p' dx q vw vh xs D I J L E X N=>⟨J,L,E,X,λl t f c=>?_⟩⟩
   .rw[List.getElem?_set_ne (n z (λz=>by cases z))]at z
    exact r.vals j e z
   .rw[List.getElem?_set_ne (n z (O c))]at z
    exact r.ows j t z c
   .rw[List.getElem?_set_ne (n f (O G))]at f
    rw[List.getElem?_set_ne (n C (O K))]at C
    exact r.dis j l q t u f C G K V S
   .rw[List.getElem?_set_ne (n B (λz=>by cases z))]at B
    exact⟨B,rfl⟩
   .rw[List.getElem?_set_ne (n f (O c))]at f
    exact N l t f c
end
inductive Ctl where
 | nx (ρ:SE) | rt (d:D) | bk (ρ:SE) | ct (ρ:SE) | no
 deriving Inhabited
noncomputable def SOk (Fb Hb:Hp)(E:Wg):Ctl->Prop
 | .nx ρ=>∀ F H σ,Rl Fb Hb F H ρ σ->E.nx σ H
 | .bk ρ=>∀ F H σ,Rl Fb Hb F H ρ σ->E.bk σ H
 | .ct ρ=>∀ F H σ,Rl Fb Hb F H ρ σ->E.ct σ H
 | .rt d=>∀ F H v,Gr Fb Hb F H->At F d v->E.rt v H
 | .no=>False
noncomputable def RS (t:TS)(g:SE->Ctl):Prop:=∀ (Fb Hb F H:Hp) (ρ:SE) (σ:St) (E:Wg),Rl Fb Hb F H ρ σ->SOk Fb Hb E (g ρ)->t E σ H
noncomputable def SD (X:Cx)(a:Stmt)(g:SE->Ctl):Prop:=∃ t,PS X a t/\RS t g
noncomputable def SDs (X:Cx)(a:List Stmt)(g:SE->Ctl):Prop:=∃ t,PSs X a t/\RS t g
section
variable {X:Cx}{st:Stmt}{sts:List Stmt}{a b c e:Expr}{pos pos':Pos}
noncomputable def zC:SE->Ctl:=.nx
noncomputable def zG (g h:SE->Ctl):SE->Ctl:=fun ρ=>match g ρ with
 | .nx a=>h a
 | .rt d=>.rt d
 | .bk a=>.bk a
 | .ct a=>.ct a
 | .no=>.no
theorem yj:SDs X [] zC:=⟨_,zcK,λ_ _ F H ρ σ E r h=>h F H σ r⟩
theorem zl {g h:SE->Ctl}(c:SD X st g)(f:SDs X sts h):SDs X (st::sts) (zG g h):=by
 obtain⟨t,p,r⟩:=c
 obtain⟨u,j,l⟩:=f
 refine⟨_,yK p j,λFb Hb F H ρ σ E i k=>?_⟩
 refine r Fb Hb F H ρ σ { E with nx:=u E } i ?_
 unfold zG at k
 cases e:g ρ with
 | nx b =>
  rw[e]at k
  exact λF' H' m a=>l Fb Hb F' H' b m E a k
 | rt d=>rw[e]at k;exact k
 | bk d=>rw[e]at k;exact k
 | ct d=>rw[e]at k;exact k
 | no=>rw[e]at k;exact k
theorem zH {g:SE->Ctl}(a:SD X st g):SDs X [st] g:=let ⟨_,p,r⟩:=a;⟨_,vb p,r⟩
noncomputable def sFz (i:Nat)(g:SE->Ctl):SE->Ctl:=fun ρ=>g (zly ρ i)
theorem zg0 {g:SE->Ctl}(i:Nat)(h:SDs X sts g):SDs X sts (sFz i g):=by
 obtain⟨t,p,r⟩:=h
 refine⟨_,p,λFb Hb F H ρ σ E b k=>?_⟩
 obtain⟨F',a⟩:=b.freeze i
 exact r Fb Hb F' H _ σ E a k
noncomputable def sNo:SE->Ctl:=λ_=>.no
theorem Yx:SD X st sNo:=⟨_,zav,λ_ _ _ _ _ _ _ _ h=>h.elim⟩
noncomputable def yM (f:Ev->Option D):SE->Ctl:=fun ρ=>match f (visG ρ) with
 | some d=>.rt d
 | none=>.no
theorem wf {f:Ev->Option D}(h:ED X e f):SD X (.Return (some e) pos) (yM f):=by
 obtain⟨t,p,r⟩:=h
 refine⟨_,Z6 p,λFb Hb F H ρ σ E a k=>?_⟩
 unfold yM at k
 cases h:f (visG ρ) with
 | none=>rw[h]at k;exact k.elim
 | some d =>
  rw[h]at k
  exact r σ _ _ H d _ a.gh a.visG h λF' H' v g b=>k F' H' v (a.out g) b
noncomputable def Yr:SE->Ctl:=λ_=>.rt .non
noncomputable def vEv (m:Bool)(f:Ev->Option D)(ρ:SE):Option D:=if m=true then (f (visG ρ)).bind λd=>if noL d=true then some d else none else f (visF ρ)
theorem RE.at {Fb Hb F H:Hp}{ρ:SE}{σ:St}{m:Bool}{f:Ev->Option D}{t:TE}{d:D}{Q:VK}(r:RE t f)(a:Rl Fb Hb F H ρ σ)(h:vEv m f ρ=some d)(q:∀ F' H' v,Gr F H F' H'->At F' d v->Q v H'):t σ H Q:=by
 unfold vEv at h
 cases m with
 | false =>
  rw[if_neg Bool.false_ne_true]at h
  exact r σ _ _ H d _ a.gr.fh a.visF h q
 | true =>
  rw[if_pos rfl]at h
  obtain⟨k,i,b⟩:=Option.bind_eq_some_iff.mp h
  split at b <;> cases b
  rename_i j
  refine r σ _ _ H d _ a.gh a.visG i λF' H' v g c=>?_
  obtain⟨g2,e⟩:=a.back g
  exact q _ H' v g2 (c.flat e j)
noncomputable def xw (m:Bool)(i:Nat)(f:Ev->Option D):SE->Ctl:=fun ρ=>match vEv m f ρ with
 | some d=>.nx (ρ.set i (.v d))
 | none=>.no
theorem yN {m:Bool}{i:Nat}{x:Str}{f:Ev->Option D}(c:X.N.Nodup)(n:X.N[i]?=some x)(j:Loc X.env.scope x)(o:ED X e f)(q:swapsWith e (some (.Name x pos')) pos.line X.env=pure false:=by rfl)
 (l:X.fn x=true\/X.env.scope.names.lookup x=some .local:=by first | exact .inl rfl | exact .inr rfl | assumption):SD X (.Assign [.Name x pos'] e pos) (xw m i f):=by
 obtain⟨t,p,r⟩:=o
 refine⟨_,ww c n j p q l,λFb Hb F H ρ σ E a k=>?_⟩
 unfold xw at k
 cases h:vEv m f ρ with
 | none=>rw[h]at k;exact k.elim
 | some d =>
  rw[h]at k
  exact r.at a h λF' H' v g b=>k F' H' _ ((a.grow g).set b)
noncomputable def ZG (f:Ev->Option D):SE->Ctl:=fun ρ=>match f (visG ρ) with
 | some _=>.nx ρ
 | none=>.no
theorem VY {f:Ev->Option D}(b:ED X e f)(c:swapsWith e none pos.line X.env=pure false:=by rfl):SD X (.Expr e pos) (ZG f):=by
 obtain⟨t,p,r⟩:=b
 refine⟨_,Zs p c,λFb Hb F H ρ σ E a k=>?_⟩
 unfold ZG at k
 cases h:f (visG ρ) with
 | none=>rw[h]at k;exact k.elim
 | some d =>
  rw[h]at k
  exact r σ _ _ H d _ a.gh a.visG h λF' H' v g i=>k _ H' σ (a.grow (a.back g).1)
noncomputable def Wf (i:Nat)(f:Ev->Option (List D)):SE->Ctl:=fun ρ=>match f (visF ρ) with
 | some a=>.nx (ρ.set i (.o a))
 | none=>.no
theorem zjx {i:Nat}{x:Str}{f:Ev->Option (List D)}(l:X.N.Nodup)(o:X.N[i]?=some x)(c:Loc X.env.scope x)(s:FL X e f)(u:swapsWith e (some (.Name x pos')) pos.line X.env=pure false:=by rfl)
 (n:X.fn x=true\/X.env.scope.names.lookup x=some .local:=by first | exact .inl rfl | exact .inr rfl | assumption):SD X (.Assign [.Name x pos'] e pos) (Wf i f):=by
 obtain⟨t,p,r⟩:=s
 refine⟨_,ww l o c p u n,λFb Hb F H ρ σ E a k=>?_⟩
 unfold Wf at k
 cases h:f (visF ρ) with
 | none=>rw[h]at k;exact k.elim
 | some d =>
  rw[h]at k
  refine r σ _ _ H d _ a.gr.fh a.visF h λF' H' q v g h0 j m c=>?_
  have b:=a.grow g
  exact k F' H' _ (b.setO (a.notbase h0) j m c (a.notown g h0))
noncomputable def sIf (t:Ev->Option Bool)(g h:SE->Ctl):SE->Ctl:=fun ρ=>match t (visG ρ) with
 | some true=>g ρ
 | some false=>h ρ
 | none=>.no
theorem wo {f e:List Stmt}{t:Ev->Option Bool}{g h:SE->Ctl}(l:TD X c t)(p:SDs X f g)(n:SDs X e h):SD X (.If c f e pos) (sIf t g h):=by
 obtain⟨u,q,i⟩:=l
 obtain⟨s,m,j⟩:=p
 obtain⟨v,o,r⟩:=n
 refine⟨_,zg9 q m o,λFb Hb F H ρ σ E b k=>?_⟩
 unfold sIf at k
 cases h:t (visG ρ) with
 | none=>rw[h]at k;exact k.elim
 | some d =>
  rw[h]at k
  refine i σ _ _ H d _ b.gh b.visG h λF' H' g=>?_
  have a:=b.grow (b.back g).1
  cases d with
  | true=>rw[if_pos rfl];exact j Fb Hb _ H' ρ σ E a k
  | false=>rw[if_neg Bool.false_ne_true];exact r Fb Hb _ H' ρ σ E a k
noncomputable def RG (t:TG)(b:D->SE->Option SE):Prop:=∀ (Fb Hb F H:Hp) (ρ a:SE) (σ:St) (d:D) (v:V) (Q:St->Hp->Prop),Rl Fb Hb F H ρ σ->At F d v->b d ρ=some a->(∀ c,Rl Fb Hb F H a c->Q c H)->t v σ H Q
noncomputable def RGs (t:TGs)(b:List D->SE->Option SE):Prop:=∀ (Fb Hb F H:Hp) (ρ a:SE) (σ:St) (d:List D) (c:List V) (Q:St->Hp->Prop),Rl Fb Hb F H ρ σ->AtL F d c->b d ρ=some a->(∀ e,Rl Fb Hb F H a e->Q e H)->t c σ H Q
noncomputable def BD (X:Cx)(a:Expr)(b:D->SE->Option SE):Prop:=∃ t,PG X a t/\RG t b
noncomputable def BDs (X:Cx)(a:List Expr)(b:List D->SE->Option SE):Prop:=∃ t,PGs X a t/\RGs t b
noncomputable def xr (i:Nat):D->SE->Option SE:=λd ρ=>some (ρ.set i (.v d))
theorem XG {i:Nat}(h:PG X a (ZN i)):BD X a (xr i):=by
 refine⟨_,h,λFb Hb F H ρ f σ d v Q c b e q=>?_⟩
 cases e
 exact q _ (c.set b)
noncomputable def Vr:List D->SE->Option SE
 | [],ρ=>some ρ
 | _,_=>none
noncomputable def xO (b:D->SE->Option SE)(c:List D->SE->Option SE):List D->SE->Option SE
 | d::ds,ρ=>(b d ρ).bind (c ds)
 | [],_=>none
theorem zcN:BDs X [] Vr:=by
 refine⟨_,zhv,λFb Hb F H ρ d σ c f Q b a e q=>?_⟩
 cases c with
 | nil=>cases e;exact⟨a.nil_inv,q _ b⟩
 | cons _ _=>cases e
theorem Xx {a:List Expr}{b:D->SE->Option SE}{c:List D->SE->Option SE}(w:BD X e b)(l:BDs X a c)
 (B:(assignEach (e::a) X.env).map (·.2)=assign e X.env::(assignEach a X.env).map (·.2):=by rfl):BDs X (e::a) (xO b c):=by
 obtain⟨t,p,r⟩:=w
 obtain⟨u,A,z⟩:=l
 refine⟨_,zeJ p A B,λFb Hb F H ρ s σ g C Q m j e q=>?_⟩
 cases g with
 | nil=>cases e
 | cons d g =>
  obtain⟨x,h,rfl,v,y⟩:=j.cons_inv
  obtain⟨i,o,k⟩:=Option.bind_eq_some_iff.mp e
  exact⟨x,h,rfl,r Fb Hb F H ρ i σ d x _ m v o λn f=>z Fb Hb F H i s n g h Q f y k q⟩
noncomputable def Wd (n:Nat)(c:List D->SE->Option SE):D->SE->Option SE
 | .tup ds,ρ=>if ds.length=n then c ds ρ else none
 | _,_=>none
theorem zgw {b:List Expr}{k:Nat}{n:Nat}{c:List D->SE->Option SE}(o:X.calm=true)(h:BDs X b c)
 (w:(assignEach b X.env).length=n:=by rfl) (f:(assignEach b X.env).findIdx? (·.1)=none:=by rfl):BD X (.Tuple b k pos) (Wd n c):=by
 obtain⟨t,p,r⟩:=h
 refine⟨_,zjn o p w f,λFb Hb F H ρ s σ d v Q i m e q=>?_⟩
 cases d with
 | tup l =>
  unfold Wd at e
  dsimp only at e
  split at e
  .rename_i x
   obtain⟨a,g,rfl,u,j⟩:=m.tup_inv
   exact⟨a,g,rfl,SqT.of (i.gr.fh _ _ u),by rw[j.length];exact x,r Fb Hb F H ρ s σ l g Q i j e q⟩
  .cases e
 | _=>cases e
noncomputable def zbU (m:Bool)(f:Ev->Option D)(b:D->SE->Option SE):SE->Ctl:=fun ρ=>match (vEv m f ρ).bind λd=>b d ρ with
 | some a=>.nx a
 | none=>.no
noncomputable def zbW (m:Bool)(i:Nat)(a c:Ev->Option D):SE->Ctl:=fun ρ=>match (vEv m c ρ).bind λd=>(a (visG ρ)).bind λk=>match ρ[i]?,k with
 | some (.o ds),.int k=>(ixN ds.length k).map λj=>ρ.set i (.o (ds.set j d))
 | _,_=>none with
 | some b=>.nx b
 | none=>.no
end
end Dl
namespace L2
open PySem PySem.Spec PyProof.Rows
section
variable {X:Cx}{tg:Expr}
noncomputable def iSeq (K:W.Frag)(c:TE):TI:=fun σ H R=>c σ H λx H1=>(∃ a,x=.ref a/\(∃ b,SqL K H1 a b)/\R (Itl K a) H1)\/(∃ a,x=.ref a/\(∃ b,SqT K H1 a b)/\R (Itt K a) H1)
theorem zjz {l:Expr}{k:TE}(u:PE X l k):PI X tg l (iSeq X.K k):=by
 intro d s σ H R I h
 refine thn (u d s σ H _ I h) λv c hh9=>?_
 obtain⟨x,H1,I1,j,r⟩:=hh9
 rcases r with ⟨a,e,⟨t,g⟩,q⟩ | ⟨a,e,⟨t,g⟩,q⟩
 .subst e
  cases j
  obtain⟨f,n,p,m⟩:=I1.list g
  refine wpAny_pyIter_list p.isList ?_
  refine⟨c.heap.objs.size,[c.heap.objs.size],_,_,H1,rfl,I1.kept (t':=c.toks) λb o e=>Heap.get?_push_of_some _ e,zen a _,⟨_,Heap.get?_push_size _ rfl,rfl,rfl⟩,λb i=>?_,q⟩
  have e:b=c.heap.objs.size:=by simpa using i
  subst e
  exact I1.fpOk (Nat.le_refl _) (I1.hok.fresh (Nat.le_refl _))
 .subst e
  cases j
  obtain⟨f,n,p,m⟩:=I1.tuple g
  refine wpAny_pyIter_tuple (show c.heap.IsTuple a f.toArray from p) ?_
  refine⟨c.heap.objs.size,[c.heap.objs.size],_,_,H1,rfl,I1.kept (t':=c.toks) λb o e=>Heap.get?_push_of_some _ e,zbl a _,⟨_,Heap.get?_push_size _ rfl,rfl,rfl⟩,λb i=>?_,q⟩
  have e:b=c.heap.objs.size:=by simpa using i
  subst e
  exact I1.fpOk (Nat.le_refl _) (I1.hok.fresh (Nat.le_refl _))
end
end L2
namespace Dl
open PySem L2
variable [KK]
noncomputable def zkr (J:It)(F:Hp)(a:List D):Prop:=∀ (i:Nat) (F2 H2:Hp),zD F F2->zD F2 H2->(i=a.length->J.stop i H2) /\
 ∀ d,a[i]?=some d->J.go i H2/\∀ x H3,J.yld i H2 x H3->∃ F3,Gr F2 H2 F3 H3/\At F3 d x
noncomputable def RI (b:TI)(f:Ev->Option (List D)):Prop :=
 ∀ (σ:St) (ρ:Ev) (F H:Hp) (a:List D) (R:It->Hp->Prop),zD F H->VAt F ρ σ->f ρ=some a->(∀ F' H' J,Gr F H F' H'->zkr J F' a->R J H')->b σ H R
noncomputable def ID (X:Cx)(c a:Expr)(f:Ev->Option (List D)):Prop:=∃ b,PI X c a b/\RI b f
noncomputable def xE:D->Option (List D)
 | .lst a=>some a
 | .tup a=>some a
 | _=>none
section
variable {X:Cx}{tg a b c e:Expr}{pos:Pos}
theorem zkp {K:W.Frag}{F:Hp}{p:Addr}{a:List V}{f:List D}(h:F p=some (.lst a))(j:AtL F f a):zkr (Itl K p) F f:=by
 intro i F2 H2 e c
 have q:SqL K H2 p a:=SqL.of (c _ _ (e _ _ h))
 refine⟨λm=>⟨a,q,by rw[j.length,m];exact Nat.le_refl _⟩,λd k=>?_⟩
 obtain⟨x,g,l⟩:=j.get k
 refine⟨⟨a,x,q,g⟩,λy H3 b=>?_⟩
 obtain⟨rfl,b⟩:=b
 have:=b a q
 rw[g]at this
 cases this
 exact⟨F2,.refl c,l.mono e⟩
theorem zlb {K:W.Frag}{F:Hp}{p:Addr}{a:List V}{f:List D}(h:F p=some (.tup a))(j:AtL F f a):zkr (Itt K p) F f:=by
 intro i F2 H2 e c
 have q:SqT K H2 p a:=SqT.of (c _ _ (e _ _ h))
 refine⟨λm=>⟨a,q,by rw[j.length,m];exact Nat.le_refl _⟩,λd k=>?_⟩
 obtain⟨x,g,l⟩:=j.get k
 refine⟨⟨a,x,q,g⟩,λy H3 b=>?_⟩
 obtain⟨rfl,b⟩:=b
 have:=b a q
 rw[g]at this
 cases this
 exact⟨F2,.refl c,l.mono e⟩
noncomputable def iOf (f:Ev->Option D):Ev->Option (List D):=fun ρ=>(f ρ).bind xE
theorem Zu {f:Ev->Option D}(k:ED X a f):ID X tg a (iOf f):=by
 obtain⟨t,p,r⟩:=k
 refine⟨_,zjz p,fun σ ρ F H n R s m e q=>?_⟩
 obtain⟨d,j,l⟩:=Option.bind_eq_some_iff.mp e
 refine r σ ρ F H d _ s m j λF1 H1 v c i=>?_
 cases d <;> try cases l
 .obtain⟨p,h,rfl,b,g⟩:=i.tup_inv
  exact .inr ⟨p,rfl,⟨h,SqT.of (c.fh _ _ b)⟩,q F1 H1 _ c (zlb b g)⟩
 .obtain⟨p,h,rfl,b,g⟩:=i.lst_inv
  exact .inl ⟨p,rfl,⟨h,SqL.of (c.fh _ _ b)⟩,q F1 H1 _ c (zkp b g)⟩
noncomputable def Ze (a:Int)(n:Nat):List D:=(List.range n).map λk:Nat=>.int (a+k)
theorem zcM {F:Hp}(c:Int)(n:Nat):zkr (Itr c n) F (Ze c n):=by
 intro i F2 H2 j g
 have a:(Ze c n).length=n:=by unfold Ze;simp
 refine⟨λf=>by rw[a]at f;rw[f];exact Nat.le_refl _,λd b=>?_⟩
 have e:i < n:=by
  have:=(List.getElem?_eq_some_iff.mp b).1
  omega
 refine⟨e,λy H3 h=>?_⟩
 obtain⟨rfl,rfl⟩:=h
 refine⟨F2,.refl g,?_⟩
 unfold Ze at b
 rw[List.getElem?_map,List.getElem?_range e]at b
 cases b
 exact .int
@[irreducible] noncomputable def zeC (j:Int):Bool:=decide (-(2 ^ 62)<=j/\j < 2 ^ 62)
omit [KK] in
theorem z4 {j:Int}:zeC j=true↔-(2 ^ 62)<=j/\j < 2 ^ 62:=by unfold zeC;exact decide_eq_true_iff
noncomputable def We:List D->Option (List D)
 | [.int j]=>if zeC j=true then some (Ze 0 j.toNat)else none
 | _=>none
noncomputable def Yc:List D->Option (List D)
 | [.int i,.int j]=>if zeC i=true/\zeC j=true then some (Ze i (j - i).toNat)else none
 | _=>none
noncomputable def Vs (g:List D->Option (List D))(f:Ev->Option (List D)):Ev->Option (List D):=fun ρ=>(f ρ).bind g
theorem zdV {p:Pos} {f:Ev->Option (List D)} (A:Gl X "range") (B:X.mg "range"=none) (z:AD X [a,b] f) (C:starEach [a,b] X.env=[(false,eval a X.env),(false,eval b X.env)]:=by rfl) (h:starEach [b] X.env=[(false,eval b X.env)]:=by rfl) :
 ID X tg (.Call (.Name "range" p) [a,b] [] pos) (Vs Yc f):=by
 obtain⟨t,l,r⟩:=z
 refine⟨_,WG A B l C h,fun σ ρ F H E R s n e q=>?_⟩
 obtain⟨d,o,c⟩:=Option.bind_eq_some_iff.mp e
 refine r σ ρ F H d _ s n o λF1 H1 v m u=>?_
 unfold Yc at c
 split at c
 .split at c
  .cases c
   rename_i g
   obtain⟨x,w,rfl,j,i⟩:=u.cons_inv
   obtain⟨y,w,rfl,k,i⟩:=i.cons_inv
   cases i.nil_inv
   exact⟨_,_,by rw[j.int_inv,k.int_inv],⟨(z4.mp g.1).1,(z4.mp g.1).2,(z4.mp g.2).1,(z4.mp g.2).2⟩,q F1 H1 _ m (zcM _ _)⟩
  .cases c
 .cases c
noncomputable def YK (n:Nat):List D->List D
 | []=>[]
 | d::ds=>.tup [.int n,d]::YK (n+1) ds
omit [KK] in
theorem wI (a:List D):∀ (n i:Nat),(YK n a)[i]?=(a[i]?).map λd=>.tup [.int ((n+i:Nat):Int),d]:=by
 induction a with
 | nil=>intro n i;simp[YK]
 | cons d a b =>
  intro n i
  cases i with
  | zero=>simp[YK]
  | succ i =>
   show(YK (n+1) a)[i]?=(a[i]?).map _
   rw[b]
   have:n+1+i=n+(i+1):=by omega
   rw[this]
omit [KK] in
theorem xH (a:List D):∀ n,(YK n a).length=a.length:=by
 induction a with
 | nil=>intro n;rfl
 | cons d a b=>intro n;simp[YK,b]
noncomputable def xo (f:Ev->Option (List D)):Ev->Option (List D):=fun ρ=>(f ρ).bind λa=>match a with
 | [d]=>(xE d).map (YK 0)
 | _=>none
theorem ziC {G:List Expr} {k:Nat} {I p:Pos} {f:Ev->Option (List D)} (V:Gl X "enumerate") (W:X.mg "enumerate"=none) (L:bootBuiltins "enumerate"=some (.type "enumerate")) (U:AD X [a] f)
 (Y:starEach [a] X.env=[(false,eval a X.env)]:=by rfl):ID X (.Tuple G k I) (.Call (.Name "enumerate" p) [a] [] pos) (xo f):=by
 obtain⟨t,K,r⟩:=U
 refine⟨_,zhc V W L K Y,fun σ ρ F H Z R s N e q=>?_⟩
 obtain⟨Q,O,B⟩:=Option.bind_eq_some_iff.mp e
 refine r σ ρ F H Q _ s N O λF1 H1 v A S=>?_
 split at B
 .obtain⟨x,r',rfl,l,J⟩:=S.cons_inv
  cases J.nil_inv
  obtain⟨G,M,rfl⟩:=Option.map_eq_some_iff.mp B
  rename_i d
  cases d <;> try cases M
  .obtain⟨p,c,rfl,w,z⟩:=l.tup_inv
   refine⟨p,rfl,.inr ⟨c,SqT.of (A.fh _ _ w),q F1 H1 _ A λi F2 H2 n m=>?_⟩⟩
   have h:SqT X.K H2 p c:=SqT.of (m _ _ (n _ _ w))
   refine⟨λE=>⟨c,h,by rw[z.length,E,xH];exact Nat.le_refl _⟩,λd u=>?_⟩
   rw[wI]at u
   obtain⟨P,j,rfl⟩:=Option.map_eq_some_iff.mp u
   obtain⟨x,b,l⟩:=z.get j
   refine⟨⟨c,x,h,b⟩,λy H3 g=>?_⟩
   obtain⟨T,y,rfl,C,rfl,g⟩:=g
   have:=g c h
   rw[b]at this
   cases this
   have o:=Gr.alloc m C (.tup [.int i,x])
   exact⟨_,o,.tup zf (.cons (by rw[Nat.zero_add];exact .int) (.cons (l.mono (n.trans o.ff)) .nil))⟩
  .obtain⟨p,c,rfl,w,z⟩:=l.lst_inv
   refine⟨p,rfl,.inl ⟨c,A.fh _ _ w,q F1 H1 _ A λi F2 H2 n m=>?_⟩⟩
   have h:SqL X.K H2 p c:=SqL.of (m _ _ (n _ _ w))
   refine⟨λE=>⟨c,h,by rw[z.length,E,xH];exact Nat.le_refl _⟩,λd u=>?_⟩
   rw[wI]at u
   obtain⟨P,j,rfl⟩:=Option.map_eq_some_iff.mp u
   obtain⟨x,b,l⟩:=z.get j
   refine⟨⟨c,x,h,b⟩,λy H3 g=>?_⟩
   obtain⟨T,y,rfl,C,rfl,g⟩:=g
   have:=g c h
   rw[b]at this
   cases this
   have o:=Gr.alloc m C (.tup [.int i,x])
   exact⟨_,o,.tup zf (.cons (by rw[Nat.zero_add];exact .int) (.cons (l.mono (n.trans o.ff)) .nil))⟩
 .cases B
noncomputable def hb2 (F1 Hb:Hp):Hp:=λp=>match F1 p with
 | some o=>some o
 | none=>Hb p
theorem vu {F1 Hb:Hp}{p:Addr}(h:F1 p=none):hb2 F1 Hb p=Hb p:=by unfold hb2;rw[h]
theorem zfU {F1 Hb:Hp}{p:Addr}{o:HO}(h:F1 p=some o):hb2 F1 Hb p=some o:=by unfold hb2;rw[h]
theorem Gr.up {Fb Hb F1 H1 F H:Hp}(c:Gr Fb Hb F1 H1)(g:Gr F1 (hb2 F1 Hb) F H):Gr Fb Hb F H:=by
 refine⟨c.ff.trans g.ff,g.fh,λp o d a=>?_⟩
 rcases(c.kp p o d a).1 with n | ⟨e,b⟩
 .exact g.kp p o n (by rw[vu n];exact a)
 .exact⟨.inr ⟨e,g.ff _ _ b⟩,g.fh _ _ (g.ff _ _ b)⟩
theorem Gr.dn {Fb Hb F1 F H:Hp}(g:Gr Fb Hb F H)(c:zD Fb F1)(s:zD F1 F):Gr F1 (hb2 F1 Hb) F H:=by
 refine⟨s,g.fh,λp o a b=>?_⟩
 rw[vu a]at b
 exact g.kp p o (c.free a) b
theorem Rl.up {Fb Hb F1 H1 F H:Hp}{ρ:SE}{σ:St}(j:Gr Fb Hb F1 H1)(r:Rl F1 (hb2 F1 Hb) F H ρ σ):Rl Fb Hb F H ρ σ:=by
 have b:∀ {p:Addr},hb2 F1 Hb p=none->Hb p=none:=λ{p} e=>by
  cases h:F1 p with
  | none=>rw[vu h]at e;exact e
  | some o=>rw[zfU h]at e;cases e
 refine⟨j.up r.gr,r.vals,λi s e g=>?_,r.dis,r.len,r.dk.step (λ_ _ _ _ e=>⟨e,rfl⟩) (zD.refl _) λi w h x p t q n v u d c a f l k m=>⟨a,b f,l,k,m⟩⟩
 obtain⟨p,o,d,c,a⟩:=r.ows i s e g
 exact⟨p,o,d,b c,a⟩
theorem Rl.dn {Fb Hb F1 F H:Hp}{ρ:SE}{σ:St}(r:Rl Fb Hb F H ρ σ)(g:zD Fb F1)(s:zD F1 F):Rl F1 (hb2 F1 Hb) F H ρ σ:=by
 refine⟨r.gr.dn g s,r.vals,λi t e j=>?_,r.dis,r.len,r.dk.step (λ_ _ _ _ e=>⟨e,rfl⟩) (zD.refl _) λi w h x p n q m v u d c a b f k l=>⟨a,by rw[vu (s.free f)];exact b,f,k,l⟩⟩
 obtain⟨p,o,d,c,a,b⟩:=r.ows i t e j
 refine⟨p,o,d,?_,a,b⟩
 rw[vu (s.free a)]
 exact c
noncomputable def zdF (b:D->SE->Option SE)(g:SE->Ctl):List D->SE->Ctl
 | [],ρ=>.nx ρ
 | d::ds,ρ=>match b d ρ with
  | none=>.no
  | some c=>match g c with
   | .nx a=>zdF b g ds a
   | .ct a=>zdF b g ds a
   | .bk a=>.nx a
   | .rt d=>.rt d
   | .no=>.no
noncomputable def ZD (f:Ev->Option (List D))(b:D->SE->Option SE)(g:SE->Ctl):SE->Ctl:=fun ρ=>match f (visF ρ) with
 | some a=>zdF b g a ρ
 | none=>.no
theorem zeo {Fb Hb F1 H1:Hp}{ρ:SE}{σ:St}{E:Wg}{J:It}{g:TG}{B:TS}{a:List D}{b:D->SE->Option SE}{j:SE->Ctl}(p:zkr J F1 a)(M:RG g b)(T:RS B j)(c:Rl Fb Hb F1 H1 ρ σ)(k:SOk Fb Hb E (zdF b j a ρ)) :
 ∃ W:Nat->Nat->St->Hp->Prop,(∃ m,W 0 m σ H1)/\∀ i m σ H,W i m σ H ->
  (J.stop i H/\E.nx σ H)\/(J.go i H/\∃ N:St->Hp->Prop,(∀ r H',N r H'->∃ G,G < m/\W (i+1) G r H')/\∀ x H',J.yld i H x H'->g x σ H' λu H2=>B { E with nx:=N,ct:=N,bk:=E.nx } u H2):=by
 refine⟨λi m σ H=>m=a.length - i/\i<=a.length/\∃ F ρ,zD F1 F/\Rl Fb Hb F H ρ σ/\SOk Fb Hb E (zdF b j (a.drop i) ρ),⟨a.length,by simp,Nat.zero_le _,F1,ρ,zD.refl _,c,k⟩,?_⟩
 rintro i m σ H ⟨rfl,U,F,ρ,A,z,k⟩
 obtain⟨l,R⟩:=p i F H A z.gr.fh
 by_cases h:i < a.length
 .have Q:a.drop i=a[i]::a.drop (i+1):=List.drop_eq_getElem_cons h
  rw[Q]at k
  unfold zdF at k
  obtain⟨K,g2⟩:=R a[i] (by simp[h])
  refine .inr ⟨K,fun σ H=>∃ F ρ,zD F1 F/\Rl Fb Hb F H ρ σ/\SOk Fb Hb E (zdF b j (a.drop (i+1)) ρ),λr H' w=>⟨a.length - (i+1),by omega,rfl,h,w⟩,λx H' O=>?_⟩
  obtain⟨F3,C,P⟩:=g2 x H' O
  cases q:b a[i] ρ with
  | none=>rw[q]at k;exact k.elim
  | some t =>
   rw[q]at k
   dsimp only at k
   refine M Fb Hb F3 H' ρ t σ _ x _ (z.grow C) P q λu y=>?_
   have L:=A.trans C.ff
   refine T F1 (hb2 F1 Hb) F3 H' t u _ (y.dn c.gr.ff L) ?_
   cases n:j t with
   | nx o=>rw[n]at k;exact λF4 H4 s f=>⟨F4,o,f.gr.ff,f.up c.gr,k⟩
   | ct o=>rw[n]at k;exact λF4 H4 s f=>⟨F4,o,f.gr.ff,f.up c.gr,k⟩
   | bk o=>rw[n]at k;exact λF4 H4 s f=>k F4 H4 s (f.up c.gr)
   | rt d=>rw[n]at k;exact λF4 H4 v S I=>k F4 H4 v (c.gr.up S) I
   | no=>rw[n]at k;exact k.elim
 .have e:i=a.length:=by omega
  subst e
  rw[List.drop_length]at k
  exact .inl ⟨l rfl,k F H σ z⟩
theorem zd8 {a:Expr}{c:List Stmt}{f:Ev->Option (List D)}{b:D->SE->Option SE}{g:SE->Ctl}(w:PassesOwn (model X.prog X.w) X.A X.env X.xe)(l:X.calm=true)(s:ID X tg a f)(t:BD X tg b)(m:SDs X c g)
 (v:∀ x,foldedSetIterable a X.env x=pure x:=by intro _;rfl):SD X (.For tg a c [] pos) (ZD f b g):=by
 obtain⟨y,q,r⟩:=s
 obtain⟨i,j,p⟩:=t
 obtain⟨z,o,u⟩:=m
 refine⟨_,zc1 w l q j o v,λFb Hb F H ρ σ E d k=>?_⟩
 unfold ZD at k
 cases h:f (visF ρ) with
 | none=>rw[h]at k;exact k.elim
 | some e =>
  rw[h]at k
  exact r σ _ _ H e _ d.gr.fh d.visF h λF1 H1 J n ok=>zeo ok p u (d.grow n) k
end
noncomputable def lcD (b:D->Option (List (Option D)))(t:Ev->Option Bool)(f:Ev->Option D)(ρ:Ev):List D->Option (List D)
 | []=>some []
 | d::ds=>(b d).bind λown=>(t (own++ρ)).bind λc=>if c=true then (f (own++ρ)).bind λy=>(lcD b t f ρ ds).map (y::·)else lcD b t f ρ ds
noncomputable def fLC (i:Ev->Option (List D))(b:D->Option (List (Option D)))(t:Ev->Option Bool)(f:Ev->Option D):Ev->Option (List D):=fun ρ=>(i ρ).bind λa=>if lim a.length=true then lcD b t f ρ a else none
noncomputable def b1:D->Option (List (Option D)):=λd=>some [some d]
noncomputable def b2:D->Option (List (Option D))
 | .tup [x,y]=>some [some x,some y]
 | _=>none
noncomputable def RB (n:Nat)(t:TG)(b:D->Option (List (Option D))):Prop:=∀ (σ:St) (ρ:Ev) (F H:Hp) (d:D) (v:V) (own:List (Option D)) (Q:St->Hp->Prop),zD F H->VAt F ρ σ->At F d v->b d=some own->(∀ a,VAt F (own++ρ) a->Q a H)->t v (List.replicate n none++σ) H Q
noncomputable def yB:Ev->Option Bool:=λ_=>some true
theorem zgq:RT tYes yB:=λ_ _ _ _ _ _ s _ e q=>by cases e;exact q _ _ (.refl s)
theorem zhC {wi:TI}{n:Nat}{g:TG}{tt:TT}{te:TE}{fi:Ev->Option (List D)}{b:D->Option (List (Option D))}{ft:Ev->Option Bool}{V:Ev->Option D}(ri:RI wi fi)(rg:RB n g b)(rt:RT tt ft)(re:RE te V) :
 RF (tLC wi n g tt te) (fLC fi b ft V):=by
 intro σ ρ F H S Q s va e q
 obtain⟨a,e1,K⟩:=Option.bind_eq_some_iff.mp e
 split at K <;> try cases K
 rename_i A
 have A:a.length<=sizeLine:=of_decide_eq_true A
 refine ri σ ρ F H a _ s va e1 λF1 H1 J w ok=>?_
 intro P G
 have R:F1 P=none:=w.fh.free G
 have W:H P=none:=by
  cases e:H P with
  | none=>rfl
  | some o =>
   cases K:F P with
   | none=>rw[(w.kp P o K e).2]at G;cases G
   | some u=>rw[w.fh _ _ (w.ff _ _ K)]at G;cases G
 refine⟨λi m L H2=>m=a.length - i/\i<=a.length/\∃ F2 done,Gr F1 H1 F2 H2/\Gr F1 (upd H1 P (.lst [])) F2 (upd H2 P (.lst []))/\F2 P=none/\H2 P=some (.lst L)/\AtL F2 done L/\done.length<=i/\∃ c,lcD b ft V ρ (a.drop i)=some c/\done++c=S,⟨a.length,by simp,Nat.zero_le _,F1,[],Gr.hide w.fh G _,?_,R,zf,.nil,Nat.zero_le _,S,K,rfl⟩,?_⟩
 .rw[zdi]
  exact .refl λb u z=>by rw[ze (zd z R)];exact w.fh b u z
 rintro i m L H2 ⟨rfl,hi,F2,done,g2,a1,C,E,T,a0,c,f,d⟩
 obtain⟨O,go⟩:=ok i F2 H2 g2.ff g2.fh
 by_cases r:i < a.length
 .have hd:a.drop i=a[i]::a.drop (i+1):=List.drop_eq_getElem_cons r
  rw[hd]at f
  unfold lcD at f
  obtain⟨own,hb,f⟩:=Option.bind_eq_some_iff.mp f
  obtain⟨cb,hc,f⟩:=Option.bind_eq_some_iff.mp f
  obtain⟨k1,k2⟩:=go a[i] (by simp[r])
  refine .inr ⟨k1,by rw[T.length];omega,λx H3 Y=>?_⟩
  obtain⟨F3,U,a3⟩:=k2 x H3 Y
  refine rg σ ρ F3 H3 a[i] x own _ U.fh (va.mono (w.ff.trans (g2.ff.trans U.ff))) a3 hb fun σ4 N=>?_
  refine rt σ4 _ F3 H3 cb _ U.fh N hc λF5 H5 g5=>?_
  have k:=U.trans g5
  obtain⟨n5,h5⟩:=k.kl (λ_ e=>by cases e) C E
  have j:∀ {F6 H6:Hp} {o:HO},Gr F2 H2 F6 H6->F6 P=none->Gr F1 (upd H1 P (.lst [])) F6 (upd (upd H6 P o) P (.lst [])):=λ{F6 H6 o} p B=>by
   rw[zdi]
   refine⟨g2.ff.trans p.ff,λb u z=>?_,λb u Z I=>?_⟩
   .rw[ze (zd z B)];exact p.fh b u z
   .by_cases l:b=P
    .subst l
     rw[zf]at I ⊢
     exact⟨.inl B,I⟩
    .rw[ze l]at I ⊢
     exact(g2.trans p).kp b u Z I
  have h:∀ {F6 H6:Hp} {o:HO},Gr F2 H2 F6 H6->F6 P=none->Gr F1 H1 F6 (upd H6 P o):=λ{F6 H6 o} p B=>by
   refine⟨g2.ff.trans p.ff,λb u z=>?_,λb u Z I=>?_⟩
   .rw[ze (zd z B)];exact p.fh b u z
   .rw[ze (zd I G)]
    exact(g2.trans p).kp b u Z I
  cases cb with
  | false =>
   rw[if_neg Bool.false_ne_true]at f ⊢
   have M:H5=upd H5 P (.lst L):=by
    funext b
    by_cases l:b=P
    .subst l;rw[zf];exact h5
    .rw[ze l]
   refine⟨a.length - (i+1),by omega,rfl,r,F5,done,?_,?_,n5,h5,T.mono k.ff,by omega,c,f,d⟩
   .rw[M];exact h k n5
   .have:=j (o:=.lst L) k n5
    rw[<-M]at this
    exact this
  | true =>
   rw[if_pos rfl]at f ⊢
   obtain⟨y,Y,f⟩:=Option.bind_eq_some_iff.mp f
   obtain⟨rest,X,rfl⟩:=Option.map_eq_some_iff.mp f
   refine re σ4 _ F5 H5 y _ g5.fh (N.mono g5.ff) Y λF6 H6 v p a6=>?_
   have t:=k.trans p
   obtain⟨B,h6⟩:=t.kl (λ_ e=>by cases e) C E
   refine⟨h6,a.length - (i+1),by omega,rfl,r,F6,done++[y],h t B,j t B,B,zf,(T.mono t.ff).snoc a6,by rw[List.length_append];simp;omega,rest,X,by rw[<-d,List.append_assoc];rfl⟩
 .have e:i=a.length:=by omega
  subst e
  rw[List.drop_length]at f
  cases f
  rw[List.append_nil]at d
  subst d
  exact .inl ⟨O rfl,q F2 H2 P L (w.trans g2) W C E T⟩
theorem rb1:RB 1 (ZN 0) b1:=by
 intro σ ρ F H d v own Q s c b e q
 cases e
 refine q _ λi a h=>?_
 cases i with
 | zero=>cases h;exact⟨v,rfl,b⟩
 | succ i=>exact c i a h
noncomputable def tCan (f:Ev->Option D):TE:=fun σ H Q=>∃ ρ F d,zD F H/\VAt F ρ σ/\f ρ=some d/\∀ F' H' v,Gr F H F' H'->At F' d v->Q v H'
noncomputable def zjZ (f:Ev->Option Bool):TT:=fun σ H Q=>∃ ρ F d,zD F H/\VAt F ρ σ/\f ρ=some d/\∀ F' H',Gr F H F' H'->Q d H'
theorem ED.can {X:Cx}{e:Expr}{f:Ev->Option D}(h:ED X e f):PE X e (tCan f):=by
 obtain⟨t,p,r⟩:=h
 rintro a s σ H Q I ⟨ρ,F,d,b,g,c,i⟩
 exact p a s σ H Q I (r σ ρ F H d Q b g c i)
theorem TD.can {X:Cx}{e:Expr}{f:Ev->Option Bool}(h:TD X e f):PT X e (zjZ f):=by
 obtain⟨t,p,r⟩:=h
 rintro a s σ H Q I ⟨ρ,F,d,b,g,c,i⟩
 exact p a s σ H Q I (r σ ρ F H d Q b g c i)
theorem zb2 {f:Ev->Option D}:RE (tCan f) f:=λ_ ρ F _ d _ e b a c=>⟨ρ,F,d,e,b,a,c⟩
theorem zko {f:Ev->Option Bool}:RT (zjZ f) f:=λ_ ρ F _ d _ e b a c=>⟨ρ,F,d,e,b,a,c⟩
theorem zcu {X:Cx}{d h c:Expr}{L M:List Str}{a:Scope}{i:List (Str × Addr)}{j:Pos}{m:Ev->Option (List D)}{b:D->Option (List (Option D))}{k:Ev->Option D}{g:TG}
 (p:X.calm=true) (S:yS X L M a i) (q:ID X h c m)
 (f:∀ (σ:St) (v:V) (H:Hp) (Q:St->Hp->Prop),g v (List.replicate L.length none++σ) H Q->g v (List.replicate L.length none++σ) H (λl H2=>v2 (List.replicate L.length none++σ) l/\Q l H2))
 (e:RB L.length g b)
 (r:∀ s₀ H₀ ex pn,PG (YD X L M a i s₀ H₀ ex pn) h g) (s:∀ s₀ H₀ ex pn,ED (YD X L M a i s₀ H₀ ex pn) d k)
 (t:∀ x,foldedSetIterable c X.env x=pure x:=by intro _;rfl):FL X (.ListComp d [⟨h,c,[],0⟩] a j) (fLC m b yB k):=by
 obtain⟨u,n,o⟩:=q
 exact⟨_,zgp p S n f r (λ_ _ _ _=>zc2) (λ_ _ _ _=>(s _ _ _ _).can) t,zhC o e zgq zb2⟩
theorem zkX {X:Cx}{e k d c:Expr}{L M:List Str}{a:Scope}{f:List (Str × Addr)}{i:Pos}{o:Ev->Option (List D)}{b:D->Option (List (Option D))}{n:Ev->Option Bool}{l:Ev->Option D}{g:TG}
 (p:X.calm=true) (S:yS X L M a f) (t:ID X k d o)
 (j:∀ (σ:St) (v:V) (H:Hp) (Q:St->Hp->Prop),g v (List.replicate L.length none++σ) H Q->g v (List.replicate L.length none++σ) H (λm H2=>v2 (List.replicate L.length none++σ) m/\Q m H2))
 (h:RB L.length g b)
 (u:∀ s₀ H₀ ex pn,PG (YD X L M a f s₀ H₀ ex pn) k g) (q:∀ s₀ H₀ ex pn,TD (YD X L M a f s₀ H₀ ex pn) c n) (w:∀ s₀ H₀ ex pn,ED (YD X L M a f s₀ H₀ ex pn) e l)
 (y:∀ x,foldedSetIterable d X.env x=pure x:=by intro _;rfl):FL X (.ListComp e [⟨k,d,[c],0⟩] a i) (fLC o b n l):=by
 obtain⟨z,r,s⟩:=t
 exact⟨_,zgp p S r j u (λ_ _ _ _=>zh0 (q _ _ _ _).can) (λ_ _ _ _=>(w _ _ _ _).can) y,zhC s h zko zb2⟩
theorem zkq {t:TE}{f:Ev->Option (List D)}(r:RF t f):RE t (yy f):=by
 intro σ ρ F H d Q s k e q
 obtain⟨i,c,rfl⟩:=Option.map_eq_some_iff.mp e
 refine r σ ρ F H i Q s k c λF' H' p l g h0 a j h=>?_
 have g2:=g.show h0 a j
 exact q _ _ _ g2 (At.lst zf (h.mono (λb u e=>by rw[ze (zd e a)];exact e)))
noncomputable def FLS (X:Cx)(i:Nat)(a:Stmt)(f:Ev->Option (List D)):Prop:=∃ t,PS X a (zk2 t (ZN i))/\RF t f
theorem zap {m:Bool}{i:Nat}{a:Stmt}{f:Ev->Option (List D)}(e:FLS X i a f):SD X a (xw m i (yy f)):=by
 obtain⟨t,p,r⟩:=e
 refine⟨_,p,λFb Hb F H ρ σ E b k=>?_⟩
 unfold xw at k
 cases h:vEv m (yy f) ρ with
 | none=>rw[h]at k;exact k.elim
 | some d =>
  rw[h]at k
  exact(zkq r).at b h λF' H' v g c=>k F' H' _ ((b.grow g).set c)
theorem V7 {i:Nat}{x:Str}{p d:Pos}{X:Cx}{e h c:Expr}{L M:List Str}{a:Scope}{l:List (Str × Addr)}{f:Pos}{r:Ev->Option (List D)}{b:D->Option (List (Option D))}{o:Ev->Option D}{g:TG}
 (t:X.N.Nodup) (k:X.N[i]?=some x) (y:Loc X.env.scope x) (s:X.calm=true) (S:yS X L M a l) (B:ID X h c r)
 (n:∀ (σ:St) (v:V) (H:Hp) (Q:St->Hp->Prop),g v (List.replicate L.length none++σ) H Q->g v (List.replicate L.length none++σ) H (λq H2=>v2 (List.replicate L.length none++σ) q/\Q q H2))
 (j:RB L.length g b)
 (C:∀ s₀ H₀ ex pn,PG (YD X L M a l s₀ H₀ ex pn) h g) (E:∀ s₀ H₀ ex pn,ED (YD X L M a l s₀ H₀ ex pn) e o)
 (A:∀ x,foldedSetIterable c X.env x=pure x:=by intro _;rfl)
 (m:swapsWith (.ListComp e [⟨h,c,[],0⟩] a f) (some (.Name x p)) d.line X.env=pure true:=by rfl)
 (z:X.fn x=true\/X.env.scope.names.lookup x=some .local:=by first | exact .inl rfl | exact .inr rfl | assumption):FLS X i (.Assign [.Name x p] (.ListComp e [⟨h,c,[],0⟩] a f) d) (fLC r b yB o):=by
 obtain⟨F,u,w⟩:=B
 exact⟨_,zjP t k y s S u n C (λ_ _ _ _=>zc2) (λ_ _ _ _=>(E _ _ _ _).can) A m z,zhC w j zgq zb2⟩
noncomputable def fnD (n:Nat)(g:SE->Ctl)(a:List D):Option D:=match g (a.map .v++List.replicate (n - a.length) .no) with
 | .rt d=>some d
 | .nx _=>some .non
 | _=>none
noncomputable def spD (m:Nat)(p:List D->Option D):Sp:=λb H Q _=>∃ a d F,a.length=m/\zD F H/\AtL F a b/\p a=some d/\∀ F' H' v,Gr F H F' H'->At F' d v->Q v H'
theorem Xt {F H:Hp}{N:List Str}{b:List D}{k:List V}(s:zD F H)(a:AtL F b k):Rl F H F H (b.map .v++List.replicate (N.length - b.length) .no) (L2.start N k):=by
 have l:=a.length
 have c:∀ (i:Nat) (t:Sl),(b.map Sl.v++List.replicate (N.length - b.length) Sl.no)[i]?=some t->t.isO=true->False:=λi t h f=>by
  by_cases g:i < b.length
  .rw[List.getElem?_append_left (by simpa using g),List.getElem?_map]at h
   cases e:b[i]? with
   | none=>rw[e]at h;cases h
   | some d=>rw[e]at h;cases h;cases f
  .rw[List.getElem?_append_right (by simpa using g),List.getElem?_replicate]at h
   split at h <;> cases h
   cases f
 refine⟨.refl s,λi d h=>?_,λi t h f=>(c i t h f).elim,λi j p t u h _ f=>(c i t h f).elim,?_,λi w h q e=>(c i _ e rfl).elim⟩
 .by_cases g:i < b.length
  .rw[List.getElem?_append_left (by simpa using g),List.getElem?_map]at h
   cases e:b[i]? with
   | none=>rw[e]at h;cases h
   | some o =>
    rw[e]at h
    cases h
    obtain⟨x,n,m⟩:=a.get e
    refine⟨x,?_,m⟩
    unfold L2.start
    rw[List.getElem?_append_left (by simpa [l]using g),List.getElem?_map,n]
    rfl
  .rw[List.getElem?_append_right (by simpa using g),List.getElem?_replicate]at h
   split at h <;> cases h
 .unfold L2.start
  simp[l]
theorem Xk {P:Program}{w:World}{K:W.Frag}{n:Str->Option Value}{i:Heap}{x b:Str}{j:Stmt}{f:Addr}{u:FuncData}{N ps:List Str}{k:Nat}{g:SE->Ctl}(Fu:Fun K x b j f u)(S:yf N ps (zg j))
 (C:∀ (c:Value) (A:Around) (outer:List Env) (s:Shared) (H:Hp) (E:XK),yL k (A.deeper (PyProof.Rows.envOfC b (zg j) s.heap.objs.size f c))->SDs (vR CX0 P w K n i N b (zg j) f c A outer s H E).nox (zU j) g) :
 xA P w K n i CX0 (k+1) f u ps (spD ps.length (fnD N.length g)):=by
 refine Fu.ok S (λB H Q E h=>?_) λc A outer s H B Q E y h=>?_
 .obtain⟨m,d,F,o,_,a,_⟩:=h
  rw[a.length];exact o
 .obtain⟨m,d,F,o,G,a,e,q⟩:=h
  obtain⟨t,p,r⟩:=C c A outer s H E y
  refine⟨t,p,r F H F H _ _ _ (Xt G a) ?_⟩
  unfold fnD at e
  cases l:g (m.map .v++List.replicate (N.length - m.length) .no) with
  | rt I=>rw[l]at e;cases e;exact λF' H' v g z=>q F' H' v g z
  | nx ρ=>rw[l]at e;cases e;exact λF' H' σ D=>q F' H' _ D.gr .non
  | bk ρ=>rw[l]at e;cases e
  | ct ρ=>rw[l]at e;cases e
  | no=>rw[l]at e;cases e
theorem xx {P:Program}{w:World}{K:W.Frag}{c:Str->Option Value}{a:Heap}{f:Addr}{g:FuncData}{i:List Str}{k m:Nat}{p q:List D->Option D}(F:xA P w K c a CX0 k f g i (spD m p))(h:∀ b d,b.length=m->q b=some d->p b=some d):xA P w K c a CX0 k f g i (spD m q) :=
 F.imp λr H Q E ⟨b,d,F',e,l,o,n,j⟩=>⟨b,d,F',e,l,o,h b d e n,j⟩
noncomputable def zp (m:Nat)(p:List D->Option D)(f:Ev->Option (List D)):Ev->Option D:=fun ρ=>(f ρ).bind λa=>if a.length=m then p a else none
theorem zhq {X:Cx}{x:Str}{k m:Nat}{f:Addr}{o:FuncData}{u:List Str}{p:List D->Option D}{e:Expr}{b:List Expr}{w a:Pos}{l:Ev->Option (List D)}(F:xA X.prog X.w X.K X.mg X.base CX0 k f o u (spD m p))(C:yL k X.A)(L:Gl X x)(N:X.mg x=some (.ref f))(B:W.keepIn X.K (.ref f)=true)(y:xf X.K o u [])
 (K:AD X (e::b) l) (i:(x == ("__debug__":Str))=false:=by decide) (M:starEach (e::b) X.env=(false,eval e X.env)::starEach b X.env:=by rfl) (c:(backTo a (starEach b X.env)).any (·.1)=false:=by rfl) :
 ED X (.Call (.Name x w) (e::b) [] a) (zp m p l):=by
 obtain⟨t,G,r⟩:=K
 refine⟨_,zc7 F C L N B y .nil zbe G i M c,fun σ ρ F0 H d Q s I e q=>?_⟩
 obtain⟨n,J,h⟩:=Option.bind_eq_some_iff.mp e
 split at h <;> try cases h
 rename_i A
 refine r σ ρ F0 H n _ s I J λF1 H1 O j z=>?_
 refine⟨n,d,F1,A,j.fh,by rw[List.append_nil];exact z,h,λF' H' v g E=>q F' H' v (j.trans g) E⟩
end Dl
namespace Dl
open PySem L2
variable [KK]
section
variable {X:Cx}{a b c e:Expr}{pos:Pos}
theorem zq:bootBuiltins "isinstance"=some (.builtin "isinstance"):=by decide +kernel
theorem Xg:bootBuiltins "len"=some (.builtin "len"):=by decide +kernel
theorem zjR:bootBuiltins "min"=some (.builtin "min"):=by decide +kernel
theorem zjT:bootBuiltins "max"=some (.builtin "max"):=by decide +kernel
theorem Vb:bootBuiltins "sorted"=some (.builtin "sorted"):=by decide +kernel
theorem zk8:bootBuiltins "sum"=some (.builtin "sum"):=by decide +kernel
theorem zgM:bootBuiltins "all"=some (.builtin "all"):=by decide +kernel
theorem zcg:bootBuiltins "int"=some (.type "int"):=by decide +kernel
theorem zeq:bootBuiltins "bool"=some (.type "bool"):=by decide +kernel
theorem zbd:bootBuiltins "tuple"=some (.type "tuple"):=by decide +kernel
theorem ziS:bootBuiltins "list"=some (.type "list"):=by decide +kernel
theorem YY:bootBuiltins "str"=some (.type "str"):=by decide +kernel
theorem Vm:bootBuiltins "enumerate"=some (.type "enumerate"):=by decide +kernel
noncomputable def Wc (C:Int->Int->Bool)(g:Int->Int->Int):D->D->Option D
 | .int i,.int j=>if C i j=true then some (.int (g i j))else none
 | _,_=>none
noncomputable def wD (g:Int->Int->Int):D->D->Option D
 | .int i,.int j=>some (.int (g i j))
 | _,_=>none
noncomputable def WA (g:Int->Int->Bool):D->D->Option D
 | .int i,.int j=>some (.bl (g i j))
 | _,_=>none
theorem Ys {C:Int->Int->Prop}{Cb:Int->Int->Bool}{g:Int->Int->Int}(h:∀ i j,Cb i j=true->C i j):OpD (rI C λi j=>.int (g i j)) (Wc Cb g):=by
 intro F H x y d e z Q s b c a q
 cases d <;> try cases a
 cases e <;> try cases a
 unfold Wc at a
 dsimp only at a
 split at a <;> cases a
 rename_i f
 exact⟨_,_,b.int_inv,c.int_inv,h _ _ f,q F H _ (.refl s) .int⟩
theorem Wl {g:Int->Int->Int}:OpD (rI0 λi j=>.int (g i j)) (wD g):=by
 intro F H x y d e z Q s b c a q
 cases d <;> try cases a
 cases e <;> try cases a
 exact⟨_,_,b.int_inv,c.int_inv,q F H _ (.refl s) .int⟩
theorem xu {g:Int->Int->Bool}:OpD (rI0 λi j=>.bl (g i j)) (WA g):=by
 intro F H x y d e z Q s b c a q
 cases d <;> try cases a
 cases e <;> try cases a
 exact⟨_,_,b.int_inv,c.int_inv,q F H _ (.refl s) .bl⟩
theorem Vh {r i:R2}{g j:D->D->Option D}(h:OpD r g)(k:OpD i j):OpD (λx y H Q=>r x y H Q\/i x y H Q) (λd e=>(g d e).or (j d e)):=by
 intro F H x y d e z Q s c f a q
 dsimp only at a
 cases b:g d e with
 | some l=>rw[b]at a;cases a;exact .inl (h F H x y d e z Q s c f b q)
 | none=>rw[b]at a;exact .inr (k F H x y d e z Q s c f a q)
noncomputable def zjW:D->D->Option D
 | .tup a,.tup b=>if lim (a.length+b.length)=true then some (.tup (a++b))else none
 | _,_=>none
noncomputable def zd2:D->D->Option (List D)
 | .lst a,.lst b=>if lim (a.length+b.length)=true then some (a++b)else none
 | _,_=>none
noncomputable def zeg (d e:D):Option D:=(zd2 d e).map .lst
noncomputable def zkg:D->D->Option D
 | .str a,.str b=>if lim (a.length+b.length)=true then some (.str (a++b))else none
 | _,_=>none
theorem zf8 {K:W.Frag}:OpD (zgT K) zjW:=by
 intro F H x y d e z Q s l m a q
 cases d <;> try cases a
 cases e <;> try cases a
 unfold zjW at a
 dsimp only at a
 split at a <;> cases a
 rename_i o
 obtain⟨p,h,rfl,f,b⟩:=l.tup_inv
 obtain⟨t,i,rfl,c,bl⟩:=m.tup_inv
 refine⟨p,t,h,i,rfl,rfl,SqT.of (s _ _ f),SqT.of (s _ _ c),by rw[b.length,bl.length];exact of_decide_eq_true o,λj=>?_,λ_ n=>?_,λ_ _ r k=>?_⟩
 .subst j
  have:(_:List D)=[]:=List.length_eq_zero_iff.mp b.length.symm
  subst this
  exact q F H _ (.refl s) (.tup c bl)
 .subst n
  have:(_:List D)=[]:=List.length_eq_zero_iff.mp bl.length.symm
  subst this
  rw[List.append_nil]at q
  exact q F H _ (.refl s) (.tup f b)
 .have g:=Gr.alloc s k (.tup (h++i))
  exact q _ _ _ g (.tup zf ((b.append bl).mono g.ff))
theorem zf3:OpD zlJ zeg:=by
 intro F H x y d e z Q s i l a q
 cases d <;> try cases a
 cases e <;> try cases a
 unfold zeg zd2 at a
 dsimp only at a
 split at a <;> cases a
 rename_i m
 obtain⟨p,c,rfl,k,b⟩:=i.lst_inv
 obtain⟨n,f,rfl,j,bl⟩:=l.lst_inv
 refine⟨p,n,c,f,rfl,rfl,s _ _ k,s _ _ j,by rw[b.length,bl.length];exact of_decide_eq_true m,λr h=>?_⟩
 have g:=Gr.alloc s h (.lst (c++f))
 exact q _ _ _ g (.lst zf ((b.append bl).mono g.ff))
theorem zeE:OpD (λx y H Q=>∃ i j,x=.str i/\y=.str j/\i.length+j.length<=sizeLine/\Q (.str (i++j)) H) zkg:=by
 intro F H x y d e z Q s b c a q
 cases d <;> try cases a
 cases e <;> try cases a
 unfold zkg at a
 dsimp only at a
 split at a <;> cases a
 rename_i f
 exact⟨_,_,b.str_inv,c.str_inv,of_decide_eq_true f,q F H _ (.refl s) .str⟩
noncomputable def zP:D->D->Option D
 | .int i,.int j=>some (.int (i+j))
 | .tup a,.tup b=>if lim (a.length+b.length)=true then some (.tup (a++b))else none
 | .lst a,.lst b=>if lim (a.length+b.length)=true then some (.lst (a++b))else none
 | .str a,.str b=>if lim (a.length+b.length)=true then some (.str (a++b))else none
 | _,_=>none
theorem VL {r:R2}{g a:D->D->Option D}(h:OpD r g)(k:∀ d e z,a d e=some z->g d e=some z):OpD r a:=λF H x y d e z Q s c f b q=>h F H x y d e z Q s c f (k d e z b) q
theorem zE {f h:Ev->Option D}(k:ED X a f)(l:ED X b h):ED X (.BinOp a .Add b pos) (zh zP f h) :=
 Zh (((zj2.or zfi).or zaP).or zbD) (VL (Vh (Vh (Vh (Wl (g:=λi j=>i+j)) zf8) zf3) zeE) λd e z h=>by
  cases d <;> try cases h
  all_goals cases e <;> try cases h
  .rfl
  .unfold zP at h;dsimp only at h;split at h <;> cases h;rename_i c;simp[wD,zjW,c,zeg,zd2,zkg]
  .unfold zP at h;dsimp only at h;split at h <;> cases h;rename_i c;simp[wD,zjW,c,zeg,zd2,zkg]
  .unfold zP at h;dsimp only at h;split at h <;> cases h;rename_i c;simp[wD,zjW,c,zeg,zd2,zkg]) k l
theorem WP {F H F1 H1:Hp}{p:Addr}(b:Gr F H F1 H1)(a:H1 p=none):H p=none:=by
 cases e:H p with
 | none=>rfl
 | some o =>
  cases c:F p with
  | none=>rw[(b.kp p o c e).2]at a;cases a
  | some u=>rw[b.fh _ _ (b.ff _ _ c)]at a;cases a
noncomputable def Za (i j:Int):Bool:=decide ((-(2 ^ 64) < i/\i < 2 ^ 64)\/(-(2 ^ 64) < j/\j < 2 ^ 64))
noncomputable def zmt:D->D->Option (List D)
 | .lst a,.int k=>if -(2 ^ 63)<=k/\k < 2 ^ 63/\lim (a.length*k.toNat)=true then some (List.replicate k.toNat a).flatten else none
 | _,_=>none
noncomputable def ze8 (d e:D):Option D:=(zmt d e).map .lst
noncomputable def vL:D->D->Option D
 | .int i,.int j=>if Za i j=true then some (.int (i*j))else none
 | .lst a,.int k=>if -(2 ^ 63)<=k/\k < 2 ^ 63/\lim (a.length*k.toNat)=true then some (.lst (List.replicate k.toNat a).flatten)else none
 | _,_=>none
theorem zeO:OpD rRep ze8:=by
 intro F H x y d e z Q s i j a q
 cases d <;> try cases a
 cases e <;> try cases a
 unfold ze8 zmt at a
 dsimp only at a
 split at a <;> cases a
 rename_i b
 obtain⟨p,f,rfl,l,c⟩:=i.lst_inv
 refine⟨p,_,f,rfl,j.int_inv,s _ _ l,b.1,b.2.1,by rw[c.length];exact of_decide_eq_true b.2.2,λr h=>?_⟩
 rename_i m k
 have g:=Gr.alloc s h (.lst (List.replicate k.toNat f).flatten)
 exact q _ _ _ g (.lst zf ((c.rep _).mono g.ff))
theorem zk6 {f h:Ev->Option D}(k:ED X a f)(m:ED X b h):ED X (.BinOp a .Mult b pos) (zh vL f h) :=
 Zh (zkH.or zkI) (VL (Vh (Ys (Cb:=Za) (g:=λi j=>i*j) λi j h=>by have l:=of_decide_eq_true (show decide ((-(2 ^ 64) < i/\i < 2 ^ 64)\/(-(2 ^ 64) < j/\j < 2 ^ 64))=true from h);exact l) zeO) λd e z h=>by
  cases d <;> try cases h
  all_goals cases e <;> try cases h
  .unfold vL at h;dsimp only at h;split at h <;> cases h;rename_i c;simp[Wc,c]
  .unfold vL at h;dsimp only at h;split at h <;> cases h;rename_i c;show(ze8 _ _)=_;unfold ze8 zmt;dsimp only;rw[if_pos c];rfl) k m
noncomputable def VW:=wD λi j=>i - j
noncomputable def yE:=Wc (λ_ j=>decide (0 < j/\j < 1606938044258990275541962092341162602522202993782792835301376)) λi j=>i / j
noncomputable def xg:=Wc (λ_ j=>decide (0 < j)) λi j=>i % j
noncomputable def zi4:=Wc (λ_ j=>decide (0<=j)) λi j=>i / 2 ^ j.toNat
theorem zk1 {f h:Ev->Option D}(c:ED X a f)(d:ED X b h):ED X (.BinOp a .Sub b pos) (zh VW f h):=Zh zks Wl c d
theorem zfq:OpR X (binaryOp .FloorDiv) (rI (λ_ j=>0 < j/\j < 1606938044258990275541962092341162602522202993782792835301376) λi j=>.int (i / j)):=opI λi j _ _ _ _ _ a q=>by
 have e:(0:Int) < j:=a.1
 have c:j < 1606938044258990275541962092341162602522202993782792835301376:=a.2
 refine PyProof.Rows.floordiv_int (by omega) (by rw[Int.fdiv_eq_ediv_of_nonneg i (by omega)];exact q) (.inl (PyProof.noPylong_of_log2 ?_))
 have h0:j.natAbs≠0:=by omega
 have b:j.natAbs < 1606938044258990275541962092341162602522202993782792835301376:=by omega
 have d:j.natAbs.log2 < 200:=(Nat.log2_lt h0).mpr b
 omega
theorem Xj {f h:Ev->Option D}(c:ED X a f)(e:ED X b h):ED X (.BinOp a .FloorDiv b pos) (zh yE f h):=Zh zfq (Ys λ_ _ h=>by have d:=of_decide_eq_true h;exact d) c e
theorem Z0 {f h:Ev->Option D}(c:ED X a f)(e:ED X b h):ED X (.BinOp a .Mod b pos) (zh xg f h):=Zh zkW (Ys λ_ _ h=>by have d:=of_decide_eq_true h;exact d) c e
theorem zk0 {f h:Ev->Option D}(c:ED X a f)(e:ED X b h):ED X (.BinOp a .RShift b pos) (zh zi4 f h):=Zh zjQ (Ys λ_ _ h=>by have d:=of_decide_eq_true h;exact d) c e
noncomputable def ltD:=WA λi j=>decide (i < j)
noncomputable def leD:=WA λi j=>decide (i<=j)
noncomputable def gtD:=WA λi j=>decide (j < i)
noncomputable def geD:=WA λi j=>decide (j<=i)
noncomputable def eqS:D->D->Option Bool
 | .non,.non=>some true
 | .int i,.int j=>some (decide (i=j))
 | .bl i,.bl j=>some (decide (i=j))
 | .str i,.str j=>some (decide (i=j))
 | .non,.int _=>some false | .int _,.non=>some false | .non,.bl _=>some false | .bl _,.non=>some false | .non,.str _=>some false | .str _,.non=>some false
 | .int _,.str _=>some false | .str _,.int _=>some false | .bl _,.str _=>some false | .str _,.bl _=>some false
 | _,_=>none
noncomputable def eqD (d e:D):Option D:=(eqS d e).map .bl
noncomputable def neD (d e:D):Option D:=(eqS d e).map λc=>.bl (!c)
theorem zgV:OpD rEq eqD:=by
 intro F H x y d e z Q s a b g q
 obtain⟨c,f,rfl⟩:=Option.map_eq_some_iff.mp g
 cases d <;> cases e <;> try cases f
 .cases a.non_inv;cases b.non_inv;exact⟨rfl,q F H _ (.refl s) .bl⟩
 .cases a.non_inv;cases b.bl_inv;exact⟨rfl,q F H _ (.refl s) .bl⟩
 .cases a.non_inv;cases b.int_inv;exact⟨rfl,q F H _ (.refl s) .bl⟩
 .cases a.non_inv;cases b.str_inv;exact⟨rfl,q F H _ (.refl s) .bl⟩
 .cases a.bl_inv;cases b.non_inv;exact⟨rfl,q F H _ (.refl s) .bl⟩
 .cases a.bl_inv;cases b.bl_inv;refine⟨rfl,?_⟩;rw[show ∀ i j:Bool,decide (V.bl i=V.bl j)=decide (i=j)from λi j=>by simp];exact q F H _ (.refl s) .bl
 .cases a.bl_inv;cases b.str_inv;exact⟨rfl,q F H _ (.refl s) .bl⟩
 .cases a.int_inv;cases b.non_inv;exact⟨rfl,q F H _ (.refl s) .bl⟩
 .cases a.int_inv;cases b.int_inv;refine⟨rfl,?_⟩;rw[show ∀ i j:Int,decide (V.int i=V.int j)=decide (i=j)from λi j=>by simp];exact q F H _ (.refl s) .bl
 .cases a.int_inv;cases b.str_inv;exact⟨rfl,q F H _ (.refl s) .bl⟩
 .cases a.str_inv;cases b.non_inv;exact⟨rfl,q F H _ (.refl s) .bl⟩
 .cases a.str_inv;cases b.bl_inv;exact⟨rfl,q F H _ (.refl s) .bl⟩
 .cases a.str_inv;cases b.int_inv;exact⟨rfl,q F H _ (.refl s) .bl⟩
 .cases a.str_inv;cases b.str_inv;refine⟨rfl,?_⟩;rw[show ∀ i j:Str,decide (V.str i=V.str j)=decide (i=j)from λi j=>by simp];exact q F H _ (.refl s) .bl
theorem W7:OpD rNe neD:=by
 intro F H x y d e z Q s h i f q
 obtain⟨c,a,rfl⟩:=Option.map_eq_some_iff.mp f
 have:=zgV F H x y d e (.bl c) (λv H'=>∃ b,v=.bl b/\Q (.bl (!b)) H') s h i (by unfold eqD;rw[a];rfl) λF' H' v g k=>⟨c,k.bl_inv,q F' H' _ g .bl⟩
 obtain⟨j,b,m,l⟩:=this
 cases m
 exact⟨j,l⟩
noncomputable def zbY:D->D->Option D
 | d,.non=>some (.bl (match d with | .non=>true | _=>false))
 | .bl a,.bl b=>some (.bl (a == b))
 | _,_=>none
noncomputable def xn:D->D->Option D
 | d,.non=>some (.bl (match d with | .non=>false | _=>true))
 | .bl a,.bl b=>some (.bl (!(a == b)))
 | _,_=>none
noncomputable def yY (g a:D->D->Option D)(f h k:Ev->Option D):Ev->Option D:=fun ρ=>(f ρ).bind λx=>(h ρ).bind λy=>((g x y).bind asB).bind λc=>if c=true then (k ρ).bind λz=>a y z else some (.bl false)
theorem zaV {r B:R2}{g C:D->D->Option D}{o t p:TE}{f h k:Ev->Option D}(S:OpD r g)(b:OpD B C)(J:RE o f)(T:RE t h)(E:RE p k):RE (Wm r B o t p) (yY g C f h k):=by
 intro σ ρ F H z Q s l e q
 obtain⟨x,N,e⟩:=Option.bind_eq_some_iff.mp e
 obtain⟨y,L,e⟩:=Option.bind_eq_some_iff.mp e
 obtain⟨c,d,e⟩:=Option.bind_eq_some_iff.mp e
 obtain⟨X,d,G⟩:=Option.bind_eq_some_iff.mp d
 cases vC G
 refine J σ ρ F H x _ s l N λF1 H1 v i P=>?_
 refine T σ ρ F1 H1 y _ i.fh (l.mono i.ff) L λF2 H2 u g2 A=>?_
 refine S F2 H2 v u x y _ _ g2.fh (P.mono g2.ff) A d λF3 H3 w j M=>⟨c,M.bl_inv,?_⟩
 have a:=(i.trans g2).trans j
 cases c with
 | true =>
  rw[if_pos rfl]at e ⊢
  obtain⟨n,V,W⟩:=Option.bind_eq_some_iff.mp e
  refine E σ ρ F3 H3 n _ j.fh (l.mono a.ff) V λF4 H4 O m I=>?_
  exact b F4 H4 u O y n z Q m.fh (A.mono (j.ff.trans m.ff)) I W λF5 H5 U R K=>q F5 H5 U ((a.trans m).trans R) K
 | false =>
  rw[if_neg Bool.false_ne_true]at e ⊢
  cases e
  exact q F3 H3 _ a .bl
theorem zfa {l d:CmpOp}{r e:R2}{g o:D->D->Option D}{f h k:Ev->Option D}(w:OpR X (compareOp l) r)(q:OpR X (compareOp d) e)(u:OpD r g)(i:OpD e o)(t:ED X a f)(v:ED X b h)(s:ED X c k)
 (j:∀ {p n m:TE},PE X a p->PE X b n->PE X c m->PE X (.Compare a [l,d] [b,c] pos) (Wm r e p n m)):ED X (.Compare a [l,d] [b,c] pos) (yY g o f h k) :=
 let ⟨_,pa,ra⟩:=t
 let ⟨_,pb,rb⟩:=v
 let ⟨_,pc,rc⟩:=s
 ⟨_,j pa pb pc,zaV u i ra rb rc⟩
theorem zfe {l d:CmpOp}{r e:R2}{g o:D->D->Option D}{f h k:Ev->Option D}(w:OpR X (compareOp l) r)(q:OpR X (compareOp d) e)(u:OpD r g)(i:OpD e o)(t:ED X a f)(v:ED X b h)(s:ED X c k)
 (j:∀ {p n m:TE},PE X a p->PE X b n->PE X c m->PT X (.Compare a [l,d] [b,c] pos) (zbT (Wm r e p n m))):TD X (.Compare a [l,d] [b,c] pos) (tOf (yY g o f h k)) :=
 let ⟨_,pa,ra⟩:=t
 let ⟨_,pb,rb⟩:=v
 let ⟨_,pc,rc⟩:=s
 ⟨_,j pa pb pc,zft (zaV u i ra rb rc)⟩
noncomputable def zaL:List D->Option (List Int)
 | []=>some []
 | .int b::ds=>(zaL ds).map (b::·)
 | _=>none
omit [KK] in
theorem YX:∀ {b:List D} {a:List Int},zaL b=some a->b=a.map .int
 | [],a,h=>by cases h;rfl
 | d::b,a,h=>by
  cases d <;> try cases h
  obtain⟨e,c,rfl⟩:=Option.map_eq_some_iff.mp h
  rw[YX c]
  rfl
noncomputable def leT:D->D->Option D
 | .tup a,.tup b=>(zaL a).bind λns=>(zaL b).map λc=>.bl (HT.lexLe ns c)
 | _,_=>none
theorem zif {K:W.Frag}:OpD (rLeT K) leT:=by
 intro F H x y d e z Q s b c a q
 cases d <;> try cases a
 cases e <;> try cases a
 obtain⟨ns,f,k⟩:=Option.bind_eq_some_iff.mp a
 obtain⟨i,l,rfl⟩:=Option.map_eq_some_iff.mp k
 rw[YX f]at b
 rw[YX l]at c
 obtain⟨p,n,rfl,h,j⟩:=b.tup_inv
 obtain⟨m,o,rfl,g,bl⟩:=c.tup_inv
 cases j.of_ints
 cases bl.of_ints
 exact⟨p,m,ns,i,rfl,rfl,SqT.of (s _ _ h),SqT.of (s _ _ g),q F H _ (.refl s) .bl⟩
noncomputable def ixD:D->D->Option D
 | .lst ds,.int i=>atI ds i
 | .tup ds,.int i=>atI ds i
 | .scr ns,.int i=>(atI ns i).map .int
 | _,_=>none
theorem AtL.atI {F:Hp}{c:List D}{b:List V}{i:Int}{d:D}(a:AtL F c b)(h:L2.atI c i=some d):∃ x,L2.atI b i=some x/\At F d x:=by
 unfold L2.atI at h ⊢
 obtain⟨j,e,g⟩:=Option.bind_eq_some_iff.mp h
 obtain⟨x,k,f⟩:=a.get g
 exact⟨x,by rw[a.length,e];exact k,f⟩
theorem zk9:OpD (rIx KK.K) ixD:=by
 intro F H x y d e z Q s f k b q
 cases e <;> try (cases d <;> cases b)
 cases k.int_inv
 cases d with
 | lst l =>
  obtain⟨p,i,rfl,c,h⟩:=f.lst_inv
  obtain⟨v,a,g⟩:=h.atI b
  exact .inl ⟨p,i,_,v,rfl,rfl,SqL.of (s _ _ c),a,q F H _ (.refl s) g⟩
 | tup l =>
  obtain⟨p,i,rfl,c,h⟩:=f.tup_inv
  obtain⟨v,a,g⟩:=h.atI b
  exact .inr (.inl ⟨p,i,_,v,rfl,rfl,SqT.of (s _ _ c),a,q F H _ (.refl s) g⟩)
 | scr ns =>
  obtain⟨p,rfl,c⟩:=f.scr_inv
  obtain⟨n,a,rfl⟩:=Option.map_eq_some_iff.mp b
  refine .inl ⟨p,ns.map V.int,_,.int n,rfl,rfl,s.seq c,?_,q F H _ (.refl s) .int⟩
  unfold L2.atI at a ⊢
  rw[List.length_map]
  obtain⟨j,o,m⟩:=Option.bind_eq_some_iff.mp a
  rw[o]
  show(ns.map V.int)[j]?=_
  rw[List.getElem?_map,m]
  rfl
 | _=>cases b
theorem xP {f h:Ev->Option D}(e:ED X a f)(c:ED X b h)(g:V8 b)(d:X.K=KK.K:=by rfl):ED X (.Subscript a b pos) (zh ixD f h) :=
 let ⟨_,pa,ra⟩:=e
 let ⟨_,pb,rb⟩:=c
 ⟨_,zjv zjF pa pb g,zd0 (by rw[d];exact zk9) ra rb⟩
noncomputable def zbI {α:Type}(a:List α)(b c:Option Int):List α:=(a.drop (HT.sIx a.length 0 b)).take (HT.sIx a.length a.length c - HT.sIx a.length 0 b)
theorem AtL.cut {F:Hp}{a:List D}{c:List V}{lo hi:Option Int}(b:AtL F a c):AtL F (zbI a lo hi) (zan c lo hi):=by
 unfold zbI zan
 rw[b.length]
 exact(b.drop _).take _
noncomputable def OD (X:Cx)(e:Option Expr)(f:Ev->Option (Option Int)):Prop:=∃ t,PO X e t/\∀ (σ:St) (ρ:Ev) (F H:Hp) (i:Option Int) (Q:Option Int->Hp->Prop),zD F H->VAt F ρ σ->f ρ=some i->(∀ F' H',Gr F H F' H'->Q i H')->t σ H Q
noncomputable def wv:Ev->Option (Option Int):=λ_=>some none
noncomputable def asI:D->Option Int
 | .int i=>some i
 | _=>none
noncomputable def x6 (f:Ev->Option D):Ev->Option (Option Int):=fun ρ=>((f ρ).bind asI).map some
theorem VQ:OD X none wv:=⟨_,zhZ,λ_ _ _ _ _ _ s _ e q=>by cases e;exact q _ _ (.refl s)⟩
theorem Zg {f:Ev->Option D}(h:ED X e f):OD X (some e) (x6 f):=by
 obtain⟨t,p,r⟩:=h
 refine⟨_,zhk p,fun σ ρ F H i Q s k e q=>?_⟩
 obtain⟨j,a,rfl⟩:=Option.map_eq_some_iff.mp e
 obtain⟨d,a,c⟩:=Option.bind_eq_some_iff.mp a
 cases d <;> cases c
 exact r σ ρ F H _ _ s k a λF1 H1 v g b=>⟨_,b.int_inv,q F1 H1 g⟩
noncomputable def slD:D->Option Int->Option Int->Option D
 | .lst ds,lo,hi=>some (.lst (zbI ds lo hi))
 | .scr ns,lo,hi=>some (.lst ((zbI ns lo hi).map .int))
 | .tup ds,lo,hi=>some (.tup (zbI ds lo hi))
 | _,_,_=>none
noncomputable def eSl (g:D->Option Int->Option Int->Option D)(f:Ev->Option D)(l h:Ev->Option (Option Int)):Ev->Option D:=fun ρ=>(f ρ).bind λd=>(l ρ).bind λb=>(h ρ).bind λa=>g d b a
omit [KK] in
theorem zgi {ns:List Int}{b a:Option Int}:zan (ns.map V.int) b a=(zbI ns b a).map V.int:=by
 unfold zan zbI
 rw[List.length_map,List.map_take,List.map_drop]
end
end Dl
namespace L2
open PySem PySem.Spec PyProof.Rows
noncomputable def rSlN:V->Option Int->Option Int->Hp->VK->Prop:=λx d c H Q=>∃ a b,x=.ref a/\H a=some (.tup b)/\(zan b d c=b->Q (.ref a) H)/\∀ p,H p=none->Q (.ref p) (upd H p (.tup (zan b d c)))
theorem zhO {X:Cx}:SlR X rSlN:=by
 intro d s σ H x v o n l j q Q I i m pl k h
 obtain⟨a,b,rfl,g,t,p⟩:=h
 by_cases hw:HT.sIx b.length 0 l=0/\HT.sIx b.length b.length j=b.length
 .cases i
  obtain⟨e,r,f,u⟩:=I.tuple (SqT.of g)
  have c:e.toArray.size=b.length:=by rw[List.size_toArray];exact r.length.symm
  refine⟨"tuple",_,PyProof.Rows.slot_tuple_getitem.lookup,f.typeIs,?_⟩
  refine HT.own_getItem_whole f m pl k (by rw[c];exact hw) ⟨.ref a,H,I,rfl,t ?_⟩
  unfold zan
  rw[hw.1,hw.2,List.drop_zero,Nat.sub_zero,List.take_length]
 .exact zkd d s σ H (.ref a) v o n l j q Q I i m pl k ⟨a,b,rfl,SqT.of g,hw,p⟩
end L2
namespace Dl
open PySem L2
variable [KK]
section
variable {X:Cx}{a b c e:Expr}{pos:Pos}
theorem YB {w A:Option Expr}{T:Pos}{f:Ev->Option D}{l h:Ev->Option (Option Int)}(P:ED X a f)(R:OD X w l)(B:OD X A h)(K:X.K=KK.K:=by rfl):ED X (.Subscript a (.Slice w A none T) pos) (eSl slD f l h):=by
 obtain⟨U,G,E⟩:=P
 obtain⟨Y,u,J⟩:=R
 obtain⟨W,M,L⟩:=B
 refine⟨_,zfu (zix.or zhO) G u M,fun σ ρ F H z Q s x e q=>?_⟩
 obtain⟨d,N,e⟩:=Option.bind_eq_some_iff.mp e
 obtain⟨i,I,e⟩:=Option.bind_eq_some_iff.mp e
 obtain⟨j,S,e⟩:=Option.bind_eq_some_iff.mp e
 refine E σ ρ F H d _ s x N λF1 H1 v o O=>?_
 refine J σ ρ F1 H1 i _ o.fh (x.mono o.ff) I λF2 H2 g2=>?_
 refine L σ ρ F2 H2 j _ g2.fh (x.mono (o.ff.trans g2.ff)) S λF3 H3 c=>?_
 have b:=(o.trans g2).trans c
 have y:=O.mono (g2.ff.trans c.ff)
 cases d <;> try cases e
 .obtain⟨p,n,rfl,k,t⟩:=y.tup_inv
  refine .inr ⟨p,n,rfl,c.fh _ _ k,λC=>?_,λr m=>?_⟩
  .have:=t.cut (lo:=i) (hi:=j)
   rw[C]at this
   exact q F3 H3 _ b (.tup k this)
  .have g:=Gr.alloc c.fh m (.tup (zan n i j))
   exact q _ _ _ (b.trans g) (.tup zf (t.cut.mono g.ff))
 .obtain⟨p,n,rfl,k,t⟩:=y.lst_inv
  refine .inl ⟨p,n,rfl,SqL.of (c.fh _ _ k),λr m=>?_⟩
  have g:=Gr.alloc c.fh m (.lst (zan n i j))
  exact q _ _ _ (b.trans g) (.lst zf (t.cut.mono g.ff))
 .rename_i ns _ _
  obtain⟨p,rfl,k⟩:=y.scr_inv
  refine .inl ⟨p,_,rfl,(by rw[K];exact c.fh.seq k),λr m=>?_⟩
  rw[zgi]
  have g:=Gr.alloc c.fh m (.lst ((zbI ns i j).map V.int))
  exact q _ _ _ (b.trans g) (.lst zf (.ints _))
noncomputable def CaD (r:List V->Hp->VK->Prop)(g:List D->Option D):Prop:=∀ (F H:Hp) (b:List V) (a:List D) (z:D) (Q:VK),zD F H->AtL F a b->g a=some z->(∀ F' H' v,Gr F H F' H'->At F' z v->Q v H')->r b H Q
noncomputable def eFn (g:List D->Option D)(f:Ev->Option (List D)):Ev->Option D:=fun ρ=>(f ρ).bind g
noncomputable def fFn (g:List D->Option (List D))(f:Ev->Option (List D)):Ev->Option (List D):=fun ρ=>(f ρ).bind g
theorem yH {x:Str}{id:String}{p:Pos}{a:List Expr}{r:List V->Hp->VK->Prop}{g:List D->Option D}{f:Ev->Option (List D)}(m:wb X (.builtin id) r)(C:CaD r g)(c:Gl X x)(I:X.mg x=none)(A:bootBuiltins x=some (.builtin id))(B:AD X (e::a) f)
 (E:x≠"__name__":=by decide) (d:(x == ("__debug__":Str))=false:=by decide) (G:starEach (e::a) X.env=(false,eval e X.env)::starEach a X.env:=by rfl) (b:(backTo pos (starEach a X.env)).any (·.1)=false:=by rfl) :
 ED X (.Call (.Name x p) (e::a) [] pos) (eFn g f):=by
 obtain⟨t,n,j⟩:=B
 refine⟨_,zN m c I A n E d G b,fun σ ρ F H z Q s u e q=>?_⟩
 obtain⟨h,w,o⟩:=Option.bind_eq_some_iff.mp e
 refine j σ ρ F H h _ s u w λF1 H1 l i y=>?_
 exact C F1 H1 l h z Q i.fh y o λF' H' v g k=>q F' H' v (i.trans g) k
theorem xT {x:Str}{T:String}{p:Pos}{a:List Expr}{r:List V->Hp->VK->Prop}{g:List D->Option D}{f:Ev->Option (List D)}(m:wb X (.type T) r)(C:CaD r g)(c:Gl X x)(I:X.mg x=none)(A:bootBuiltins x=some (.type T))(B:AD X (e::a) f)
 (E:x≠"__name__":=by decide) (d:(x == ("__debug__":Str))=false:=by decide) (G:starEach (e::a) X.env=(false,eval e X.env)::starEach a X.env:=by rfl) (b:(backTo pos (starEach a X.env)).any (·.1)=false:=by rfl) :
 ED X (.Call (.Name x p) (e::a) [] pos) (eFn g f):=by
 obtain⟨t,n,j⟩:=B
 refine⟨_,Vn m c I A n E d G b,fun σ ρ F H z Q s u e q=>?_⟩
 obtain⟨h,w,o⟩:=Option.bind_eq_some_iff.mp e
 refine j σ ρ F H h _ s u w λF1 H1 l i y=>?_
 exact C F1 H1 l h z Q i.fh y o λF' H' v g k=>q F' H' v (i.trans g) k
noncomputable def Zm:List D->Option D
 | [.lst ds]=>some (.int ds.length)
 | [.tup ds]=>some (.int ds.length)
 | [.scr ds]=>some (.int ds.length)
 | _=>none
theorem Wb:CaD (λb H Q=>∃ p d,b=[.ref p]/\(SqL KK.K H p d\/SqT KK.K H p d)/\Q (.int d.length) H) Zm:=by
 intro F H i h z Q s g e q
 unfold Zm at e
 split at e <;> cases e
 all_goals
  obtain⟨x,r,rfl,c,f⟩:=g.cons_inv
  cases f.nil_inv
 .obtain⟨p,b,rfl,a,bl⟩:=c.lst_inv
  exact⟨p,b,rfl,.inl (SqL.of (s _ _ a)),by rw[bl.length];exact q F H _ (.refl s) .int⟩
 .obtain⟨p,b,rfl,a,bl⟩:=c.tup_inv
  exact⟨p,b,rfl,.inr (SqT.of (s _ _ a)),by rw[bl.length];exact q F H _ (.refl s) .int⟩
 .obtain⟨p,rfl,a⟩:=c.scr_inv
  exact⟨p,_,rfl,.inl ((s.seq a)),by rw[List.length_map];exact q F H _ (.refl s) .int⟩
noncomputable def zjh:List D->Option D
 | [.int i,.int j]=>some (.int (if j > i then j else i))
 | _=>none
noncomputable def zkx:List D->Option D
 | [.int i,.int j]=>some (.int (if j < i then j else i))
 | _=>none
theorem zat {g:Int->Int->Int}:CaD (λf H Q=>∃ i j,f=[.int i,.int j]/\Q (.int (g i j)) H) (λb=>match b with | [.int i,.int j]=>some (.int (g i j)) | _=>none):=by
 intro F H k b z Q s h e q
 dsimp only at e
 split at e <;> cases e
 obtain⟨x,r,rfl,c,a⟩:=h.cons_inv
 obtain⟨y,r,rfl,d,a⟩:=a.cons_inv
 cases a.nil_inv
 exact⟨_,_,by rw[c.int_inv,d.int_inv],q F H _ (.refl s) .int⟩
theorem zfN:CaD (λa H Q=>∃ i j,a=[.int i,.int j]/\Q (.int (if j > i then j else i)) H) zjh:=zat (g:=λi j=>if j > i then j else i)
theorem ze6:CaD (λa H Q=>∃ i j,a=[.int i,.int j]/\Q (.int (if j < i then j else i)) H) zkx:=zat (g:=λi j=>if j < i then j else i)
noncomputable def yO:List D->Option D
 | [.lst ds]=>some (.tup ds)
 | [.tup ds]=>some (.tup ds)
 | _=>none
theorem zcp {K:W.Frag}:CaD (λa H Q=>∃ p c,a=[.ref p]/\((SqL K H p c/\∀ l,H l=none->Q (.ref l) (upd H l (.tup c)))\/(SqT K H p c/\Q (.ref p) H))) yO:=by
 intro F H k j z Q s h e q
 unfold yO at e
 split at e <;> cases e
 all_goals
  obtain⟨x,r,rfl,d,f⟩:=h.cons_inv
  cases f.nil_inv
 .obtain⟨p,a,rfl,b,bl⟩:=d.lst_inv
  refine⟨p,a,rfl,.inl ⟨SqL.of (s _ _ b),λl i=>?_⟩⟩
  have g:=Gr.alloc s i (.tup a)
  exact q _ _ _ g (.tup zf (bl.mono g.ff))
 .obtain⟨p,a,rfl,b,bl⟩:=d.tup_inv
  exact⟨p,a,rfl,.inr ⟨SqT.of (s _ _ b),q F H _ (.refl s) (.tup b bl)⟩⟩
noncomputable def wC:List D->Option (List D)
 | [.lst ds]=>some ds
 | [.tup ds]=>some ds
 | [.scr ns]=>some (ns.map .int)
 | _=>none
theorem zh3 {p:Pos} {f:Ev->Option (List D)} (h:Gl X "list") (C:X.mg "list"=none) (A:AD X [e] f) (u:X.K=KK.K:=by rfl)
 (B:starEach [e] X.env=(false,eval e X.env)::starEach [] X.env:=by rfl) (d:(backTo pos (starEach [] X.env)).any (·.1)=false:=by rfl):FL X (.Call (.Name "list" p) [e] [] pos) (fFn wC f):=by
 obtain⟨t,o,m⟩:=A
 refine⟨_,Vn Ws h C ziS o (by decide) (by decide) B d,fun σ ρ F H z Q s v e q=>?_⟩
 obtain⟨k,w,j⟩:=Option.bind_eq_some_iff.mp e
 refine m σ ρ F H k _ s v w λF1 H1 E a y=>?_
 unfold wC at j
 split at j <;> cases j
 all_goals
  obtain⟨x,r,rfl,g,n⟩:=y.cons_inv
  cases n.nil_inv
 .obtain⟨p,i,rfl,c,bl⟩:=g.lst_inv
  exact⟨p,i,rfl,.inl (SqL.of (a.fh _ _ c)),λl b=>q _ _ _ _ (a.trans (Gr.hide a.fh b _)) (WP a b) (a.fh.free b) zf bl⟩
 .obtain⟨p,i,rfl,c,bl⟩:=g.tup_inv
  exact⟨p,i,rfl,.inr (SqT.of (a.fh _ _ c)),λl b=>q _ _ _ _ (a.trans (Gr.hide a.fh b _)) (WP a b) (a.fh.free b) zf bl⟩
 .obtain⟨p,rfl,c⟩:=g.scr_inv
  exact⟨p,_,rfl,.inl (by rw[u];exact a.fh.seq c),λl b=>q _ _ _ _ (a.trans (Gr.hide a.fh b _)) (WP a b) (a.fh.free b) zf (.ints _)⟩
inductive TyD (K:W.Frag) (H:Hp):V->Value->Prop where
 | of {v:V} {t:Value} (h:zaH K H v t):TyD K H v t
 | dd {a:Addr} {u:HO} (h:Rd H a u) (d:(∃ kvs,u=.dK kvs)\/∃ kvs,u=.dT kvs):TyD K H (.ref a) (.type "dict")
theorem Wy {X:Cx}:wb X (.builtin "isinstance") (λg H Q=>∃ x n t b,g=[x,.ty n]/\TyD X.K H x t/\W.kitOne X.K t (.type n)=some b/\Q (.bl b) H):=by
 intro f s σ H g m Q I r h
 obtain⟨x,n,t,b,rfl,ty,e,q⟩:=h
 cases ty with
 | of ty=>exact VZ f s σ H _ m Q I r ⟨x,n,t,b,rfl,ty,e,q⟩
 | @dd a u h d =>
  cases r with
  | cons w A =>
   cases A with
   | cons v l =>
    cases l
    cases w
    cases v
    have ok:=h.ok I.hok
    rcases d with ⟨c,rfl⟩ | ⟨c,rfl⟩
    .obtain⟨_,_,C,_,p⟩:=(show yb X.prog X.w H s.heap a (.dK c)from ok)
     obtain⟨o,y,B,k,i,_⟩:=p
     exact W.kia_one W.kitx_dict I.kIn ⟨o,k,i.1⟩ e (λz=>nomatch z) λj=>⟨.bl b,H,I.tok j,rfl,q⟩
    .obtain⟨_,_,g,_,o,y,B,k,i,_⟩:=(show yb X.prog X.w H s.heap a (.dT c)from ok)
     exact W.kia_one W.kitx_dict I.kIn ⟨o,k,i.1⟩ e (λz=>nomatch z) λj=>⟨.bl b,H,I.tok j,rfl,q⟩
theorem At.ty {K:W.Frag}{F H:Hp}(s:zD F H):∀ {d:D} {v:V},At F d v->(∀ ns,d≠.scr ns)->(∀ w e g,d≠.obj w e g)->TyD K H v (.type (tyN d))
 | .non,_,h,_,_=>by cases h.non_inv;exact .of .non
 | .bl b,_,h,_,_=>by cases h.bl_inv;exact .of (.bl b)
 | .int i,_,h,_,_=>by cases h.int_inv;exact .of (.int i)
 | .str x,_,h,_,_=>by cases h.str_inv;exact .of (.str x)
 | .tup ds,_,h,_,_=>by obtain⟨a,j,rfl,e,_⟩:=h.tup_inv;exact .of (.tup (s _ _ e))
 | .lst ds,_,h,_,_=>by obtain⟨a,j,rfl,e,_⟩:=h.lst_inv;exact .of (.lst (s _ _ e))
 | .scr ns,_,_,n,_=>absurd rfl (n ns)
 | .obj w e g,_,_,_,n=>absurd rfl (n w e g)
 | .dct z t ks vs,_,h,_,_=>by
  obtain⟨a,j,rfl,d,_⟩:=h.dct_inv
  obtain⟨u,f,k⟩:=(d.mono s).rd
  exact .dd k (by
   unfold zac at f
   split at f
   .obtain⟨c,rfl,_⟩:=f;exact .inr ⟨c,rfl⟩
   .obtain⟨c,rfl,_⟩:=f;exact .inl ⟨c,rfl⟩)
inductive Ty where
 | int | bool | tuple | list | str
noncomputable def Ty.nm:Ty->String
 | .int=>"int" | .bool=>"bool" | .tuple=>"tuple" | .list=>"list" | .str=>"str"
noncomputable def isT:Ty->D->Bool
 | .int,.int _=>true | .int,.bl _=>true
 | .bool,.bl _=>true
 | .tuple,.tup _=>true
 | .list,.lst _=>true
 | .str,.str _=>true
 | _,_=>false
noncomputable def xD (n:Ty):D->Option D
 | .scr _=>none
 | .obj _ _ _=>none
 | d=>some (.bl (isT n d))
theorem zjf (K:W.Frag)(n:Ty)(d:D)(h:∀ ns,d≠.scr ns)(a:∀ w e b,d≠.obj w e b):W.kitOne K (.type (tyN d)) (.type n.nm)=some (isT n d):=by
 cases n <;> cases d <;> first | exact absurd rfl (h _) | exact absurd rfl (a _ _ _) | kernel_rfl
theorem vJ {p:Pos} {f:Ev->Option D} (n:Ty) (g:Gl X "isinstance") (E:X.mg "isinstance"=none) (C:ED X a f) (u:PE X b (tC (.ty n.nm)))
 (m:starEach [a,b] X.env=(false,eval a X.env)::starEach [b] X.env:=by rfl) (i:starEach [b] X.env=(false,eval b X.env)::starEach [] X.env:=by rfl) (c:(backTo pos (starEach [b] X.env)).any (·.1)=false:=by rfl) :
 ED X (.Call (.Name "isinstance" p) [a,b] [] pos) (eUn (xD n) f):=by
 obtain⟨t,r,o⟩:=C
 refine⟨_,zN Wy g E zq (zn r (zn u z9 i) m) (by decide) (by decide) m c,fun σ ρ F H z Q s y e q=>?_⟩
 obtain⟨d,A,j⟩:=Option.bind_eq_some_iff.mp e
 refine o σ ρ F H d _ s y A λF1 H1 v k B=>?_
 have ns:∀ ns,d≠.scr ns:=λns h=>by subst h;cases j
 have no:∀ w e l,d≠.obj w e l:=λw e l h=>by subst h;cases j
 have x:z=.bl (isT n d):=by
  cases d <;> first | exact(Option.some.inj j).symm | exact absurd rfl (ns _) | exact absurd rfl (no _ _ _)
 subst x
 exact⟨v,n.nm,_,_,rfl,B.ty k.fh ns no,zjf _ n d ns no,q F1 H1 _ k .bl⟩
noncomputable def XU (m:Bool)(i:Nat)(f:Ev->Option D):SE->Ctl:=fun ρ=>match (vEv m f ρ).bind λd=>match ρ[i]? with
 | some (.o ds)=>if decide (ds.length < sizeLine)=true then some (ρ.set i (.o (ds++[d])))else none
 | _=>none with
 | some a=>.nx a
 | none=>.no
theorem zk5 {m:Bool}{i:Nat}{p b:Pos}{f:Ev->Option D}(C:PE X a (Yl i))(N:ED X e f)
 (P:∀ {A:TE} {t:TA},PE X a A->PA X [e] t->PE X (.Call (.Attribute a "append" p) [e] [] b) (tBM X.K "list" zaf A t)) (z:swapsWith (.Call (.Attribute a "append" p) [e] [] b) none pos.line X.env=pure false:=by rfl)
 (j:starEach [e] X.env=(false,eval e X.env)::starEach [] X.env:=by rfl):SD X (.Expr (.Call (.Attribute a "append" p) [e] [] b) pos) (XU m i f):=by
 obtain⟨t,J,O⟩:=N
 refine⟨_,Zs (P C (zn J z9 j)) z,λFb Hb F H ρ σ E u k=>?_⟩
 unfold XU at k
 cases h:(vEv m f ρ).bind λd=>match ρ[i]? with
  | some (.o l)=>if decide (l.length < sizeLine)=true then some (ρ.set i (.o (l++[d])))else none
  | _=>none with
 | none=>rw[h]at k;exact k.elim
 | some R =>
  rw[h]at k
  obtain⟨d,I,c⟩:=Option.bind_eq_some_iff.mp h
  cases j:ρ[i]? with
  | none=>rw[j]at c;cases c
  | some K =>
   rw[j]at c
   cases K with
   | no=>cases c
   | v _=>cases c
   | m _ _ _=>cases c
   | k _ _ _=>cases c
   | o l =>
    dsimp only at c
    split at c <;> cases c
    rename_i L
    obtain⟨q,G,w,S,T,M,Q⟩:=u.owns i l j
    refine⟨_,w,.inl ⟨rfl,G,SqL.of M⟩,?_⟩
    refine O.at u I λF' H' v g B=>?_
    have n:=u.grow g
    obtain⟨U,y,s,_,_,x,r⟩:=n.owns i l j
    rw[w]at s
    cases s
    refine⟨q,y,v,rfl,rfl,x,by rw[r.length];exact of_decide_eq_true L,?_⟩
    exact k _ _ σ (n.mutate j w (r.snoc B))
noncomputable def zbX (i:Nat)(f:Ev->Option D):SE->Ctl:=fun ρ=>match (f (visF ρ)).bind λd=>match ρ[i]?,d with
 | some (.o ds),.lst es=>if lim (ds.length+es.length)=true then some (ρ.set i (.o (ds++es)))else none
 | _,_=>none with
 | some a=>.nx a
 | none=>.no
end
end Dl
namespace Dl
open PySem L2
variable [KK]
noncomputable def okE:Nat->D->Bool
 | _,.scr _=>false
 | _,.dct _ _ _ _=>false
 | _,.obj _ _ _=>false
 | 0,.tup _=>false
 | 0,.lst _=>false
 | n+1,.tup ds=>ds.all (okE n)
 | n+1,.lst ds=>ds.all (okE n)
 | _,_=>true
noncomputable def eqN:Nat->D->D->Bool
 | _,.non,.non=>true
 | _,.bl a,.bl b=>a == b
 | _,.bl a,.int b=>(if a then 1 else 0) == b
 | _,.int a,.bl b=>a == (if b then 1 else 0)
 | _,.int a,.int b=>a == b
 | _,.str a,.str b=>a == b
 | n+1,.tup a,.tup b=>(List.zipWith (eqN n) a b).all id&&a.length == b.length
 | n+1,.lst a,.lst b=>(List.zipWith (eqN n) a b).all id&&a.length == b.length
 | _,_,_=>false
omit [KK] in
theorem VT {n:Nat}:∀ (a b:List D),(List.zipWith (eqN n) a b).all id=(List.range (min a.length b.length)).all λj=>eqN n (a.getD j .non) (b.getD j .non):=by
 intro a b
 have:List.zipWith (eqN n) a b=(List.range (min a.length b.length)).map λj=>eqN n (a.getD j .non) (b.getD j .non):=by
  apply List.ext_getElem
  .simp
  .intro i c d
   simp at c d
   have e:i < a.length:=Nat.lt_of_lt_of_le c (Nat.min_le_left _ _)
   have g2:i < b.length:=Nat.lt_of_lt_of_le c (Nat.min_le_right _ _)
   simp[e,g2]
 rw[this,List.all_map]
 rfl
omit [KK] in
noncomputable def vOf:D->V
 | .bl b=>.bl b
 | .int i=>.int i
 | .str t=>.str t
 | _=>.non
theorem xc {F:Hp}{d:D}{x:V}(h:okE 0 d=true)(a:At F d x):x=vOf d:=by
 cases d with
 | non=>exact a.non_inv
 | bl b=>exact a.bl_inv
 | int b=>exact a.int_inv
 | str b=>exact a.str_inv
 | _=>cases h
omit [KK] in
theorem YH {d:D}(h:okE 0 d=true):ziB (vOf d)=true:=by
 cases d <;> first | rfl | cases h
omit [KK] in
theorem XX {d:D}{p:Addr}(h:okE 0 d=true)(e:vOf d=.ref p):False:=by
 cases d <;> first | (cases h;done) | (cases e;done)
noncomputable def dOfV:V->D
 | .bl b=>.bl b
 | .int i=>.int i
 | .str t=>.str t
 | _=>.non
omit [KK] in
theorem zdt {d:D}(h:okE 0 d=true):dOfV (vOf d)=d:=by
 cases d <;> first | rfl | (cases h;done)
omit [KK] in
theorem zdb {d e:D}(b:okE 0 d=true)(a:okE 0 e=true)(h:vOf d=vOf e):d=e:=by
 rw[<-zdt b,h,zdt a]
omit [KK] in
theorem y2 {n:Nat}{d:D}(h:okE (n+1) d=true):okE 0 d=true\/(∃ a,d=.tup a/\a.all (okE n)=true)\/∃ a,d=.lst a/\a.all (okE n)=true:=by
 cases d with
 | tup a=>exact .inr (.inl ⟨a,rfl,h⟩)
 | lst a=>exact .inr (.inr ⟨a,rfl,h⟩)
 | scr _=>cases h
 | dct _ _ _ _=>cases h
 | obj _ _ _=>cases h
 | _=>exact .inl rfl
theorem zdl {F:Hp}{n:Nat}(l:∀ {d e:D} {v:V},okE n d=true->okE n e=true->At F d v->At F e v->d=e):∀ {c:List V} {a b:List D},a.all (okE n)=true->b.all (okE n)=true->AtL F a c->AtL F b c->a=b:=by
 intro c
 induction c with
 | nil =>
  intro a b _ _ f g
  exact(List.length_eq_zero_iff.mp f.length.symm).trans (List.length_eq_zero_iff.mp g.length.symm).symm
 | cons x c i =>
  intro a b h j f g
  cases a with
  | nil=>cases f.nil_inv
  | cons d a=>cases b with
   | nil=>cases g.nil_inv
   | cons e b =>
    obtain⟨y,r,k,b1,p⟩:=f.cons_inv
    obtain⟨q,s,o,b2,m⟩:=g.cons_inv
    cases k
    cases o
    rw[List.all_cons,Bool.and_eq_true]at h j
    rw[i h.2 j.2 p m,l h.1 j.1 b1 b2]
theorem zgP {F:Hp}:∀ (n:Nat) {d e:D} {v:V},okE n d=true->okE n e=true->At F d v->At F e v->d=e:=by
 intro n
 induction n with
 | zero =>
  intro d e v o h j b
  exact zdb o h ((xc o j).symm.trans (xc h b))
 | succ n x =>
  intro d e v o h j b
  rcases y2 o with m | ⟨y,rfl,u⟩ | ⟨y,rfl,u⟩
  .have a:=xc m j
   rcases y2 h with c | ⟨l,rfl,_⟩ | ⟨l,rfl,_⟩
   .exact zdb m c (a.symm.trans (xc c b))
   .obtain⟨p,s,t,_⟩:=b.tup_inv
    exact(XX m (a.symm.trans t)).elim
   .obtain⟨p,s,t,_⟩:=b.lst_inv
    exact(XX m (a.symm.trans t)).elim
  .obtain⟨p,s,f,k,r⟩:=j.tup_inv
   rcases y2 h with c | ⟨l,rfl,i⟩ | ⟨l,rfl,i⟩
   .exact(XX c ((xc c b).symm.trans f)).elim
   .obtain⟨q,w,a,g,bl⟩:=b.tup_inv
    cases f.symm.trans a
    cases k.symm.trans g
    rw[zdl x u i r bl]
   .obtain⟨q,w,a,g,bl⟩:=b.lst_inv
    cases f.symm.trans a
    cases k.symm.trans g
  .obtain⟨p,s,f,k,r⟩:=j.lst_inv
   rcases y2 h with c | ⟨l,rfl,i⟩ | ⟨l,rfl,i⟩
   .exact(XX c ((xc c b).symm.trans f)).elim
   .obtain⟨q,w,a,g,bl⟩:=b.tup_inv
    cases f.symm.trans a
    cases k.symm.trans g
   .obtain⟨q,w,a,g,bl⟩:=b.lst_inv
    cases f.symm.trans a
    cases k.symm.trans g
    rw[zdl x u i r bl]
omit [KK] in
theorem zf2:∀ (n:Nat) {d:D},okE n d=true->eqN n d d=true:=by
 intro n
 induction n with
 | zero =>
  intro d h
  cases d with
  | tup _=>cases h
  | lst _=>cases h
  | scr _=>cases h
  | dct _ _ _ _=>cases h
  | obj _ _ _=>cases h
  | _=>first | rfl | exact decide_eq_true rfl | exact beq_self_eq_true _
 | succ n e =>
  have b:∀ {a:List D},a.all (okE n)=true->(List.zipWith (eqN n) a a).all id=true:=by
   intro a
   induction a with
   | nil=>intro _;rfl
   | cons d a c =>
    intro h
    rw[List.all_cons,Bool.and_eq_true]at h
    rw[List.zipWith_cons_cons,List.all_cons,c h.2,Bool.and_true]
    exact e h.1
  intro d h
  cases d with
  | tup a=>show((List.zipWith (eqN n) a a).all id&&a.length == a.length)=true;rw[b h];simp
  | lst a=>show((List.zipWith (eqN n) a a).all id&&a.length == a.length)=true;rw[b h];simp
  | scr _=>cases h
  | dct _ _ _ _=>cases h
  | obj _ _ _=>cases h
  | _=>first | rfl | exact decide_eq_true rfl | exact beq_self_eq_true _
theorem zgC {F:Hp}(n:Nat){d e:D}{v:V}(f:okE n d=true)(a:okE n e=true)(c:At F d v)(b:At F e v):eqN n d e=true:=by
 rw[zgP n f a c b]
 exact zf2 n a
omit [KK] in
theorem x8 {n:Nat}{a:List D}{j:Nat}(h:a.all (okE n)=true)(b:j < a.length):okE n (a.getD j .non)=true:=by
 have:a.getD j .non=a[j]:=by simp[b]
 rw[this]
 exact List.all_eq_true.mp h _ (List.getElem_mem b)
theorem AtL.nth {F:Hp}{a:List D}{e:List V}{b:List Value}{j:Nat}(c:AtL F a e)(r:zT e b)(h:j < b.length):∃ x,At F (a.getD j .non) x/\yl x b[j]:=by
 have o:=c.length
 have m:=r.length
 have f:j < a.length:=by omega
 obtain⟨x,n,k⟩:=c.get (i:=j) (d:=a[j]) (by simp[f])
 obtain⟨u,g,l⟩:=r.get n
 refine⟨x,by rw[show a.getD j .non=a[j] by simp[f]];exact k,?_⟩
 have:b[j]?=some b[j]:=by simp[h]
 rw[g]at this
 cases this
 exact l
omit [KK] in
theorem za0 {n:Nat}{d e:D}(b:okE 0 d=true)(a:okE 0 e=true):eqN n d e=eqV (vOf d) (vOf e):=by
 cases n <;> cases d <;> first | (cases b;done) | skip
 all_goals cases e <;> first | (cases a;done) | rfl
omit [KK] in
theorem zaB {n:Nat}{d:D}(a:List D)(h:okE 0 d=true):eqN (n+1) d (.tup a)=false/\eqN (n+1) d (.lst a)=false/\eqN (n+1) (.tup a) d=false/\eqN (n+1) (.lst a) d=false:=by
 cases d <;> first | exact⟨rfl,rfl,rfl,rfl⟩ | cases h
omit [KK] in
theorem X0 {A:Around}{s:Shared}{d:D}{u:Value}{p:Addr}{e:Array Value}(h:okE 0 d=true)(r:yl (vOf d) u)(c:A.units < cLine) :
 (s.heap.IsTuple p e->SeqAt.EqAt A s u (.ref p) false/\SeqAt.EqAt A s (.ref p) u false)/\(s.heap.IsList p e->SeqAt.EqAt A s u (.ref p) false/\SeqAt.EqAt A s (.ref p) u false):=by
 cases d with
 | non=>cases r;exact⟨λa=>⟨.none_tuple a c,.tuple_none a c⟩,λa=>⟨.none_list a c,.list_none a c⟩⟩
 | bl b=>cases r;exact⟨λa=>⟨.bool_tuple b a c,.tuple_bool b a c⟩,λa=>⟨.bool_list b a c,.list_bool b a c⟩⟩
 | int b=>obtain⟨t,rfl⟩:=r;exact⟨λa=>⟨.int_tuple b t a c,.tuple_int b t a c⟩,λa=>⟨.int_list b t a c,.list_int b t a c⟩⟩
 | str b=>obtain⟨t,rfl⟩:=r;exact⟨λa=>⟨.str_tuple b t a c,.tuple_str b t a c⟩,λa=>⟨.str_list b t a c,.list_str b t a c⟩⟩
 | _=>cases h
theorem XZ {X:Cx}{c:List (Addr × Obj)}{σ:St}{F H:Hp}{s:Shared}(I:Inv X c σ H s)(h:zD F H){e:List D}{x:V}{u:Value}(a:At F (.tup e) x)(r:yl x u):∃ p b d,u=.ref p/\x=.ref p/\zT d b/\AtL F e d/\s.heap.IsTuple p b.toArray:=by
 obtain⟨p,d,rfl,i,j⟩:=a.tup_inv
 cases r
 obtain⟨b,g,f,k⟩:=I.tuple (SqT.of (h _ _ i))
 exact⟨p,b,d,rfl,rfl,g,j,f⟩
theorem XN {X:Cx}{c:List (Addr × Obj)}{σ:St}{F H:Hp}{s:Shared}(I:Inv X c σ H s)(h:zD F H){e:List D}{x:V}{u:Value}(a:At F (.lst e) x)(r:yl x u):∃ p b d,u=.ref p/\x=.ref p/\zT d b/\AtL F e d/\s.heap.IsList p b.toArray:=by
 obtain⟨p,d,rfl,i,j⟩:=a.lst_inv
 cases r
 obtain⟨b,g,f,k⟩:=I.list (SqL.of (h _ _ i))
 exact⟨p,b,d,rfl,rfl,g,j,f.isList⟩
omit [KK] in
theorem zcW {n:Nat}(b a:List D):((List.zipWith (eqN n) b a).all id&&b.length == a.length)=((List.range (min b.length a.length)).all (λj=>eqN n (b.getD j .non) (a.getD j .non))&&b.length == a.length):=by rw[VT]
theorem zbZ {X:Cx}{Q:List (Addr × Obj)}{σ:St}{F H:Hp}{s:Shared}(I:Inv X Q σ H s)(C:zD F H):∀ (n:Nat) {A:Around} {d e:D} {x y:V} {u v:Value},okE n d=true->okE n e=true->At F d x->At F e y->yl x u->yl y v->A.units+n < cLine->SeqAt.EqAt A s u v (eqN n d e):=by
 intro n
 induction n with
 | zero =>
  intro A d e x y u v N t w h L r Z
  cases xc N w
  cases xc t h
  rw[za0 N t]
  exact zgD L r (YH N) (YH t)
 | succ n ih =>
  intro A d e x y u v N t w h L r Z
  have c:A.units < cLine:=Nat.lt_of_le_of_lt (Nat.le_add_right _ _) Z
  have O:A.units+1+n < cLine:=by rw[Nat.add_assoc,Nat.add_comm 1 n];exact Z
  rcases y2 N with K | ⟨l,rfl,k1⟩ | ⟨l,rfl,k1⟩
  .cases xc K w
   rcases y2 t with o | ⟨f,rfl,J⟩ | ⟨f,rfl,J⟩
   .cases xc o h
    rw[za0 K o]
    exact zgD L r (YH K) (YH o)
   .obtain⟨q,b,S,rfl,_,_,_,a⟩:=XZ I C h r
    rw[(zaB f K).1]
    exact((X0 K L c).1 a).1
   .obtain⟨q,b,S,rfl,_,_,_,a⟩:=XN I C h r
    rw[(zaB f K).2.1]
    exact((X0 K L c).2 a).1
  .obtain⟨p,E,xs,rfl,M,P,T,B⟩:=XZ I C w L
   rcases y2 t with o | ⟨f,rfl,J⟩ | ⟨f,rfl,J⟩
   .cases xc o h
    rw[(zaB l o).2.2.1]
    exact((X0 o r c).1 B).2
   .obtain⟨q,b,S,rfl,G,m,bl,a⟩:=XZ I C h r
    by_cases i:p=q
    .subst i
     rw[M]at w
     rw[G]at h
     rw[zgC (n+1) N t w h]
     exact .same _
    .have g:E.toArray.size=l.length:=by rw[List.size_toArray,<- P.length,T.length]
     have k:b.toArray.size=f.length:=by rw[List.size_toArray,<- m.length,bl.length]
     have:=SeqAt.RcAt.tuples (A:=A) (e:=λj=>eqN n (l.getD j .non) (f.getD j .non)) B a c λj R g2=>by
      obtain⟨x',U,rx⟩:=T.nth P (j:=j) R
      obtain⟨y',W,Y⟩:=bl.nth m (j:=j) g2
      exact ih (x8 k1 (g ▸ R)) (x8 J (k ▸ g2)) U W rx Y O
     rw[g,k]at this
     rw[show eqN (n+1) (.tup l) (.tup f)=_ from zcW l f]
     exact SeqAt.EqAt.of_refs i this
   .obtain⟨q,b,S,rfl,_,_,_,a⟩:=XN I C h r
    exact .tuple_list B a c
  .obtain⟨p,E,xs,rfl,M,P,T,B⟩:=XN I C w L
   rcases y2 t with o | ⟨f,rfl,J⟩ | ⟨f,rfl,J⟩
   .cases xc o h
    rw[(zaB l o).2.2.2]
    exact((X0 o r c).2 B).2
   .obtain⟨q,b,S,rfl,_,_,_,a⟩:=XZ I C h r
    exact .list_tuple B a c
   .obtain⟨q,b,S,rfl,G,m,bl,a⟩:=XN I C h r
    by_cases i:p=q
    .subst i
     rw[M]at w
     rw[G]at h
     rw[zgC (n+1) N t w h]
     exact .same _
    .have g:E.toArray.size=l.length:=by rw[List.size_toArray,<- P.length,T.length]
     have k:b.toArray.size=f.length:=by rw[List.size_toArray,<- m.length,bl.length]
     rw[show eqN (n+1) (.lst l) (.lst f)=_ from zcW l f]
     by_cases z:l.length=f.length
     .have:=SeqAt.RcAt.lists (A:=A) (e:=λj=>eqN n (l.getD j .non) (f.getD j .non)) B a (by rw[g,k,z]) c λj R g2=>by
       obtain⟨x',U,rx⟩:=T.nth P (j:=j) R
       obtain⟨y',W,Y⟩:=bl.nth m (j:=j) g2
       exact ih (x8 k1 (g ▸ R)) (x8 J (k ▸ g2)) U W rx Y O
      rw[g]at this
      rw[<-z,Nat.min_self,beq_self_eq_true,Bool.and_true]
      exact SeqAt.EqAt.of_refs i this
     .have:=SeqAt.RcAt.lists_lengths (A:=A) B a (by rw[g,k];exact bne_iff_ne.mpr z) c
      rw[beq_eq_false_iff_ne.mpr z,Bool.and_false]
      exact SeqAt.EqAt.of_refs i this
noncomputable def zl5 (d:D)(a:List D):Option Bool:=if okE 20 d=true/\a.all (okE 20)=true then some (a.any λe=>eqN 20 e d)else none
noncomputable def inD (d e:D):Option D:=(xE e).bind λa=>(zl5 d a).map .bl
open Classical in
noncomputable def zeD (F:Hp)(d:D)(u:Value):Bool:=decide (∃ a x,At F a x/\yl x u/\okE 20 a=true/\eqN 20 a d=true)
open Classical in
theorem zcL {F:Hp}{d b:D}{x:V}{u:Value}(a:At F b x)(r:yl x u)(k:okE 20 b=true):zeD F d u=eqN 20 b d:=by
 unfold zeD
 cases h:eqN 20 b d with
 | true=>exact decide_eq_true ⟨b,x,a,r,k,h⟩
 | false =>
  refine decide_eq_false ?_
  rintro⟨j,y,f,i,g,c⟩
  have e:=i.inj r
  subst e
  rw[zgP 20 g k f a]at c
  rw[c]at h
  cases h
theorem Xs {F:Hp}{d:D}:∀ {a:List D} {b:List V} {c:List Value},AtL F a b->zT b c->a.all (okE 20)=true->c.any (zeD F d)=a.any λe=>eqN 20 e d
 | [],_,_,al,r,_=>by cases al.nil_inv;cases r;rfl
 | e::a,_,_,al,r,k=>by
  obtain⟨x,b,rfl,g,f⟩:=al.cons_inv
  cases r with
  | cons h i =>
   rw[List.all_cons,Bool.and_eq_true]at k
   rw[List.any_cons,List.any_cons,zcL g h k.1,Xs f i k.2]
section
variable {X:Cx}
noncomputable def rInD (a:Bool):R2:=λx y H Q=>∃ F d e c b,zD F H/\At F d x/\At F e y/\xE e=some c/\zl5 d c=some b/\Q (.bl (if a then !b else b)) H
theorem zgH {k:Nat}(K:yL k X.A):OpR X (compareOp .In) (rInD false):=by
 intro C s σ H x y v u Q I O D h
 obtain⟨F,d,e,G,b,t,M,J,P,o,q⟩:=h
 unfold zl5 at o
 split at o <;> cases o
 rename_i m
 have N:X.A.in1.units+20 < cLine:=by have:=K.un;show X.A.units+1+20 < cLine;omega
 have l:∀ {g:List V} {n:List Value},AtL F G g->zT g n->∀ z∈n,SeqAt.EqAt X.A.in1 s z v (zeD F d z):=λ{g n} c r z f=>by
  obtain⟨j,L,rfl⟩:=List.getElem_of_mem f
  obtain⟨R,B,i⟩:=c.nth r L
  have A:j < G.length:=by have:=c.length;have:=r.length;omega
  have E:=x8 m.2 A
  rw[zcL B i E]
  exact zbZ I t 20 E m.1 B M i O N
 cases e <;> cases P
 .obtain⟨p,g,rfl,w,c⟩:=J.tup_inv
  cases D
  obtain⟨a,r,pl,f⟩:=I.tuple (SqT.of (t _ _ w))
  refine SeqAt.in_tupleAt (zeD F d) pl (λz f=>l c r z (by simpa using f)) ⟨.bl _,H,I,rfl,?_⟩
  rw[show a.toArray.any (zeD F d)=a.any (zeD F d) by simp,Xs c r m.2]
  exact q
 .obtain⟨p,g,rfl,w,c⟩:=J.lst_inv
  cases D
  obtain⟨a,r,pl,f⟩:=I.list (SqL.of (t _ _ w))
  refine SeqAt.in_listAt (zeD F d) pl.isList (λz f=>l c r z (by simpa using f)) ⟨.bl _,H,I,rfl,?_⟩
  rw[show a.toArray.any (zeD F d)=a.any (zeD F d) by simp,Xs c r m.2]
  exact q
theorem zgu:OpD (rInD false) inD:=by
 intro F H x y d e z Q s f g c q
 obtain⟨h,a,i⟩:=Option.bind_eq_some_iff.mp c
 obtain⟨b,j,rfl⟩:=Option.map_eq_some_iff.mp i
 exact⟨F,d,e,h,b,s,f,g,a,j,q F H _ (.refl s) .bl⟩
noncomputable def eqG (d e:D):Option Bool:=match d,e with
 | .tup _,.tup _=>if okE 20 d=true/\okE 20 e=true then some (eqN 20 d e)else none
 | .lst _,.lst _=>if okE 20 d=true/\okE 20 e=true then some (eqN 20 d e)else none
 | _,_=>eqS d e
noncomputable def we (d e:D):Option D:=(eqG d e).map .bl
noncomputable def zlu:R2:=λx y H Q=>∃ F d e,zD F H/\At F d x/\At F e y/\((∃ b a,d=.tup b/\e=.tup a)\/(∃ b a,d=.lst b/\e=.lst a))/\okE 20 d=true/\okE 20 e=true/\Q (.bl (eqN 20 d e)) H
theorem zj0 {k:Nat}(V:yL k X.A):OpR X (compareOp .Eq) zlu:=by
 intro L s σ H x y v u Q I t n h
 obtain⟨F,d,e,o,O,P,U,S,N,q⟩:=h
 have C:X.A.units+30 < cLine:=by have:=V.un;omega
 rcases U with ⟨c,g,rfl,rfl⟩ | ⟨c,g,rfl,rfl⟩
 .obtain⟨p,W,rfl,K,z⟩:=O.tup_inv
  obtain⟨R,Y,rfl,J,bl⟩:=P.tup_inv
  cases t
  cases n
  obtain⟨l,r,B,T⟩:=I.tuple (SqT.of (o _ _ K))
  obtain⟨b,A,i,G⟩:=I.tuple (SqT.of (o _ _ J))
  have a:l.toArray.size=c.length:=by rw[List.size_toArray,<- r.length,z.length]
  have f:b.toArray.size=g.length:=by rw[List.size_toArray,<- A.length,bl.length]
  refine SeqAt.eq_tupleAt (e:=λj=>eqN 19 (c.getD j .non) (g.getD j .non)) (show s.heap.IsTuple p l.toArray from B) (show s.heap.IsTuple R b.toArray from i) (by omega) (λj w g2=>?_) ⟨.bl _,H,I,rfl,?_⟩
  .obtain⟨Z,D,t⟩:=z.nth r (j:=j) (by simpa using w)
   obtain⟨y',E,n⟩:=bl.nth A (j:=j) (by simpa using g2)
   exact zbZ I o 19 (x8 S (by rw[<-a];exact w)) (x8 N (by rw[<-f];exact g2)) D E (by simpa using t) (by simpa using n) (Nat.lt_of_le_of_lt (show X.A.units+20<=X.A.units+30 from Nat.add_le_add_left (by decide) _) C)
  .rw[a,f,<- VT]
   exact q
 .obtain⟨p,W,rfl,K,z⟩:=O.lst_inv
  obtain⟨R,Y,rfl,J,bl⟩:=P.lst_inv
  cases t
  cases n
  obtain⟨l,r,B,T⟩:=I.list (SqL.of (o _ _ K))
  obtain⟨b,A,i,G⟩:=I.list (SqL.of (o _ _ J))
  have a:l.toArray.size=c.length:=by rw[List.size_toArray,<- r.length,z.length]
  have f:b.toArray.size=g.length:=by rw[List.size_toArray,<- A.length,bl.length]
  have M:eqN 20 (.lst c) (.lst g)=((List.range (min c.length g.length)).all (λj=>eqN 19 (c.getD j .non) (g.getD j .non))&&c.length == g.length):=by
   show((List.zipWith (eqN 19) c g).all id&&c.length == g.length)=_
   rw[VT]
  by_cases m:c.length=g.length
  .refine SeqAt.eq_listAt (e:=λj=>eqN 19 (c.getD j .non) (g.getD j .non)) B.isList i.isList (by rw[a,f];exact m) (Nat.lt_of_le_of_lt (Nat.le_add_right _ 30) C) (λj w g2=>?_) ⟨.bl _,H,I,rfl,?_⟩
   .obtain⟨Z,D,t⟩:=z.nth r (j:=j) (by simpa using w)
    obtain⟨y',E,n⟩:=bl.nth A (j:=j) (by simpa using g2)
    exact zbZ I o 19 (x8 S (by rw[<-a];exact w)) (x8 N (by rw[<-f];exact g2)) D E (by simpa using t) (by simpa using n) (Nat.lt_of_le_of_lt (show X.A.units+20<=X.A.units+30 from Nat.add_le_add_left (by decide) _) C)
   .rw[a]
    rw[M,<- m,Nat.min_self]at q
    simpa using q
  .refine SeqAt.eq_list_lengthsAt B.isList i.isList (by rw[a,f];simpa using m) (Nat.lt_of_le_of_lt (Nat.le_add_right _ 30) C) ⟨.bl _,H,I,rfl,?_⟩
   have:(c.length == g.length)=false:=by simpa using m
   rw[M,this,Bool.and_false]at q
   exact q
theorem ziL:OpD zlu (λd e=>match d,e with
 | .tup _,.tup _=>if okE 20 d=true/\okE 20 e=true then some (.bl (eqN 20 d e))else none
 | .lst _,.lst _=>if okE 20 d=true/\okE 20 e=true then some (.bl (eqN 20 d e))else none
 | _,_=>none):=by
 intro F H x y d e z Q s c f a q
 dsimp only at a
 split at a
 .split at a <;> cases a
  rename_i b
  exact⟨F,_,_,s,c,f,.inl ⟨_,_,rfl,rfl⟩,b.1,b.2,q F H _ (.refl s) .bl⟩
 .split at a <;> cases a
  rename_i b
  exact⟨F,_,_,s,c,f,.inr ⟨_,_,rfl,rfl⟩,b.1,b.2,q F H _ (.refl s) .bl⟩
 .cases a
theorem xW {k:Nat}(a:yL k X.A):OpR X (compareOp .Eq) (λx y H Q=>rEq x y H Q\/zlu x y H Q):=zjs.or (zj0 a)
theorem yV:OpD (λx y H Q=>rEq x y H Q\/zlu x y H Q) we:=by
 refine VL (Vh zgV ziL) λd e z h=>?_
 obtain⟨b,a,rfl⟩:=Option.map_eq_some_iff.mp h
 unfold eqG at a
 split at a
 .split at a <;> cases a
  rename_i c
  show(Option.or none (if okE 20 _=true/\okE 20 _=true then some (D.bl (eqN 20 _ _))else none))=_
  rw[if_pos c]
  rfl
 .split at a <;> cases a
  rename_i c
  show(Option.or none (if okE 20 _=true/\okE 20 _=true then some (D.bl (eqN 20 _ _))else none))=_
  rw[if_pos c]
  rfl
 .show((eqD d e).or _)=_
  unfold eqD
  rw[a]
  rfl
theorem zaM {d:List (Addr × Obj)}{σ:St}{H:Hp}{s:Shared}{a:Addr}{x:List V}{A:Around}{Q:Value->Shared->Prop}{E:Value->Shared->Prop}(I:Inv X d σ H s)(y:A.handled=none)(h:SqL X.K H a x\/SqT X.K H a x)
 (k:∀ (F:Addr) (c:List Value) (C D:List Addr) (St:Nat->Heap->Prop) (f:Shared),zT x c->Walks X.prog X.w A F C D c.length (λi v=>c[i]?=some v) St->St 0 f.heap->(∀ b∈C,b < f.heap.objs.size) ->
  (∀ (l:Heap) (q:Nat),(∀ b o,b∉D->f.heap.get? b=some o->l.get? b=some o)->Inv X d σ H { f with heap:=l,toks:=q })->Q (.ref F) f) :
 wpAny (model X.prog X.w) A (pyIter (.ref a)) Q E s:=by
 have g:∀ {o:Obj} {f:Shared},f={ s with heap:=s.heap.push o }->∀ (l:Heap) (q:Nat),(∀ b u,b∉[s.heap.objs.size]->f.heap.get? b=some u->l.get? b=some u)->Inv X d σ H { f with heap:=l,toks:=q }:=λ{o f} e l q kk=>by
  subst e
  exact I.kept (t':=q) λb u z=>kk b u (by simpa using Nat.ne_of_lt (Heap.lt_size z)) (Heap.get?_push_of_some _ z)
 rcases h with h | h
 .obtain⟨c,r,p,G⟩:=I.list h
  have m:a < s.heap.objs.size:=by obtain⟨o,n,t,_⟩:=p;exact Heap.lt_size t
  refine wpAny_pyIter_list p.isList ?_
  have W:=Walks.list (prog:=X.prog) (w:=X.w) (A:=A) y s.heap.objs.size a (Nat.ne_of_lt m) c.toArray
  refine k s.heap.objs.size c [s.heap.objs.size,a] [s.heap.objs.size] (λi h=>h.IsListIter s.heap.objs.size a i/\h.IsList a c.toArray) _ r (by simpa using W) ⟨⟨_,Heap.get?_push_size _ rfl,rfl,rfl⟩,p.isList.at λo e=>Heap.get?_push_of_some _ e⟩ (λb j=>?_) (g rfl)
  show b < (s.heap.push _).objs.size
  rw[Heap.size_push]
  rcases List.mem_cons.mp j with rfl | j
  .exact Nat.lt_succ_self _
  .rw[List.mem_singleton.mp j];exact Nat.lt_succ_of_lt m
 .obtain⟨c,r,p,G⟩:=I.tuple h
  have B:s.heap.IsTuple a c.toArray:=p
  have m:a < s.heap.objs.size:=by obtain⟨o,t,_⟩:=p;exact Heap.lt_size t
  refine wpAny_pyIter_tuple B ?_
  have W:=Walks.tuple (prog:=X.prog) (w:=X.w) (A:=A) y s.heap.objs.size a (Nat.ne_of_lt m) c.toArray
  refine k s.heap.objs.size c [s.heap.objs.size,a] [s.heap.objs.size] (λi h=>h.IsTupleIter s.heap.objs.size a i/\h.IsTuple a c.toArray) _ r (by simpa using W) ⟨⟨_,Heap.get?_push_size _ rfl,rfl,rfl⟩,B.at λo e=>Heap.get?_push_of_some _ e⟩ (λb j=>?_) (g rfl)
  show b < (s.heap.push _).objs.size
  rw[Heap.size_push]
  rcases List.mem_cons.mp j with rfl | j
  .exact Nat.lt_succ_self _
  .rw[List.mem_singleton.mp j];exact Nat.lt_succ_of_lt m
end
end Dl
namespace Dl
open PySem L2
variable [KK]
omit [KK] in
theorem zek {a:List Bool}:(List.range a.length).all (λi=>a.getD i false)=a.all id:=by
 have:a=(List.range a.length).map λi=>a.getD i false:=by
  apply List.ext_getElem
  .simp
  .intro i b c
   simp[b]
 conv=>rhs;rw[this]
 rw[List.all_map]
 rfl
omit [KK] in
theorem zel:∀ (ns:List Int) (n:Nat),n<=ns.length->preSum (λi=>ns.getD i 0) n=(ns.take n).sum:=by
 intro ns n
 induction n with
 | zero=>intro _;simp[preSum]
 | succ n a =>
  intro h
  show preSum (λi=>ns.getD i 0) n+ns.getD n 0=_
  rw[a (by omega),List.take_succ,List.sum_append]
  have:ns[n]?=some ns[n]:=by simp[show n < ns.length by omega]
  simp[this]
section
variable {X:Cx}
omit [KK] in
theorem ziE {b:List Bool}{a:List Value}{i:Nat}{v:Value}(r:zT (b.map V.bl) a)(h:a[i]?=some v):v=.bool (b.getD i false):=by
 have e:=r.length
 have f:i < a.length:=(List.getElem?_eq_some_iff.mp h).1
 rw[List.length_map]at e
 obtain⟨u,c,d⟩:=r.get (i:=i) (x:=.bl (b[i]'(by omega))) (by rw[List.getElem?_map];simp[show i < b.length by omega])
 rw[h]at c
 cases c
 cases d
 simp[show i < b.length by omega]
omit [KK] in
theorem zfv {ns:List Int}{a:List Value}{i:Nat}{v:Value}(r:zT (ns.map V.int) a)(h:a[i]?=some v):∃ t,v=.int (ns.getD i 0) t:=by
 have d:=r.length
 have e:i < a.length:=(List.getElem?_eq_some_iff.mp h).1
 rw[List.length_map]at d
 obtain⟨u,b,c⟩:=r.get (i:=i) (x:=.int (ns[i]'(by omega))) (by rw[List.getElem?_map];simp[show i < ns.length by omega])
 rw[h]at b
 cases b
 obtain⟨t,rfl⟩:=c
 exact⟨t,by simp[show i < ns.length by omega]⟩
theorem WH (o:X.calm=true):wb X (.builtin "all") (λe H Q=>∃ (p:Addr) (b:List Bool),e=[.ref p]/\(SqL X.K H p (b.map V.bl)\/SqT X.K H p (b.map V.bl))/\Q (.bl (b.all id)) H):=by
 intro d s σ H e D Q I r h
 obtain⟨p,b,rfl,k,q⟩:=h
 obtain⟨u,rfl,y⟩:=YS r
 cases y
 refine call_all_walk (zaM I (I.ok.hd o) k λt x l m St C c W w n a=>?_)
 have f:=c.length
 rw[List.length_map]at f
 refine⟨t,l,m,_,_,St,λi=>b.getD i false,rfl,W,w,λi v s Q E B j=>?_,λz A g=>⟨.bl _,H,a z A g,rfl,?_⟩⟩
 .rw[ziE c B]
  exact wpAny_truthy_bool j
 .rw[<-f,zek]
  exact q
theorem zcF (t:X.calm=true):wb X (.builtin "sum") (λe H Q=>∃ (p:Addr) (ns:List Int),e=[.ref p]/\(SqL X.K H p (ns.map V.int)\/SqT X.K H p (ns.map V.int))/\Q (.int ns.sum) H):=by
 intro d s σ H e C Q I r h
 obtain⟨p,ns,rfl,n,q⟩:=h
 obtain⟨u,rfl,j⟩:=YS r
 cases j
 refine call_sum_walkG (zaM I (I.ok.hd t) n λx A m o St B c W y b a=>?_)
 have f:=c.length
 rw[List.length_map]at f
 refine⟨x,m,o,_,_,St,λi=>ns.getD i 0,rfl,W,y,b,λi v w=>zfv c w,λk l z g=>⟨.int ns.sum,H,a k l g,?_,q⟩⟩
 refine⟨z,?_⟩
 rw[<-f,zel ns _ (Nat.le_refl _),List.take_length]
noncomputable def ziN:List D->Option (List Bool)
 | []=>some []
 | .bl b::ds=>(ziN ds).map (b::·)
 | _=>none
noncomputable def ziH:List D->Option (List Int)
 | []=>some []
 | .int b::ds=>(ziH ds).map (b::·)
 | _=>none
omit [KK] in
theorem zcR:∀ {b:List D} {a:List Bool},ziN b=some a->b=a.map .bl
 | [],a,h=>by cases h;rfl
 | d::b,a,h=>by
  cases d <;> try cases h
  obtain⟨e,c,rfl⟩:=Option.map_eq_some_iff.mp h
  rw[zcR c]
  rfl
omit [KK] in
theorem Vv:∀ {b:List D} {a:List Int},ziH b=some a->b=a.map .int
 | [],a,h=>by cases h;rfl
 | d::b,a,h=>by
  cases d <;> try cases h
  obtain⟨e,c,rfl⟩:=Option.map_eq_some_iff.mp h
  rw[Vv c]
  rfl
omit [KK] in
theorem ze3 (a:List Bool):ziN (a.map .bl)=some a:=by
 induction a with
 | nil=>rfl
 | cons b r c=>show(ziN (r.map .bl)).map (b::·)=_;rw[c];rfl
omit [KK] in
theorem zfh (a:List Int):ziH (a.map .int)=some a:=by
 induction a with
 | nil=>rfl
 | cons b r c=>show(ziH (r.map .int)).map (b::·)=_;rw[c];rfl
theorem AtL.of_bls {H:Hp}:∀ {ns:List Bool} {a:List V},AtL H (ns.map D.bl) a->a=ns.map V.bl
 | [],_,h=>h.nil_inv
 | n::r,_,h=>by
  obtain⟨x,d,rfl,c,b⟩:=AtL.cons_inv (by simpa using h)
  rw[c.bl_inv,AtL.of_bls b]
  rfl
noncomputable def zlm {α:Type}(a:List D->Option α)(g:α->Option D):List D->Option D
 | [d]=>((xE d).bind a).bind g
 | _=>none
theorem zdC {K:W.Frag}{F H:Hp}{l:List V}{k:List D}{z:D}{α:Type}{h:List D->Option α}{g:α->Option D}(s:zD F H)(q:AtL F k l)(e:zlm h g k=some z) :
 ∃ p f a b,l=[.ref p]/\(SqL K H p a\/SqT K H p a)/\AtL F f a/\h f=some b/\g b=some z:=by
 unfold zlm at e
 split at e
 .obtain⟨b,n,m⟩:=Option.bind_eq_some_iff.mp e
  obtain⟨f,t,j⟩:=Option.bind_eq_some_iff.mp n
  obtain⟨x,r,rfl,i,o⟩:=q.cons_inv
  cases o.nil_inv
  rename_i d
  cases d <;> cases t
  .obtain⟨p,a,rfl,c,bl⟩:=i.tup_inv
   exact⟨p,_,a,b,rfl,.inr (SqT.of (s _ _ c)),bl,j,m⟩
  .obtain⟨p,a,rfl,c,bl⟩:=i.lst_inv
   exact⟨p,_,a,b,rfl,.inl (SqL.of (s _ _ c)),bl,j,m⟩
 .cases e
noncomputable def ziZ:=zlm ziN λa=>some (.bl (a.all id))
noncomputable def zlR:=zlm ziH λns=>some (.int ns.sum)
theorem zdo {K:W.Frag}:CaD (λc H Q=>∃ (p:Addr) (a:List Bool),c=[.ref p]/\(SqL K H p (a.map V.bl)\/SqT K H p (a.map V.bl))/\Q (.bl (a.all id)) H) ziZ:=by
 intro F H j h z Q s f e q
 obtain⟨p,i,c,a,rfl,b,bl,d,g⟩:=zdC (K:=K) s f e
 cases g
 rw[zcR d]at bl
 rw[bl.of_bls]at b
 exact⟨p,a,rfl,b,q F H _ (.refl s) .bl⟩
theorem zin {K:W.Frag}:CaD (λb H Q=>∃ (p:Addr) (ns:List Int),b=[.ref p]/\(SqL K H p (ns.map V.int)\/SqT K H p (ns.map V.int))/\Q (.int ns.sum) H) zlR:=by
 intro F H j h z Q s d e q
 obtain⟨p,i,b,g,rfl,a,bl,c,f⟩:=zdC (K:=K) s d e
 cases f
 rw[Vv c]at bl
 rw[bl.of_ints]at a
 exact⟨p,g,rfl,a,q F H _ (.refl s) .int⟩
end
end Dl
namespace Dl
open PySem L2
variable [KK]
section
variable {X:Cx}{tg a b c e:Expr}{pos:Pos}
noncomputable def zipD:List D->List D->List D
 | x::xs,y::ys=>.tup [x,y]::zipD xs ys
 | _,_=>[]
noncomputable def Yj (f:Ev->Option (List D)):Ev->Option (List D):=fun ρ=>(f ρ).bind λc=>match c with
 | [d,e]=>(xE d).bind λa=>(xE e).bind λb=>if a.length<=b.length then some (zipD a b)else none
 | _=>none
noncomputable def xS (g:List D->Option (List D))(f:Ev->Option (List D))(b:D->SE->Option SE)(h:SE->Ctl):SE->Ctl:=fun ρ=>match (f (visG ρ)).bind g with
 | some a=>zdF b h a ρ
 | none=>.no
theorem zeU {p c:Pos} {b:List Stmt} {f:Ev->Option (List D)} {n:D->SE->Option SE} {g:SE->Ctl} (N:PassesOwn (model X.prog X.w) X.A X.env X.xe) (e:X.calm=true) (j:Gl X "range") (L:X.mg "range"=none) (I:AD X [a] f) (J:BD X tg n) (w:SDs X b g)
 (m:starEach [a] X.env=[(false,eval a X.env)]:=by rfl) (M:∀ x,foldedSetIterable (.Call (.Name "range" p) [a] [] pos) X.env x=pure x:=by intro _;rfl):SD X (.For tg (.Call (.Name "range" p) [a] [] pos) b [] c) (xS We f n g):=by
 obtain⟨t,v,r⟩:=I
 obtain⟨q,s,B⟩:=J
 obtain⟨Q,A,K⟩:=w
 refine⟨_,zc1 N e (zcr j L v m) s A M,λFb Hb F H ρ σ E i k=>?_⟩
 unfold xS at k
 cases h:(f (visG ρ)).bind We with
 | none=>rw[h]at k;exact k.elim
 | some O =>
  rw[h]at k
  obtain⟨C,z,d⟩:=Option.bind_eq_some_iff.mp h
  refine r σ _ _ H C _ i.gh i.visG z λF1 H1 P y G=>?_
  have l:=i.grow (i.back y).1
  unfold We at d
  split at d
  .split at d <;> cases d
   rename_i e
   obtain⟨x,R,rfl,o,u⟩:=G.cons_inv
   cases u.nil_inv
   exact⟨_,by rw[o.int_inv],(z4.mp e).1,(z4.mp e).2,zeo (zcM 0 _) B K l k⟩
  .cases d
theorem zfk {p e:Pos} {c:List Stmt} {f:Ev->Option (List D)} {s:D->SE->Option SE} {g:SE->Ctl} (S:PassesOwn (model X.prog X.w) X.A X.env X.xe) (d:X.calm=true) (l:Gl X "range") (Q:X.mg "range"=none) (N:AD X [a,b] f) (O:BD X tg s) (B:SDs X c g)
 (q:starEach [a,b] X.env=[(false,eval a X.env),(false,eval b X.env)]:=by rfl) (m:starEach [b] X.env=[(false,eval b X.env)]:=by rfl) (R:∀ x,foldedSetIterable (.Call (.Name "range" p) [a,b] [] pos) X.env x=pure x:=by intro _;rfl):SD X (.For tg (.Call (.Name "range" p) [a,b] [] pos) c [] e) (xS Yc f s g):=by
 obtain⟨t,A,r⟩:=N
 obtain⟨w,z,J⟩:=O
 obtain⟨V,I,P⟩:=B
 refine⟨_,zc1 S d (WG l Q A q m) z I R,λFb Hb F H ρ σ E j k=>?_⟩
 unfold xS at k
 cases h:(f (visG ρ)).bind Yc with
 | none=>rw[h]at k;exact k.elim
 | some T =>
  rw[h]at k
  obtain⟨K,G,i⟩:=Option.bind_eq_some_iff.mp h
  refine r σ _ _ H K _ j.gh j.visG G λF1 H1 U C L=>?_
  have o:=j.grow (j.back C).1
  unfold Yc at i
  split at i
  .split at i <;> cases i
   rename_i d
   obtain⟨x,M,rfl,u,n⟩:=L.cons_inv
   obtain⟨y,M,rfl,v,n⟩:=n.cons_inv
   cases n.nil_inv
   exact⟨_,_,by rw[u.int_inv,v.int_inv],⟨(z4.mp d.1).1,(z4.mp d.1).2,(z4.mp d.2).1,(z4.mp d.2).2⟩,zeo (zcM _ _) J P o k⟩
  .cases i
end
noncomputable def zb4 (K:W.Frag):Sp:=λb H Q _=>∃ (a:Addr) (ns:List Int),b=[.ref a]/\SqL K H a (ns.map V.int)/\ns.length<=63/\∀ H',Q (.bl true) H'
end Dl
namespace Dl
open PySem L2
theorem zjt {d:Addr}{P:Program}{w:World}{K:W.Frag}{c:Str->Option Value}{b:Heap}{f:Addr}{e:FuncData}{ps:List Str}{k:Nat}{p:List D->Option D}(F:xA P w K c b CX0 k f e ps (@spD ⟨K,d⟩ 1 p))(h:∀ ns:List Int,ns.length<=63->p [.scr ns]=some (.bl true)) :
 xA P w K c b CX0 k f e ps (zb4 K):=by
 letI:KK:=⟨K,d⟩
 refine F.imp λm H Q E l=>?_
 obtain⟨a,ns,rfl,g,j,q⟩:=l
 refine⟨[.scr ns],.bl true,H,rfl,zD.refl _,.cons ?_ .nil,h ns j,λF' H' v _ i=>?_⟩
 .unfold At
  exact⟨a,rfl,g⟩
 .rw[i.bl_inv]
  exact q H'
structure Def (K:W.Frag) (mg:Str->Option Value) (x:Str) (st:Stmt) (ps:List Str) (f:Addr) (fd:FuncData):Prop where
 fn:Fun K x x st f fd
 bd:xf K fd ps []
 at_:mg x=some (.ref f)
theorem Def.kp {K:W.Frag}{b:Str->Option Value}{x:Str}{a:Stmt}{e:List Str}{f:Addr}{c:FuncData}(d:Def K b x a e f c):W.keepIn K (.ref f)=true:=d.fn.kp
inductive Ctl.w:Ctl->(SE->Prop)->(SE->Prop)->(SE->Prop)->(D->Prop)->Prop where
 | nx {ρ:SE} {n b k:SE->Prop} {r:D->Prop}:n ρ->Ctl.w (.nx ρ) n b k r
 | bk {ρ:SE} {n b k:SE->Prop} {r:D->Prop}:b ρ->Ctl.w (.bk ρ) n b k r
 | ct {ρ:SE} {n b k:SE->Prop} {r:D->Prop}:k ρ->Ctl.w (.ct ρ) n b k r
 | rt {d:D} {n b k:SE->Prop} {r:D->Prop}:r d->Ctl.w (.rt d) n b k r
section
variable {ρ:SE}{d:D}{n b k:SE->Prop}{r:D->Prop}
theorem Ctl.w.nxi (h:Ctl.w (.nx ρ) n b k r):n ρ:=by cases h;assumption
theorem Ctl.w.bki (h:Ctl.w (.bk ρ) n b k r):b ρ:=by cases h;assumption
theorem Ctl.w.cti (h:Ctl.w (.ct ρ) n b k r):k ρ:=by cases h;assumption
theorem Ctl.w.rti (h:Ctl.w (.rt d) n b k r):r d:=by cases h;assumption
theorem Ctl.w.noi (h:Ctl.w .no n b k r):False:=by cases h
end
noncomputable abbrev noP:SE->Prop:=λ_=>False
section
variable {g h:SE->Ctl}{ρ ρ':SE}{n b k:SE->Prop}{r:D->Prop}
theorem wn (e:(g ρ).w (fun ρ'=>(h ρ').w n b k r) b k r):(zG g h ρ).w n b k r:=by
 unfold zG
 cases a:g ρ with
 | nx ρ'=>rw[a]at e;exact e.nxi
 | bk ρ'=>rw[a]at e;exact .bk e.bki
 | ct ρ'=>rw[a]at e;exact .ct e.cti
 | rt d=>rw[a]at e;exact .rt e.rti
 | no=>rw[a]at e;exact e.noi.elim
theorem zx (e:g ρ=.nx ρ')(q:(h ρ').w n b k r):(zG g h ρ).w n b k r:=wn (by rw[e];exact .nx q)
theorem VB (e:g ρ=.nx ρ')(q:n ρ'):(g ρ).w n b k r:=by rw[e];exact .nx q
theorem vM {d:D}(e:g ρ=.rt d)(q:r d):(g ρ).w n b k r:=by rw[e];exact .rt q
theorem zdE {t:Ev->Option Bool}{c:Bool}(e:t (visG ρ)=some c)(d:c=true->(g ρ).w n b k r)(a:c=false->(h ρ).w n b k r):(sIf t g h ρ).w n b k r:=by
 unfold sIf
 rw[e]
 cases c with
 | true=>exact d rfl
 | false=>exact a rfl
theorem w_fz {i:Nat}(e:zly ρ i=ρ')(q:(g ρ').w n b k r):(sFz i g ρ).w n b k r:=by
 unfold sFz
 rw[e]
 exact q
theorem zcj {l:D->SE->Option SE}(I:Nat->SE->Prop):∀ (c:List D) (j:Nat) (ρ:SE),I j ρ ->
 (∀ i d ρ,c[i]?=some d->I (j+i) ρ->∃ f,l d ρ=some f/\(g f).w (I (j+i+1)) n (I (j+i+1)) r)->(∀ ρ,I (j+c.length) ρ->n ρ)->(zdF l g c ρ).w n b k r
 | [],j,ρ,h0,_,fin=>.nx (fin ρ h0)
 | d::c,j,ρ,h0,step,fin=>by
  obtain⟨f,o,a⟩:=step 0 d ρ rfl h0
  unfold zdF
  rw[o]
  dsimp only
  have next:∀ ρ',I (j+1) ρ'->(zdF l g c ρ').w n b k r:=fun ρ' q=>zcj I c (j+1) ρ' q
   (λi m ρ p h=>by
    have:=step (i+1) m ρ (by simpa using p) (by rw[show j+(i+1)=j+1+i by omega];exact h)
    rwa[show j+(i+1)+1=j+1+i+1 by omega]at this)
   (fun ρ h=>fin ρ (by rw[List.length_cons,show j+(c.length+1)=j+1+c.length by omega];exact h))
  cases e:g f with
  | nx ρ'=>rw[e]at a;exact next ρ' a.nxi
  | ct ρ'=>rw[e]at a;exact next ρ' a.cti
  | bk ρ'=>rw[e]at a;exact .nx a.bki
  | rt m=>rw[e]at a;exact .rt a.rti
  | no=>rw[e]at a;exact a.noi.elim
theorem zeu {f:Ev->Option (List D)}{h:D->SE->Option SE}{ds:List D}(I:Nat->SE->Prop)(e:f (visF ρ)=some ds)(h0:I 0 ρ)
 (c:∀ i d ρ,ds[i]?=some d->I i ρ->∃ j,h d ρ=some j/\(g j).w (I (i+1)) n (I (i+1)) r) (fin:∀ ρ,I ds.length ρ->n ρ):(ZD f h g ρ).w n b k r:=by
 unfold ZD
 rw[e]
 exact zcj I ds 0 ρ h0 (λi d ρ l a=>by rw[Nat.zero_add]at a ⊢;exact c i d ρ l a) (fun ρ a=>fin ρ (by rw[Nat.zero_add]at a;exact a))
theorem zgA {f:Ev->Option (List D)}{m:D->SE->Option SE}{o:List D->Option (List D)}{lo:Int}{c:Nat}(I:Nat->SE->Prop)(e:(f (visG ρ)).bind o=some (Ze lo c))(h0:I 0 ρ)
 (j:∀ (i:Nat) ρ,i < c->I i ρ->∃ p,m (.int (lo+i)) ρ=some p/\(g p).w (I (i+1)) n (I (i+1)) r) (fin:∀ ρ,I c ρ->n ρ):(xS o f m g ρ).w n b k r:=by
 unfold xS
 rw[e]
 refine zcj I (Ze lo c) 0 ρ h0 (λi d ρ a h=>?_) (fun ρ h=>fin ρ ?_)
 .rw[Nat.zero_add]at h ⊢
  unfold Ze at a
  rw[List.getElem?_map]at a
  by_cases l:i < c
  .rw[List.getElem?_range l]at a
   cases a
   exact j i ρ l h
  .rw[List.getElem?_eq_none (by simpa using l)]at a
   cases a
 .rw[Nat.zero_add]at h
  rwa[show(Ze lo c).length=c by unfold Ze;simp]at h
end
theorem ZC {m:Nat}{g:SE->Ctl}{c:List D}{d:D}{ρ:SE}(e:c.map .v++List.replicate (m - c.length) .no=ρ)(q:(g ρ).w (λ_=>d=.non) noP noP (λb=>b=d)):fnD m g c=some d:=by
 unfold fnD
 rw[e]
 cases a:g ρ with
 | nx f=>rw[a]at q;rw[show d=.non from q.nxi]
 | rt b=>rw[a]at q;rw[show b=d from q.rti]
 | bk _=>rw[a]at q;exact q.bki.elim
 | ct _=>rw[a]at q;exact q.cti.elim
 | no=>rw[a]at q;exact q.noi.elim
theorem zg2 {m:Bool}{i:Nat}{f:Ev->Option D}{ρ:SE}{ds:List D}{d:D}(e:vEv m f ρ=some d)(c:ρ[i]?=some (.o ds))(a:ds.length<=1000):XU m i f ρ=.nx (ρ.set i (.o (ds++[d]))):=by
 unfold XU
 rw[e,c]
 show(match (if decide (ds.length < sizeLine)=true then some (ρ.set i (.o (ds++[d])))else none)with | some b=>Ctl.nx b | none=>Ctl.no)=_
 rw[if_pos (decide_eq_true (wB a))]
theorem YN {b:D->Option (List (Option D))}{t:Ev->Option Bool}{f:Ev->Option D}{ρ:Ev}{α:Type}(c:α->D)(y:α->D):∀ (a:List α),(∀ x∈a,∃ own,b (c x)=some own/\t (own++ρ)=some true/\f (own++ρ)=some (y x))->lcD b t f ρ (a.map c)=some (a.map y)
 | [],_=>rfl
 | x::a,h=>by
  obtain⟨own,e,i,g⟩:=h x List.mem_cons_self
  show lcD b t f ρ (c x::a.map c)=_
  unfold lcD
  rw[e]
  simp only[Option.bind_some,i,if_true,g,YN c y a λz d=>h z (List.mem_cons_of_mem _ d)]
  rfl
theorem Xe {b:D->Option (List (Option D))}{t:Ev->Option Bool}{f:Ev->Option D}{ρ:Ev}{α:Type}(c:α->D)(p:α->Bool)(y:α->D):∀ (a:List α),(∀ x∈a,∃ own,b (c x)=some own/\t (own++ρ)=some (p x)/\(p x=true->f (own++ρ)=some (y x)))->lcD b t f ρ (a.map c)=some ((a.filter p).map y)
 | [],_=>rfl
 | x::a,h=>by
  obtain⟨own,k,j,i⟩:=h x List.mem_cons_self
  have e:=Xe c p y a λz g=>h z (List.mem_cons_of_mem _ g)
  show lcD b t f ρ (c x::a.map c)=_
  unfold lcD
  rw[k]
  simp only[Option.bind_some,j]
  cases d:p x with
  | false =>
   rw[if_neg Bool.false_ne_true,e,List.filter_cons,if_neg (by rw[d];exact Bool.false_ne_true)]
  | true =>
   rw[if_pos rfl,i d,e,List.filter_cons,if_pos d]
   rfl
mutual
noncomputable def noS:D->Bool
 | .tup ds=>zeB ds
 | .lst ds=>zeB ds
 | .scr _=>false
 | .obj _ _ _=>false
 | _=>true
noncomputable def zeB:List D->Bool
 | []=>true
 | d::ds=>noS d&&zeB ds
end
theorem wd:∀ {ds:List D} {i:Nat} {d:D},zeB ds=true->ds[i]?=some d->noS d=true
 | [],_,_,_,h=>by simp at h
 | d::ds,i,e,h,he=>by
  unfold zeB at h
  rw[Bool.and_eq_true]at h
  cases i with
  | zero=>simp at he;subst he;exact h.1
  | succ i=>exact wd h.2 (by simpa using he)
theorem v1 {n:Nat}(h:n<=1000):lim n=true:=by
 unfold lim
 exact decide_eq_true (Nat.le_of_lt (wB h))
theorem Vz (a:Int)(n:Nat):(Ze a n).length=n:=by unfold Ze;simp
end Dl
namespace Dl
open PySem L2
noncomputable abbrev Pr:=Int × Int
noncomputable def prD (t:Pr):D:=.tup [.int t.1,.int t.2]
noncomputable def zll:D->Option Pr
 | .tup [.int a,.int b]=>some (a,b)
 | _=>none
noncomputable def VV:List D->Option (List Pr)
 | []=>some []
 | d::ds=>(zll d).bind λt=>(VV ds).map (t::·)
theorem zhi {d:D}{t:Pr}(h:zll d=some t):d=prD t:=by
 unfold zll at h
 split at h
 .cases h;rfl
 .cases h
theorem zaR:∀ {b:List D} {a:List Pr},VV b=some a->b=a.map prD
 | [],a,h=>by cases h;rfl
 | d::b,a,h=>by
  unfold VV at h
  obtain⟨t,f,c⟩:=Option.bind_eq_some_iff.mp h
  obtain⟨g,e,rfl⟩:=Option.map_eq_some_iff.mp c
  rw[zhi f,zaR e]
  rfl
theorem zea (a:List Pr):VV (a.map prD)=some a:=by
 induction a with
 | nil=>rfl
 | cons t a b =>
  show(zll (prD t)).bind (λu=>(VV (a.map prD)).map (u::·))=_
  rw[b]
  rfl
noncomputable def zi8 (a b:Pr):Bool:=!OwnSort.bltP b a
noncomputable def ZI (a:List Pr):List Pr:=a.mergeSort zi8
noncomputable def leI (a b:Int):Bool:=decide (a<=b)
noncomputable def zfg (ns:List Int):List Int:=ns.mergeSort leI
theorem Xc {a b:Pr}:OwnSort.bltP b a=false↔zi8 a b=true:=by unfold zi8;simp
theorem xK {a b:Pr}:zi8 a b=true↔a.1 < b.1\/(a.1=b.1/\a.2<=b.2):=by
 rw[<-Xc]
 unfold OwnSort.bltP
 rw[decide_eq_false_iff_not]
 omega
theorem zbE {e d:List Pr}(p:d.Perm e)(h:d.Pairwise λa b=>OwnSort.bltP b a=false):d=ZI e:=by
 refine List.Perm.eq_of_pairwise (le:=λa b=>zi8 a b=true) (λa b _ _ g f=>?_) (h.imp λx=>Xc.mp x) ?_ (p.trans (List.mergeSort_perm _ _).symm)
 .rw[xK]at g f
  exact Prod.ext (by omega) (by omega)
 .exact List.pairwise_mergeSort (λa b c g f=>by rw[xK]at *;omega) (λa b=>by rw[Bool.or_eq_true,xK,xK];omega) _
theorem zbk {g f:List Int}(p:f.Perm g)(h:f.Pairwise (·<=·)):f=zfg g:=by
 refine List.Perm.eq_of_pairwise (le:=λa b=>leI a b=true) (λa b _ _ e d=>?_) (h.imp λx=>decide_eq_true x) ?_ (p.trans (List.mergeSort_perm _ _).symm)
 .unfold leI at e d
  rw[decide_eq_true_eq]at e d
  omega
 .exact List.pairwise_mergeSort (λa b c e d=>by unfold leI at *;rw[decide_eq_true_eq]at *;omega) (λa b=>by unfold leI;rw[Bool.or_eq_true,decide_eq_true_eq,decide_eq_true_eq];omega) _
noncomputable def VE:List D->Option (List D)
 | [.lst ds]=>if ds.length < 64 then match VV ds with
  | some a=>some ((ZI a).map prD)
  | none=>match ziH ds with
   | some ns=>some ((zfg ns).map .int)
   | none=>none
  else none
 | _=>none
variable [KK]
section
variable {X:Cx}{e:Expr}{pos:Pos}
theorem At.pr_inv {F:Hp}{t:Pr}{v:V}(h:At F (prD t) v):∃ a,v=.ref a/\F a=some (.tup [.int t.1,.int t.2]):=by
 obtain⟨a,f,rfl,e,b⟩:=h.tup_inv
 obtain⟨x,r,rfl,d,b⟩:=b.cons_inv
 obtain⟨y,r,rfl,c,b⟩:=b.cons_inv
 cases b.nil_inv
 cases d.int_inv
 cases c.int_inv
 exact⟨a,rfl,e⟩
theorem WC (hc:X.calm=true):wb X (.builtin "sorted") (λxs H Q=>∃ F p ys ds y,xs=[.ref p]/\zD F H/\H p=some (.lst ys)/\AtL F ds ys/\VE [.lst ds]=some y/\∀ l zs,H l=none->AtL F y zs->Q (.ref l) (upd H l (.lst zs))):=by
 intro R s σ H xs Z Q I r h
 obtain⟨F,p,ys,ds,y,rfl,sm,hp,Y,B,q⟩:=h
 obtain⟨u,rfl,ru⟩:=YS r
 cases ru
 obtain⟨c,rv,pl,hz⟩:=I.list (SqL.of hp)
 have k:c.length=ds.length:=by rw[<-rv.length,Y.length]
 unfold VE at B
 dsimp only at B
 split at B <;> try cases B
 rename_i P
 have fin:∀ (zs:List V) (e:List Value),zs.length < 64->zT zs e->AtL F y zs->EP X R σ Q (.ref (s.heap.objs.size+1)) { s with heap:=PyProof.Rows.sortedAll s.heap c e.toArray }:=λzs e m rz az=>by
  have hn:H (s.heap.objs.size+1)=none:=I.hok.fresh (Nat.le_succ _)
  obtain⟨ep,he⟩:=PyProof.Rows.sortedAll_at s.heap c e.toArray
  refine⟨.ref (s.heap.objs.size+1),upd H (s.heap.objs.size+1) (.lst zs),I.laid (t':=s.toks) (λb o z=>PyProof.Rows.sortedAll_old z) (Nat.le_succ _) ?_,rfl,q _ zs hn az⟩
  exact⟨Nat.le_of_lt (wB (by omega)),e,ep,rz,he⟩
 split at B
 .rename_i K a3
  cases B
  have G:=zaR a3
  subst G
  have A:∀ {v:Value},v∈c->∃ a t,v=.ref a/\t∈K/\F a=some (.tup [.int t.1,.int t.2])/\OwnSort.TP s.heap v t:=λ{v} S=>by
   obtain⟨j,hj,rfl⟩:=List.getElem_of_mem S
   have W:j < K.length:=by rw[List.length_map]at k;omega
   obtain⟨x,hx,ax⟩:=Y.get (i:=j) (d:=prD K[j]) (by rw[List.getElem?_map];simp[W])
   obtain⟨a,rfl,N⟩:=ax.pr_inv
   obtain⟨v,S,D⟩:=rv.get hx
   have e1:c[j]?=some c[j]:=by simp[hj]
   rw[S]at e1
   cases e1
   have e2:c[j]=.ref a:=D
   refine⟨a,K[j],e2,List.getElem_mem W,N,?_⟩
   obtain⟨Z,ru,⟨o,ho,L,n,hd⟩,_⟩:=I.tuple (SqT.of (sm _ _ N))
   obtain⟨u1,u2,rfl,r1,r2⟩:=zb8 ru
   obtain⟨t1,rfl⟩:=r1
   obtain⟨t2,rfl⟩:=r2
   exact⟨a,o,n,t1,t2,e2,ho,L,hd⟩
  refine OwnSort.own_sorted pl.isList (λv S=>let ⟨a,t,_,_,_,J⟩:=A S;⟨t,J⟩) (by omega) λO pm ri=>?_
  obtain⟨Z,l1,l2,l3⟩:=ri
  have a5:O.toList.length=K.length:=by rw[pm.length_eq,k,List.length_map]
  -- the values' addresses
  have T:∀ (e:List Value) (f:List Pr),e.length=f.length->(∀ w∈e,w∈c)->(∀ (i:Nat) v t,e[i]?=some v->f[i]?=some t->OwnSort.TP s.heap v t)->∃ zs:List V,zT zs e/\AtL F (f.map prD) zs:=by
   intro e
   induction e with
   | nil =>
    intro f m _ _
    cases f with
    | nil=>exact⟨[],.nil,.nil⟩
    | cons _ _=>simp at m
   | cons w e ih =>
    intro f m hm J
    cases f with
    | nil=>simp at m
    | cons t f =>
     obtain⟨zs,M,z2⟩:=ih f (by simpa using m) (λw' a4=>hm w' (List.mem_cons_of_mem _ a4)) (λi v t E C=>J (i+1) v t (by simpa using E) (by simpa using C))
     obtain⟨a,t',rfl,_,N,a0⟩:=A (hm w List.mem_cons_self)
     have et:t'=t:=a0.uniq (J 0 _ t rfl rfl)
     subst et
     exact⟨.ref a::zs,.cons rfl M,.cons (.tup N (.cons .int (.cons .int .nil))) z2⟩
  obtain⟨zs,M,z2⟩:=T O.toList Z l1 (λw hw=>pm.mem_iff.mp hw) l2
  have g:Z.Perm K:=by
   -- by the keys of the values
   have kv:∀ (e:List Value) (f:List Pr),e.length=f.length->(∀ (i:Nat) v t,e[i]?=some v->f[i]?=some t->OwnSort.TP s.heap v t)->f=e.map λv=>(OwnSort.keyP s.heap v).getD (0,0):=by
    intro e
    induction e with
    | nil=>intro f m _;cases f with
     | nil=>rfl
     | cons _ _=>simp at m
    | cons w e ih =>
     intro f m J
     cases f with
     | nil=>simp at m
     | cons t f =>
      rw[List.map_cons,OwnSort.keyP_of (J 0 w t rfl rfl),<- ih f (by simpa using m) λi v t E C=>J (i+1) v t (by simpa using E) (by simpa using C)]
      rfl
   rw[kv _ _ l1 l2,kv c K (by rw[k,List.length_map]) λi v t E C=>?_]
   .exact pm.map _
   .obtain⟨x,hx,ax⟩:=Y.get (i:=i) (d:=prD t) (by rw[List.getElem?_map,C];rfl)
    obtain⟨a,rfl,N⟩:=ax.pr_inv
    obtain⟨v',U,D⟩:=rv.get hx
    rw[E]at U
    cases U
    obtain⟨a6,a1,⟨o,ho,L,n,hd⟩,_⟩:=I.tuple (SqT.of (sm _ _ N))
    obtain⟨u1,u2,rfl,r1,r2⟩:=zb8 a1
    obtain⟨t1,rfl⟩:=r1
    obtain⟨t2,rfl⟩:=r2
    exact⟨a,o,n,t1,t2,D,ho,L,hd⟩
  have e3:=zbE g l3
  rw[e3]at z2
  have:=fin zs O.toList (by rw[M.length];rw[List.length_map]at P;omega) M z2
  simpa using this
 .split at B <;> try cases B
  rename_i ns a2
  have G:=Vv a2
  subst G
  have hI:PyProof.Rows.IntsAre c ns:=xV (by rw[<-Y.of_ints];exact rv)
  refine PyProof.Rows.sorted_ints pl.isList hI (by omega) λO a7 E C h3=>?_
  have e3:=zbk C h3
  subst e3
  have M:zT ((zfg ns).map V.int) O.toList:=WN E
  have:=fin ((zfg ns).map V.int) O.toList (by rw[List.length_map,C.length_eq];rw[List.length_map]at P;omega) M (.ints _)
  simpa using this
theorem zev {p:Pos} {f:Ev->Option (List D)} (n:X.calm=true) (d:Gl X "sorted") (G:X.mg "sorted"=none) (C:AD X [e] f)
 (E:starEach [e] X.env=(false,eval e X.env)::starEach [] X.env:=by rfl) (c:(backTo pos (starEach [] X.env)).any (·.1)=false:=by rfl):FL X (.Call (.Name "sorted" p) [e] [] pos) (fFn VE f):=by
 obtain⟨t,o,k⟩:=C
 refine⟨_,zN (WC n) d G Vb o (by decide) (by decide) E c,fun σ ρ F H z Q s u e q=>?_⟩
 obtain⟨j,y,h⟩:=Option.bind_eq_some_iff.mp e
 refine k σ ρ F H j _ s u y λF1 H1 I b A=>?_
 have a:=h
 unfold VE at a
 split at a
 .obtain⟨x,r,rfl,i,m⟩:=A.cons_inv
  cases m.nil_inv
  obtain⟨p,w,rfl,B,bl⟩:=i.lst_inv
  exact⟨F1,p,w,_,z,rfl,b.fh,b.fh _ _ B,bl,h,λl zs g v=>q _ _ _ _ (b.trans (Gr.hide b.fh g _)) (WP b g) (b.fh.free g) zf v⟩
 .cases a
end
end Dl
namespace Dl
open PySem L2
variable [KK]
section
variable {X:Cx}{a b:Expr}{pos:Pos}
theorem yh {a:List Stmt}:SDs X a sNo:=⟨_,zb7,λ_ _ _ _ _ _ _ _ h=>h.elim⟩
end
end Dl
namespace Dl
open PySem L2
variable [KK]
section
variable {X:Cx}{a e:Expr}
noncomputable def zcz (m:D->D->Option D)(f:Ev->Option D)(g:Ev->Option (List D)):Ev->Option D:=fun ρ=>(f ρ).bind λc=>(g ρ).bind λa=>match a with
 | [d]=>m c d
 | _=>none
end
end Dl
namespace Dl
open PySem L2
noncomputable def zlI:D->Option Key
 | .int i=>some (.inl i)
 | .str x=>some (.inr x)
 | _=>none
noncomputable def zgm:List D->Option (List Key)
 | []=>some []
 | d::ds=>(zlI d).bind λk=>(zgm ds).map (k::·)
noncomputable def keyT:D->Option (List Key)
 | .tup a=>zgm a
 | _=>none
noncomputable def zgW (t:Bool)(d:D):Option (List Key):=if t=true then keyT d else (zlI d).map ([·])
noncomputable def intQ:Int->Int->Bool
 | .ofNat a,.ofNat b=>Nat.beq a b
 | .negSucc a,.negSucc b=>Nat.beq a b
 | _,_=>false
theorem za6 {a b:Int}:intQ a b=true↔a=b:=by
 cases a with
 | ofNat a=>cases b with
  | ofNat b=>exact⟨λh=>(by rw[Nat.eq_of_beq_eq_true h]),λh=>(by cases h;exact Nat.beq_refl a)⟩
  | negSucc b=>exact⟨λh=>(by cases h),λh=>(by cases h)⟩
 | negSucc a=>cases b with
  | ofNat b=>exact⟨λh=>(by cases h),λh=>(by cases h)⟩
  | negSucc b=>exact⟨λh=>(by rw[Nat.eq_of_beq_eq_true h]),λh=>(by cases h;exact Nat.beq_refl a)⟩
noncomputable def zgk:Key->Key->Bool
 | .inl i,.inl j=>intQ i j
 | .inr a,.inr b=>decide (a=b)
 | _,_=>false
noncomputable def zlo:List Key->List Key->Bool
 | [],[]=>true
 | a::r,b::s=>match zgk a b with
  | true=>zlo r s
  | false=>false
 | _,_=>false
theorem Wr {a b:Key}:zgk a b=true↔a=b:=by
 cases a with
 | inl i=>cases b with
  | inl j=>exact⟨λh=>(by rw[za6.mp h]),λh=>(by cases h;exact za6.mpr rfl)⟩
  | inr b=>exact⟨λh=>(by cases h),λh=>(by cases h)⟩
 | inr i=>cases b with
  | inl j=>exact⟨λh=>(by cases h),λh=>(by cases h)⟩
  | inr b=>exact⟨λh=>(by rw[of_decide_eq_true h]),λh=>(by cases h;exact decide_eq_true rfl)⟩
theorem zaU {x y:List Key}:zlo x y=true↔x=y:=by
 induction x generalizing y with
 | nil=>cases y with
  | nil=>exact⟨λ_=>rfl,λ_=>rfl⟩
  | cons b s=>exact⟨λh=>(by cases h),λh=>(by cases h)⟩
 | cons a r c=>cases y with
  | nil=>exact⟨λh=>(by cases h),λh=>(by cases h)⟩
  | cons b s =>
   show(match zgk a b with | true=>zlo r s | false=>false)=true↔_
   cases h:zgk a b with
   | true=>rw[Wr.mp h];exact c.trans ⟨λh=>(by rw[h]),λh=>(by cases h;rfl)⟩
   | false=>exact⟨λh=>(by cases h),λe=>(by cases e;rw[Wr.mpr rfl]at h;cases h)⟩
noncomputable def zdY (x y:List Key):Decidable (x=y):=match h:zlo x y with
 | true=>.isTrue (zaU.mp h)
 | false=>.isFalse λe=>by rw[zaU.mpr e]at h;cases h
noncomputable def Yu:List (List Key)->List D->List Key->Option D
 | k'::ks,v::vs,k=>@ite _ (k'=k) (zdY k' k) (some v) (Yu ks vs k)
 | _,_,_=>none
noncomputable def zli:List (List Key)->List D->List Key->D->List D
 | k'::ks,v::vs,k,d=>(@ite _ (k'=k) (zdY k' k) d v)::zli ks vs k d
 | _,_,_,_=>[]
noncomputable def zc4 (a:List (List Key))(b:List D)(k:List Key):List (List Key):=if (Yu a b k).isSome=true then a else a++[k]
noncomputable def zcO (b:List (List Key))(a:List D)(k:List Key)(d:D):List D:=if (Yu b a k).isSome=true then zli b a k d else a++[d]
theorem WM {a k:List Key}{c:List (List Key)}{v:D}{b:List D}:Yu (a::c) (v::b) k=if a=k then some v else Yu c b k:=by
 show @ite _ (a=k) (zdY a k) (some v) (Yu c b k)=_
 by_cases h:a=k
 .rw[if_pos h,if_pos h]
 .rw[if_neg h,if_neg h]
section
variable [KK]
theorem VR {F:Hp}{d:D}{k:Key}{y:V}(h:zlI d=some k)(a:At F d y):y=kV k:=by
 cases d with
 | int i=>cases h;exact a.int_inv
 | str x=>cases h;exact a.str_inv
 | _=>cases h
theorem zaA {F:Hp}:∀ {b:List D} {c:List Key} {e:List V},zgm b=some c->AtL F b e->e=c.map kV
 | [],_,_,h,a=>by cases h;exact a.nil_inv
 | d::b,_,_,h,a=>by
  obtain⟨k,l,j⟩:=Option.bind_eq_some_iff.mp h
  obtain⟨r,g,rfl⟩:=Option.map_eq_some_iff.mp j
  obtain⟨x,m,rfl,i,f⟩:=a.cons_inv
  rw[VR l i,zaA g f]
  rfl
theorem zet {F:Hp}{d:D}{k:List Key}{y:V}(h:keyT d=some k)(a:At F d y):∃ b,y=.ref b/\F b=some (.tup (k.map kV)):=by
 cases d with
 | tup f =>
  obtain⟨b,g,rfl,c,e⟩:=a.tup_inv
  rw[zaA (show zgm f=some k from h) e]at c
  exact⟨b,rfl,c⟩
 | _=>cases h
section
variable {κ:Type}[DecidableEq κ](f:κ->List Key)(hf:∀ a b,f a=f b->a=b)
include hf
theorem X7 {F:Hp}{k:κ}:∀ {b:List (κ × V)} {c:List D},AtL F c (b.map (·.2)) ->
 (∀ d,Yu (b.map λp=>f p.1) c (f k)=some d->∃ x,zaz b k=some x/\At F d x)/\(Yu (b.map λp=>f p.1) c (f k)=none->zaz b k=none)
 | [],_,_=>⟨λd h=>(by cases h),λ_=>rfl⟩
 | p::b,[],a=>by cases a.nil_inv
 | p::b,v::c,a=>by
  obtain⟨x,r,e,i,g⟩:=a.cons_inv
  cases e
  have j:=X7 (k:=k) g
  by_cases h:p.1=k
  .rw[YC h]
   have e:Yu ((p::b).map λp=>f p.1) (v::c) (f k)=some v:=by
    rw[List.map_cons,WM,if_pos (by rw[h])]
   rw[e]
   exact⟨λd z=>(by cases z;exact⟨_,rfl,i⟩),λz=>(by cases z)⟩
  .rw[Yv h]
   have e:Yu ((p::b).map λp=>f p.1) (v::c) (f k)=Yu (b.map λp=>f p.1) c (f k):=by
    rw[List.map_cons,WM,if_neg (λz=>h (hf _ _ z))]
   rw[e]
   exact j
theorem zfn {F:Hp}{k:κ}{b:List (κ × V)}{c:List D}(a:AtL F c (b.map (·.2))):(Yu (b.map λp=>f p.1) c (f k)).isSome=(zaz b k).isSome:=by
 obtain⟨i,g⟩:=X7 f hf (k:=k) a
 cases h:Yu (b.map λp=>f p.1) c (f k) with
 | none=>rw[g h];rfl
 | some d=>obtain⟨x,e,_⟩:=i d h;rw[e];rfl
theorem zdn {F:Hp}{k:κ}{d:D}{y:V}(i:At F d y):∀ {b:List (κ × V)} {g:List D},AtL F g (b.map (·.2)) ->
 AtL F (zli (b.map λp=>f p.1) g (f k) d) ((b.map λc=>if c.1=k then (c.1,y)else c).map (·.2))
 | [],_,_=>by unfold zli;exact .nil
 | p::b,[],a=>by cases a.nil_inv
 | p::b,v::g,a=>by
  obtain⟨x,r,e,j,m⟩:=a.cons_inv
  cases e
  have l:=zdn (k:=k) i m
  rw[List.map_cons,List.map_cons]
  refine AtL.cons ?_ l
  by_cases h:p.1=k
  .rw[if_pos h,if_pos (by rw[h])];exact i
  .rw[if_neg h,if_neg (λz=>h (hf _ _ z))];exact j
theorem zep {F:Hp}{k:κ}{d:D}{y:V}(g:At F d y){b:List (κ × V)}{c:List D}(a:AtL F c (b.map (·.2))) :
 (zab b k y).map (λp=>f p.1)=zc4 (b.map λp=>f p.1) c (f k)/\AtL F (zcO (b.map λp=>f p.1) c (f k) d) ((zab b k y).map (·.2)):=by
 unfold zab zc4 zcO
 rw[zfn f hf a,X5]
 cases h:(zaz b k).isSome with
 | true =>
  rw[if_pos rfl,if_pos rfl,if_pos rfl]
  refine⟨?_,zdn f hf g a⟩
  rw[List.map_map]
  refine List.map_congr_left λp _=>?_
  by_cases e:p.1=k
  .show f (if p.1=k then (p.1,y)else p).1=_;rw[if_pos e]
  .show f (if p.1=k then (p.1,y)else p).1=_;rw[if_neg e]
 | false =>
  rw[if_neg Bool.false_ne_true,if_neg Bool.false_ne_true,if_neg Bool.false_ne_true,List.map_append,List.map_append]
  exact⟨rfl,a.append (.cons g .nil)⟩
end
theorem zdz (a b:Key)(h:[a]=[b]):a=b:=by cases h;rfl
theorem zgI (a b:List Key)(h:a=b):a=b:=h
theorem zhf {F H:Hp}{a:Addr}{z t:Bool}{h:List (List Key)}{n:List V}{g:List D}{j:D}{k:List Key}{y:V}(s:zD F H)(c:XO F a z t h n)(m:AtL F g n)(f:zgW t j=some k)(i:At F j y) :
 ∃ o,zlZ H a y o/\(∀ d,Yu h g k=some d->∃ x,o=some x/\At F d x)/\(Yu h g k=none->o=none):=by
 obtain⟨u,c,l⟩:=(c.mono s).rd
 unfold zac at c
 unfold zgW at f
 cases t with
 | true =>
  rw[if_pos rfl]at c f
  obtain⟨e,rfl,rfl,rfl⟩:=c
  obtain⟨b,rfl,q⟩:=zet f i
  exact⟨_,.inr ⟨e,k,b,l,rfl,s _ _ q,rfl⟩,X7 (λk=>k) zgI m⟩
 | false =>
  rw[if_neg Bool.false_ne_true]at c f
  obtain⟨e,rfl,rfl,rfl⟩:=c
  obtain⟨p,r,rfl⟩:=Option.map_eq_some_iff.mp f
  rw[VR r i]
  exact⟨_,.inl ⟨e,p,l,rfl,rfl⟩,X7 (λk=>[k]) zdz m⟩
theorem zhs {F H:Hp}{a:Addr}{o:HO}{t:Bool}{f:List (List Key)}{r:List V}{i:List D}{n d:D}{k:List Key}{y v:V}{G:Hp}(h:H a=some o)(e:zac o t f r)(q:AtL F i r)(c:zgW t n=some k)(m:At G n y)(s:zD G H)(p:At F d v)
 (w:f.length < sizeLine):∃ u,zfw H a y v (upd H a u)/\zaJ F u (.m t (zc4 f i k) (zcO f i k d)):=by
 unfold zac at e
 unfold zgW at c
 cases t with
 | true =>
  rw[if_pos rfl]at e c
  obtain⟨g,rfl,rfl,rfl⟩:=e
  obtain⟨b,rfl,z⟩:=zet c m
  obtain⟨l,j⟩:=zep (λk=>k) zgI (k:=k) p q
  refine⟨_,zfw.t h (s _ _ z) (by simpa using w),_,?_,j⟩
  unfold zac
  rw[if_pos rfl]
  exact⟨_,rfl,l,rfl⟩
 | false =>
  rw[if_neg Bool.false_ne_true]at e c
  obtain⟨g,rfl,rfl,rfl⟩:=e
  obtain⟨x,A,rfl⟩:=Option.map_eq_some_iff.mp c
  rw[VR A m]
  obtain⟨l,j⟩:=zep (λk=>[k]) zdz (k:=x) p q
  refine⟨_,zfw.k h (by simpa using w),_,?_,j⟩
  unfold zac
  rw[if_neg Bool.false_ne_true]
  exact⟨_,rfl,l,rfl⟩
noncomputable def dgetD:D->D->Option D
 | .dct _ t ks vs,kd=>(zgW t kd).bind λk=>Yu ks vs k
 | _,_=>none
noncomputable def zlF (a:Bool):D->D->Option D
 | kd,.dct _ t ks vs=>(zgW t kd).map λk=>.bl (a != (Yu ks vs k).isSome)
 | _,_=>none
section
variable {X:Cx}{a b c:Expr}{pos apos:Pos}
noncomputable def rDIn (b:Bool):R2:=λx y H Q=>∃ a o,y=.ref a/\zlZ H a x o/\Q (.bl (b != o.isSome)) H
theorem zkQ {k:Nat}(d:yL k X.A):OpR X (compareOp .In) (rDIn false):=by
 intro b s σ H x y v u Q I e c h
 obtain⟨a,o,rfl,g,q⟩:=h
 obtain rfl:u=Value.ref a:=c
 exact d_in (zjU d) I g e λf I3=>⟨.bl o.isSome,H,I3,rfl,by simpa using q⟩
theorem zhV {a:Bool}:OpD (rDIn a) (zlF a):=by
 intro F H x y d e z Q s g j h q
 cases e with
 | dct u t c b =>
  obtain⟨k,i,rfl⟩:=Option.map_eq_some_iff.mp h
  obtain⟨p,v,rfl,f,m⟩:=j.dct_inv
  obtain⟨o,n,l,r⟩:=zhf s f m i g
  refine⟨p,o,rfl,n,?_⟩
  have e:(Yu c b k).isSome=o.isSome:=by
   cases h:Yu c b k with
   | none=>rw[r h];rfl
   | some d=>obtain⟨w,rfl,_⟩:=l d h;rfl
  rw[<-e]
  exact q F H _ (.refl s) .bl
 | _=>cases h
end
section
variable {X:Cx}{a e ko:Expr}{pos pos':Pos}{st:Stmt}
noncomputable def zh9 (t:Bool)(i:Nat):SE->Ctl:=fun ρ=>.nx (ρ.set i (.m t [] []))
theorem zh2 {t:Bool}{i:Nat}{x:Str}(d:X.N.Nodup)(j:X.N[i]?=some x)(f:Loc X.env.scope x)(c:swapsWith (.Dict [] [] pos) (some (.Name x pos')) pos.line X.env=pure false:=by rfl)
 (h:X.fn x=true\/X.env.scope.names.lookup x=some .local:=by first | exact .inl rfl | exact .inr rfl | assumption) {l:Pos} (c:swapsWith (.Dict [] [] l) (some (.Name x pos')) pos.line X.env=pure false:=by rfl):SD X (.Assign [.Name x pos'] (.Dict [] [] l) pos) (zh9 t i):=by
 have e:∀ (o:HO),zaJ (λ_=>none) o (.m t [] [])->∀ (Fb Hb F H:Hp) (ρ:SE) (σ:St) (E:Wg),Rl Fb Hb F H ρ σ->SOk Fb Hb E (zh9 t i ρ)->∀ p,H p=none->E.nx (σ.set i (some (.ref p))) (upd H p o):=λo m Fb Hb F H ρ σ E a k p b=>by
  have g:=Gr.hide a.gr.fh b o
  refine k F _ _ ((a.grow g).setW (a.notbase b) (a.gr.fh.free b) zf (m.mono λ_ _ z=>by cases z) (a.notown g b))
 cases t with
 | true =>
  refine⟨_,ww d j f zfX c h,λFb Hb F H ρ σ E a k=>?_⟩
  refine λp b=>e (.dT []) ⟨[],?_,.nil⟩ Fb Hb F H ρ σ E a k p b
  unfold zac
  rw[if_pos rfl]
  exact⟨[],rfl,rfl,rfl⟩
 | false =>
  refine⟨_,ww d j f zgl c h,λFb Hb F H ρ σ E a k=>?_⟩
  refine λp b=>e (.dK []) ⟨[],?_,.nil⟩ Fb Hb F H ρ σ E a k p b
  unfold zac
  rw[if_neg Bool.false_ne_true]
  exact⟨[],rfl,rfl,rfl⟩
noncomputable def zi0 (ρ:SE)(i:Nat)(a d:D):Option SE:=match ρ[i]? with
 | some (.m t ks vs)=>(zgW t a).bind λk=>if decide (ks.length < sizeLine)=true then some (ρ.set i (.m t (zc4 ks vs k) (zcO ks vs k d)))else none
 | _=>none
noncomputable def zci (m:Bool)(i:Nat)(a c:Ev->Option D):SE->Ctl:=fun ρ=>match (vEv m c ρ).bind λd=>(a (visG ρ)).bind λe=>zi0 ρ i e d with
 | some b=>.nx b
 | none=>.no
theorem ziM {k:Nat}{m:Bool}{i:Nat}{s u:Ev->Option D}(K:yL k X.A)(V:ED X e u)(O:PE X a (Yl i))(J:ED X ko s)(l:swapsWith e (some (.Subscript a ko pos')) pos.line X.env=pure false:=by rfl):SD X (.Assign [.Subscript a ko pos'] e pos) (zci m i s u):=by
 obtain⟨t,p,r⟩:=V
 obtain⟨tk,R,M⟩:=J
 refine⟨_,ziA (zjU K) O R p l,λFb Hb F H ρ σ E z k=>?_⟩
 unfold zci at k
 cases h:(vEv m u ρ).bind λd=>(s (visG ρ)).bind λB=>zi0 ρ i B d with
 | none=>rw[h]at k;exact k.elim
 | some ρ' =>
  rw[h]at k
  obtain⟨d,S,c⟩:=Option.bind_eq_some_iff.mp h
  obtain⟨B,Q,c⟩:=Option.bind_eq_some_iff.mp c
  unfold zi0 at c
  split at c
  .rename_i tt G vs l
   obtain⟨Y,L,n⟩:=Option.bind_eq_some_iff.mp c
   have C:decide (G.length < sizeLine)=true:=by
    cases I:decide (G.length < sizeLine) with
    | true=>rfl
    | false=>rw[I,if_neg Bool.false_ne_true]at n;cases n
   rw[if_pos C]at n
   cases n
   refine r.at z S λF' H' v g N=>?_
   have b:=z.grow g
   obtain⟨q,o,x,_⟩:=b.ows i _ l rfl
   refine⟨_,x,?_⟩
   refine M σ _ _ H' _ _ b.gh b.visG Q λF3 H3 v3 A w=>?_
   obtain⟨y,_⟩:=b.back A
   have j:=b.grow y
   obtain⟨q3,Z,f,_,_,U,xs,P,T⟩:=j.ows i _ l rfl
   rw[x]at f
   cases f
   obtain⟨o',W,hw⟩:=zhs U P T L w A.fh (N.mono y.ff) (of_decide_eq_true C)
   exact⟨q,_,rfl,W,k _ _ σ (j.mutW l rfl x hw)⟩
  .cases c
end
end
end Dl
namespace L2
open PySem PySem.Spec PyProof.Rows
section
variable {prog:Program}{w:World}{A:Around}{E:Value->Shared->Prop}{s:Shared}{d it:Addr}{o:Obj}{es:Array DictEntry}{ep i:Nat}
theorem raw_iter {Q:Value->Shared->Prop}(g:(d == sysModules)=false)(a:s.heap.get? d=some o)(e:o.ExactDict)(c:o.data=.dict es ep)
 (f:Q (.ref s.heap.objs.size) { s with heap:=s.heap.push { cls:=.type "dict_keyiterator",data:=.fields #[.ref d,.int 0 0,.int es.size 0,.int ep 0] } }):wpAny (model prog w) A (pyIter (.ref d)) Q E s:=by
 have b:s.TypeIs (.ref d) "dict":=⟨o,a,e.1⟩
 refine wpAny_pyIter_slot b PySem.F.slot_dict_iter (wpAny_call_entry PySem.F.slot_dict_iter b PySem.F.entry_dict_iter ?_ (PySem.F.args_dict_iter_1 _))
 unfold Builtin.«dict.__iter__»
 refine wpAny_bind ?_
 unfold Builtin.Dict.dictSlotNone
 refine wpAny_bind (wpAny_notOrdered_dict b ?_)
 show wpAny _ _ (pure (Value.ref d)) _ _ s
 refine wpAny_pure ?_
 show wpAny _ _ (Builtin.Dict.showsAll d>>=_) _ _ s
 unfold Builtin.Dict.showsAll
 rw[if_neg (by rw[g];exact Bool.false_ne_true)]
 refine wpAny_bind (wpAny_pure (wpAny_bind (wpAny_dictEntries a c (wpAny_bind (wpAny_dictEpoch a c ?_)))))
 refine wpAny_bind (wpAny_newObj_type (wpAny_pure ⟨_,rfl,"dict_keyiterator",_,⟨_,Heap.get?_push_size _ rfl,rfl⟩,PySem.F.slot_dict_keyiterator_next.lookup,?_⟩))
 simpa [rawInt]using f
theorem raw_next {e:DictEntry}{Q:Option Value->Shared->Prop}(a:s.heap.IsKeyIter it d i es.size ep)(k:s.heap.get? d=some o)(l:o.data=.dict es ep)(n:es[i]?=some e)
 (m:∀ h,h.IsKeyIter it d (i+1) es.size ep->Heap.SameBut it s.heap h->Q (some e.key) { s with heap:=h }):wpAny (model prog w) A (pyNext (.ref it)) Q E s:=by
 obtain⟨p,f,j,b⟩:=id a
 unfold pyNext
 refine wpAny_bind (wpAny_attempt (wpAny_callSpecial?_slot (name:=Str.ofString "__next__") a.typeIs PySem.F.slot_dict_keyiterator_next
  (wpAny_call_entry PySem.F.slot_dict_keyiterator_next a.typeIs PySem.F.entry_dict_keyiterator_next ?_ (PySem.F.args_dict_keyiterator_next_1 _))))
 refine wpAny_bind (wpAny_pure ?_)
 refine wpAny_bind ?_
 refine wpAny_bind ?_
 first | refine wpAny_bind (wpAny_typeNameOfWhole_keyiter a.typeIs (wpAny_pure ?_)) | refine wpAny_bind (wpAny_typeNameOf_keyiter a.typeIs (wpAny_pure ?_))
 refine wpAny_bind (wpAny_fieldsOf f b ?_)
 have g:Builtin.Dict_items.ownsTuple "dict_keyiterator"=false:=by decide
 simp only[g,Bool.false_eq_true,if_false]
 show wpAny _ _ (if (Value.ref d == Value.none)=true then _ else _) _ _ s
 rw[if_neg (show ¬ ((Value.ref d == Value.none)=true)from Bool.false_ne_true)]
 refine wpAny_bind (wpAny_pure (wpAny_bind (wpAny_dictEntries k l ?_)))
 rw[if_neg (by simp)]
 refine wpAny_bind (wpAny_pure (wpAny_bind (wpAny_dictEpoch k l ?_)))
 rw[if_neg (by simp)]
 refine wpAny_pure ?_
 simp only[show ¬ ((i:Int) < 0)from by omega,if_false,Int.toNat_natCast,n]
 refine wpAny_bind ?_
 first | refine wpAny_bind (wpAny_typeNameOfWhole_keyiter a.typeIs (wpAny_pure ?_)) | refine wpAny_bind (wpAny_typeNameOf_keyiter a.typeIs (wpAny_pure ?_))
 refine wpAny_bind (wpAny_isOneOf_keyiter a.typeIs ?_)
 show wpAny _ _ (setField (.ref it) 1 (rawInt ((i:Int)+1))>>=_) _ _ s
 refine wpAny_bind (wpAny_setField f b (by simp) ?_)
 have c:(s.heap.update it (Obj.mapFields (·.setIfInBounds 1 (rawInt ((i:Int)+1))))).IsKeyIter it d (i+1) es.size ep :=
  ⟨_,Heap.get?_update_self _ f (Obj.isFreed_of_fields (Obj.data_mapFields b _)),(Obj.cls_mapFields ..).trans j,by rw[Obj.data_mapFields b];simp[rawInt]⟩
 refine wpAny_bind (wpAny_holding ?_)
 refine wpAny_bind (wpAny_isOneOf_keyiter (s:={ s with heap:=s.heap.update it (Obj.mapFields (·.setIfInBounds 1 (rawInt ((i:Int)+1)))) }) c.typeIs ?_)
 show wpAny _ _ (pure e.key) _ _ _
 exact wpAny_pure (wpAny_pure ⟨_,rfl,wpAny_pure (m _ c (Heap.SameBut.update ..))⟩)
theorem raw_end {Q:Option Value->Shared->Prop}(l:A.handled=none)(c:s.heap.IsKeyIter it d i es.size ep)(h:s.heap.get? d=some o)(j:o.data=.dict es ep)(p:es.size<=i)
 (n:∀ k,Heap.ExtBut it s.heap k->Q none { s with heap:=k }):wpAny (model prog w) A (pyNext (.ref it)) Q E s:=by
 obtain⟨r,g,q,e⟩:=id c
 unfold pyNext
 refine wpAny_bind (wpAny_attempt (wpAny_callSpecial?_slot (name:=Str.ofString "__next__") c.typeIs PySem.F.slot_dict_keyiterator_next
  (wpAny_call_entry PySem.F.slot_dict_keyiterator_next c.typeIs PySem.F.entry_dict_keyiterator_next ?_ (PySem.F.args_dict_keyiterator_next_1 _))))
 refine wpAny_bind (wpAny_pure ?_)
 refine wpAny_bind ?_
 refine wpAny_bind ?_
 first | refine wpAny_bind (wpAny_typeNameOfWhole_keyiter c.typeIs (wpAny_pure ?_)) | refine wpAny_bind (wpAny_typeNameOf_keyiter c.typeIs (wpAny_pure ?_))
 refine wpAny_bind (wpAny_fieldsOf g e ?_)
 have f:Builtin.Dict_items.ownsTuple "dict_keyiterator"=false:=by decide
 simp only[f,Bool.false_eq_true,if_false]
 show wpAny _ _ (if (Value.ref d == Value.none)=true then _ else _) _ _ s
 rw[if_neg (show ¬ ((Value.ref d == Value.none)=true)from Bool.false_ne_true)]
 refine wpAny_bind (wpAny_pure (wpAny_bind (wpAny_dictEntries h j ?_)))
 rw[if_neg (by simp)]
 refine wpAny_bind (wpAny_pure (wpAny_bind (wpAny_dictEpoch h j ?_)))
 rw[if_neg (by simp)]
 refine wpAny_pure ?_
 simp only[show ¬ ((i:Int) < 0)from by omega,if_false,Int.toNat_natCast,Array.getElem?_eq_none p]
 refine wpAny_bind ?_
 first | refine wpAny_bind (wpAny_typeNameOfWhole_keyiter c.typeIs (wpAny_pure ?_)) | refine wpAny_bind (wpAny_typeNameOf_keyiter c.typeIs (wpAny_pure ?_))
 show wpAny _ _ (setField (.ref it) 0 .none>>=_) _ _ s
 refine wpAny_bind (wpAny_setField g e (by simp) ?_)
 show wpAny _ _ (newExc (.type "StopIteration") []>>=_) _ _ _
 refine wpAny_bind ?_
 simp only[newExc,newTuple]
 refine wpAny_bind (wpAny_newObj_type ?_ (by size_fits))
 refine wpAny_bind (m:=firstArgMember _ _) (wpAny_of_eq (a:=Value.none) (by first | rfl | (simp only[firstArgMember];rfl)) ?_)
 refine wpAny_newObj_type ?_ (by size_fits)
 simp only[raiseNew]
 refine wpAny_bind (wpAny_handled ?_)
 rw[show A.in1.handled=none from l]
 refine wpAny_bind (wpAny_pure (wpAny_throw ?_))
 refine wpAny_bind (wpAny_isInstance (T:="StopIteration") (b:=true) ⟨_,Heap.get?_push_size _ rfl,rfl⟩ isSubtype_stop ?_)
 exact wpAny_pure (n _ (((Heap.SameBut.update ..).extBut.push _).push _))
end
noncomputable def dLen:HO->Nat
 | .dK a=>a.length
 | .dT a=>a.length
 | _=>0
noncomputable def zfT (u:HO):Prop:=(∃ a,u=.dK a)\/∃ a,u=.dT a
section
variable {X:Cx}{tg:Expr}
theorem Inv.frz {a:List (Addr × Obj)}{σ:St}{H:Hp}{s:Shared}{p:Addr}{u:HO}(I:Inv X a σ H s)(e:H p=some u)(k:zfT u):∃ q,Inv X a σ (upd H p (.frz q u)) s:=by
 have ok:=I.hok p u e
 have j:Mut (H p):=by
  rw[e]
  rcases k with ⟨d,rfl⟩ | ⟨d,rfl⟩ <;> exact True.intro
 rcases k with ⟨d,rfl⟩ | ⟨d,rfl⟩
 .obtain⟨z,f,n,m,o,g,h,c,r⟩:=ok
  refine⟨o,I.write (h':=s.heap) (t':=s.toks) j (.inl rfl) (λb u _ e=>e) ⟨o,c⟩ ⟨c,z,f,n,m,o,g,h,c,r⟩⟩
 .obtain⟨z,f,t,l,o,g,h,c,r⟩:=ok
  refine⟨o,I.write (h':=s.heap) (t':=s.toks) j (.inl rfl) (λb u _ e=>e) ⟨o,c⟩ ⟨c,z,f,t,?_,o,g,h,c,r⟩⟩
  exact KT.keeps l λb v i=>by
   rw[ze (ziW i e (λz=>nomatch z))]
   exact i
noncomputable def tFrz (i:Nat)(t:TS):TS:=λE σ H=>∃ p u,σ[i]?=some (some (.ref p))/\H p=some u/\zfT u/\∀ a,t E σ (upd H p (.frz a u))
theorem zim {b:List Stmt}{t:TS}(i:Nat)(h:PSs X b t):PSs X b (tFrz i t):=by
 intro a s σ H E I q
 obtain⟨p,u,_,e,c,q⟩:=q
 obtain⟨d,I2⟩:=I.frz e c
 exact h a s σ _ E I2 (q d)
end
end L2
namespace Dl
open PySem L2
section
variable [KK]
theorem ziv {u:HO}{t:Bool}{b:List (List Key)}{c:List V}(h:zac u t b c):zfT u/\dLen u=b.length:=by
 unfold zac at h
 cases t with
 | true=>rw[if_pos rfl]at h;obtain⟨a,rfl,rfl,_⟩:=h;exact⟨.inr ⟨_,rfl⟩,by rw[List.length_map];rfl⟩
 | false=>rw[if_neg Bool.false_ne_true]at h;obtain⟨a,rfl,rfl,_⟩:=h;exact⟨.inl ⟨_,rfl⟩,by rw[List.length_map];rfl⟩
theorem Gr.see {F H:Hp}{b:Addr}{d:List V}(s:zD F H)(h:H b=some (.tup d)):∃ F',Gr F H F' H/\F' b=some (.tup d):=by
 cases e:F b with
 | some o =>
  have:=s _ _ e
  rw[h]at this
  cases this
  exact⟨F,.refl s,e⟩
 | none =>
  refine⟨upd F b (.tup d),⟨λp o z=>?_,λp o z=>?_,λp o f c=>⟨?_,c⟩⟩,zf⟩
  .rw[ze (zd z e)];exact z
  .by_cases a:p=b
   .subst a;rw[zf]at z;cases z;exact h
   .rw[ze a]at z;exact s p o z
  .by_cases a:p=b
   .subst a
    rw[h]at c
    cases c
    exact .inr ⟨⟨_,rfl⟩,zf⟩
   .exact .inl (by rw[ze a];exact f)
section
variable {X:Cx}{tg a b e k v:Expr}{pos pos':Pos}{sts:List Stmt}
noncomputable def zlY (i:Nat)(g:SE->Ctl):SE->Ctl:=fun ρ=>match ρ[i]? with
 | some (.m t ks vs)=>g (ρ.set i (.v (.dct true t ks vs)))
 | _=>.no
theorem Rl.fzM {Fb Hb F H:Hp}{ρ:SE}{σ:St}{i:Nat}{t:Bool}{M:List (List Key)}{J:List D}(r:Rl Fb Hb F H ρ σ)(h:ρ[i]?=some (.m t M J)) :
 ∃ p u,σ[i]?=some (some (.ref p))/\H p=some u/\zfT u/\∀ m,Rl Fb Hb (upd F p (.frz m u)) (upd H p (.frz m u)) (ρ.set i (.v (.dct true t M J))) σ:=by
 obtain⟨p,u,C,e2,V,e4,xs,R,Y⟩:=r.ows i _ h rfl
 refine⟨p,u,C,e4,(ziv R).1,λm=>?_⟩
 have S:i < ρ.length:=(List.getElem?_eq_some_iff.mp h).1
 have l:zD F (upd F p (.frz m u)):=λb o e=>by rw[ze (zd e V)];exact e
 have B:∀ {j:Nat} {s:Sl},(ρ.set i (.v (.dct true t M J)))[j]?=some s->s.isO=true->i≠j:=λ{j s} h c e=>by
  subst e
  rw[List.getElem?_set_self S]at h
  cases h
  cases c
 refine⟨⟨r.gr.ff.trans l,λb o z=>?_,λb o Z T=>?_⟩,λj d z=>?_,λj s z c=>?_,λj k q s s' g K P U h3 W=>?_,by simp[r.len],r.dk.step (λj x d' ps G=>?_) l λj x d' ps p' dx q vw vh ys f A L E I f6 O=>?_⟩
 .by_cases n:b=p
  .subst n;rw[zf]at z ⊢;exact z
  .rw[ze n]at z ⊢;exact r.gr.fh b o z
 .have n:b≠p:=zd T e2
  obtain⟨x,y⟩:=r.gr.kp b o Z T
  refine⟨?_,by rw[ze n];exact y⟩
  unfold Hid
  rw[ze n]
  exact x
 .by_cases a:i=j
  .subst a
   rw[List.getElem?_set_self S]at z
   cases z
   refine⟨_,C,?_⟩
   unfold At
   exact⟨p,xs,rfl,⟨u,R,by rw[if_pos rfl];exact⟨m,zf⟩⟩,Y.mono l⟩
  .rw[List.getElem?_set_ne a]at z
   obtain⟨v,f,A⟩:=r.vals j d z
   exact⟨v,f,A.mono l⟩
 .have a:=B z c
  rw[List.getElem?_set_ne a]at z
  obtain⟨q,y,f,A,L,E,I⟩:=r.ows j s z c
  have N:q≠p:=λw=>a (r.dis i j p _ s h z rfl c C (by rw[<-w];exact f))
  exact⟨q,y,f,A,by rw[ze N];exact L,by rw[ze N];exact E,I.mono l⟩
 .have X:=B g P
  have a2:=B K U
  rw[List.getElem?_set_ne X]at g
  rw[List.getElem?_set_ne a2]at K
  exact r.dis j k q s s' g K P U h3 W
 .have a:=B G rfl
  rw[List.getElem?_set_ne a]at G
  exact⟨G,rfl⟩
 .have n1:p'≠p:=λw=>by
   have a:=r.dis i j p _ _ h f rfl rfl C (by rw[<-w];exact A)
   subst a
   rw[h]at f
   cases f
  have Q:q≠p:=λw=>O i _ h rfl (by rw[w];exact C)
  refine⟨by rw[ze n1];exact L,E,by rw[ze Q];exact I,by rw[ze Q];exact f6,λk s g c=>?_⟩
  have a:=B g c
  rw[List.getElem?_set_ne a]at g
  exact O k s g c
theorem zeA {g:SE->Ctl}(i:Nat)(h:SDs X sts g):SDs X sts (zlY i g):=by
 obtain⟨t,p,r⟩:=h
 refine⟨_,zim i p,λFb Hb F H ρ σ E f k=>?_⟩
 unfold zlY at k
 split at k
 .rename_i n m l j
  obtain⟨q,u,a,e,d,b⟩:=f.fzM j
  exact⟨q,u,a,e,d,λc=>r Fb Hb _ _ _ σ E (b c) k⟩
 .exact k.elim
end
end
end Dl
namespace OwnRep
open PySem Builtin
theorem zhP {α:Type}{M:Model}{A:Around}{E:Value->Shared->Prop}{s:Shared}{c:Bool}{a b:Sem α}{Q:α->Shared->Prop}(d:c=false)(h:wpAny M A b Q E s):wpAny M A (if c=true then a else b) Q E s:=by rw[d,if_neg Bool.false_ne_true];exact h
theorem noFill_tuple_mul:fillsNumberSlot (.type "tuple") "mul"=pure false :=
 fillsNumberSlot_seq (id:="tuple.__mul__") (r:=some (.builtin "tuple.__rmul__")) F.slot_tuple_mul.lookup (by decide +kernel) F.slot_tuple_rmul.lookup (by decide +kernel)
theorem repeat_tuple:seqRepeat? (.type "tuple")=pure (some (.builtin "tuple.__mul__")):=by
 unfold seqRepeat?
 rw[seqSlot_of (T:="tuple") (name:="__mul__") (id:="tuple.__mul__") F.slot_tuple_mul.lookup (by decide +kernel),seqSlot_of (T:="tuple") (name:="__rmul__") (id:="tuple.__rmul__") F.slot_tuple_rmul.lookup (by decide +kernel)]
 rfl
theorem int_rmul_tuple (a:Int)(t:Tok)(l:Addr)(b:Array Value)(n:Nat)(e:Option Addr)(f:Array (Option Value)) :
 Meets (Builtin.«int.__rmul__» ⟨[.int a t,.ref l],[]⟩) (λ_ R s=>s.heap.get? l=some { cls:=.type "tuple",dict:=e,data:=.seq b n,slots:=f }/\R (.ok (.ret Value.notImplemented)) s) :=
 .of_wp λc w A R s h=>by obtain⟨k,g,d,i,os⟩:=s;obtain⟨j,h⟩:=h;wp_walk;exact⟨_,rfl,h⟩
theorem tmul_same (l:Addr)(a:Array Value)(n:Nat)(e:Option Addr)(i:Array (Option Value))(x:Int)(u:Tok)(b:(decide (x < -(2 ^ 63))||decide (x >= 2 ^ 63))=false)(f:(a.isEmpty||x == 1)=true) :
 Meets (Builtin.«tuple.__mul__» ⟨[.ref l,.int x u],[]⟩) (λ_ R s=>s.heap.get? l=some { cls:=.type "tuple",dict:=e,data:=.seq a n,slots:=i }/\R (.ok (.ret (Value.ref l))) s) :=
 .of_wp λc w A R s h=>by obtain⟨m,g,d,j,os⟩:=s;obtain⟨k,h⟩:=h;wp_walk;refine zhP b ?_;wp_walk;exact⟨_,rfl,h⟩
theorem tmul_none (l:Addr)(a:Array Value)(n:Nat)(e:Option Addr)(j:Array (Option Value))(x:Int)(u:Tok)(b:(decide (x < -(2 ^ 63))||decide (x >= 2 ^ 63))=false)(f:(a.isEmpty||x == 1)=false)(i:(decide (x<=0)||a.isEmpty)=true) :
 Meets (Builtin.«tuple.__mul__» ⟨[.ref l,.int x u],[]⟩) (λ_ R s=>s.heap.get? l=some { cls:=.type "tuple",dict:=e,data:=.seq a n,slots:=j }/\R (.ok (.ret (Value.ref s.heap.objs.size))) { s with heap:=s.heap.push { cls:=.type "tuple",data:=.seq #[] },toks:=s.toks }) :=
 .of_wp λc w A R s h=>by obtain⟨o,g,d,k,os⟩:=s;obtain⟨m,h⟩:=h;wp_walk;refine zhP b ?_;wp_walk;exact⟨_,rfl,h⟩
theorem tmul_some (l:Addr)(a:Array Value)(n:Nat)(j:Option Addr)(p:Array (Option Value))(x:Int)(u:Tok)(b:(decide (x < -(2 ^ 63))||decide (x >= 2 ^ 63))=false)(k:(a.isEmpty||x == 1)=false)(m:(decide (x<=0)||a.isEmpty)=false)(e:¬ (a.size:Int)*x > (2 ^ 63 - 1) / 8)(q:Builtin.Tuple.tupleTooMany ((a.size:Int)*x)=false)(o:(List.foldl (λf c=>f++c) #[] (List.replicate x.toNat a)).size<=sizeLine) :
 Meets (Builtin.«tuple.__mul__» ⟨[.ref l,.int x u],[]⟩) (λ_ R s=>s.heap.get? l=some { cls:=.type "tuple",dict:=j,data:=.seq a n,slots:=p }/\R (.ok (.ret (Value.ref s.heap.objs.size))) { s with heap:=s.heap.push { cls:=.type "tuple",data:=.seq (List.foldl (λf c=>f++c) #[] (List.replicate x.toNat a)) },toks:=s.toks }) :=
 .of_wp λi w A R s h=>by obtain⟨v,g,d,r,os⟩:=s;obtain⟨t,h⟩:=h;wp_walk;refine zhP b ?_;wp_walk;refine wpAny_ite_false (decide_eq_false e) ?_;wp_walk;exact⟨_,rfl,h⟩
end OwnRep
namespace L2
open PySem
section
variable {X:Cx}
noncomputable def zj7 (K:W.Frag):R2:=λx y H Q=>∃ a k b,x=.ref a/\y=.int k/\SqT K H a b/\b≠[]/\-(2 ^ 63)<=k/\k < 2 ^ 63/\b.length*k.toNat<=sizeLine /\
 (k=1->Q (.ref a) H)/\(k≠1->∀ p,H p=none->Q (.ref p) (upd H p (.tup (List.replicate k.toNat b).flatten)))
theorem zhF:OpR X (binaryOp .Mult) (zj7 X.K):=by
 intro i s σ H x y v u Q I Z O h
 obtain⟨a,k,N,rfl,rfl,Y,S,h1,h2,B,M,W⟩:=h
 cases Z
 obtain⟨t,rfl⟩:=O
 obtain⟨c,r,⟨⟨cls,l,J,z⟩,e,D,n,G⟩,_⟩:=I.tuple Y
 simp only at D G
 subst D G
 have j:c.toArray.isEmpty=false:=by
  cases c with
  | nil=>exact absurd (r.nil_iff.mp rfl) S
  | cons _ _=>rfl
 have f:(decide (k < -(2 ^ 63))||decide (k >= 2 ^ 63))=false:=by
  rw[decide_eq_false (by omega),decide_eq_false (by omega)];rfl
 have d:∀ m:Nat,List.foldl (λR K=>R++K) #[] (List.replicate m c.toArray)=(List.replicate m c).flatten.toArray:=λm=>by
  have:=Zx c m []
  rw[List.nil_append]at this
  exact this
 have hl:((List.replicate k.toNat c).flatten).length<=sizeLine:=by rw[zah,<- r.length,Nat.mul_comm];exact B
 have C:∀ {Q':Value->Shared->Prop},wpAny (model X.prog X.w) X.A (call (.builtin "tuple.__mul__") [.ref a,.int k t]) Q' X.xe s->wpAny (model X.prog X.w) X.A (binaryOp .Mult (.ref a) (.int k t)) Q' X.xe s:=λ{Q'} w =>
  wpAny_binaryOp_repeat_ref (T:="tuple") (U:="int") (by decide) ⟨_,e,rfl⟩ (λL=>typeIs_int L k t) OwnRep.noFill_tuple_mul F.fills_int_mul F.slot_int_rmul OwnRep.repeat_tuple F.slot_int_index.lookup
   (call_meets F.slot_int_rmul (typeIs_int s k t) F.entry_int_rmul (F.args_int_rmul_2 _ _) (OwnRep.int_rmul_tuple k t a c.toArray n l z) ⟨e,rfl,⟨_,e,rfl⟩,w⟩)
 by_cases p:k=1
 .exact C (call_meets F.slot_tuple_mul ⟨_,e,rfl⟩ F.entry_tuple_mul (F.args_tuple_mul_2 _ _) (OwnRep.tmul_same a c.toArray n l z k t f (by rw[p];simp)) ⟨e,⟨.ref a,H,I,rfl,M p⟩⟩)
 have g:(c.toArray.isEmpty||k == 1)=false:=by rw[j,Bool.false_or];exact beq_eq_false_iff_ne.mpr p
 have fin:∀ (A:List Value),A=(List.replicate k.toNat c).flatten->EP X i σ Q (.ref s.heap.objs.size) { s with heap:=s.heap.push { cls:=.type "tuple",data:=.seq A.toArray },toks:=s.toks }:=λA V=>by
  refine⟨.ref s.heap.objs.size,_,I.laid (t':=s.toks) (o:=.tup (List.replicate k.toNat N).flatten) (λb ob q=>Heap.get?_push_of_some _ q) (Nat.le_refl _) ?_,rfl,W p _ (I.hok.fresh (Nat.le_refl _))⟩
  refine⟨by rw[zah,Nat.mul_comm];exact B,A,?_,PyProof.Rows.IsTup.new _ _⟩
  rw[V]
  exact r.rep k.toNat
 by_cases E:k<=0
 .refine C (call_meets F.slot_tuple_mul ⟨_,e,rfl⟩ F.entry_tuple_mul (F.args_tuple_mul_2 _ _) (OwnRep.tmul_none a c.toArray n l z k t f g (by rw[decide_eq_true E];rfl)) ⟨e,fin [] ?_⟩)
  rw[show k.toNat=0 by omega]
  rfl
 .have P:(c.toArray.size:Int)*k<=(sizeLine:Int):=by
   have:((c.length*k.toNat:Nat):Int)<=(sizeLine:Int):=by rw[<-r.length];exact Int.ofNat_le.mpr B
   rw[Int.natCast_mul,Int.toNat_of_nonneg (by omega)]at this
   exact this
  refine C (call_meets F.slot_tuple_mul ⟨_,e,rfl⟩ F.entry_tuple_mul (F.args_tuple_mul_2 _ _) (OwnRep.tmul_some a c.toArray n l z k t f g (by rw[j,Bool.or_false];exact decide_eq_false E) ?_ ?_ ?_) ⟨e,?_⟩)
  .have:(sizeLine:Int)<=(2 ^ 63 - 1) / 8:=by decide
   omega
  .unfold Builtin.Tuple.tupleTooMany
   exact decide_eq_false (by omega)
  .rw[d,List.size_toArray]
   exact hl
  .rw[d]
   exact fin _ rfl
end
end L2
namespace Dl
open PySem L2
section
variable [KK]
noncomputable def zeQ:D->D->Option D
 | .tup a,.int k=>if a≠[]/\-(2 ^ 63)<=k/\k < 2 ^ 63/\lim (a.length*k.toNat)=true then some (.tup (List.replicate k.toNat a).flatten)else none
 | _,_=>none
theorem zeH {K:W.Frag}:OpD (zj7 K) zeQ:=by
 intro F H x y d e z Q s l m a q
 cases d <;> try cases a
 cases e <;> try cases a
 rename_i f k
 unfold zeQ at a
 dsimp only at a
 split at a <;> cases a
 rename_i c
 obtain⟨p,i,rfl,h,b⟩:=l.tup_inv
 refine⟨p,k,i,rfl,m.int_inv,SqT.of (s _ _ h),λe=>c.1 ?_,c.2.1,c.2.2.1,by rw[b.length];exact of_decide_eq_true c.2.2.2,λe=>?_,λ_ r j=>?_⟩
 .subst e
  exact List.length_eq_zero_iff.mp b.length.symm
 .subst e
  refine q F H _ (.refl s) ?_
  show At F (.tup (List.replicate 1 f).flatten) _
  rw[show(List.replicate 1 f).flatten=f by simp]
  exact .tup h b
 .have g:=Gr.alloc s j (.tup (List.replicate k.toNat i).flatten)
  exact q _ _ _ g (.tup zf ((b.rep _).mono g.ff))
section
variable {X:Cx}{a b:Expr}{pos:Pos}
theorem zhX {f h:Ev->Option D}(c:ED X a f)(d:ED X b h):ED X (.BinOp a .Mult b pos) (zh zeQ f h):=Zh zhF zeH c d
end
end
end Dl
namespace L2
open PySem PySem.Spec PyProof.Rows
section
variable {X:Cx}{a:Addr}{D:List (Str × KTD.Dat)}{nm:Str}{b:Expr}{p pos:Pos}{tb:TE}
noncomputable def zj1 (a:Addr)(D:List (Str × KTD.Dat)):R2:=λx y H Q=>∃ s,x=.str s/\y=.ref a/\Q (.bl (KTD.inKeys s D)) H
theorem zfo (T:∀ h:Heap,X.K.In h->KTD.TextTab h a D):OpR X (compareOp .In) (zj1 a D):=by
 intro b s σ H x y v u Q I d c h
 obtain⟨z,rfl,rfl,q⟩:=h
 obtain⟨t,rfl⟩:=d
 cases c
 exact KTD.in_text ⟨T _ I.kIn,λ_ _ e=>e⟩ ⟨.bl _,H,I.tok _,rfl,q⟩
end
noncomputable def KD {α:Type}:Sem α->Prop
 | .pure _=>True
 | .raise _=>True
 | .unsupported _=>True
 | .finish _=>True
 | .rule _ k=>KD (k ())
 | .at _ k=>KD (k ())
 | .load _ _ k=>∀ o,KD (k o)
 | .update _ _ f k=>(∀ o,(f o).dict=o.dict)/\KD (k ())
 | .loadIfAlive _ k=>∀ o,KD (k o)
 | .point _ k=>KD (k ())
 | .register _ _=>True
 | .alloc _ k=>∀ a,KD (k a)
 | .fresh k=>∀ t,KD (k t)
 | .ask k=>∀ x,KD (k x)
 | .handled _ k=>∀ x,KD (k x)
 | .stack k=>∀ x,KD (k x)
 | .thread k=>∀ n,KD (k n)
 | .choose _ _ _=>False
 | .os _ _ _=>False
 | .call _ _ _ _ _=>False
 | .newGen _ _=>False
 | .genState _ _=>False
 | .resume _ _ _ _=>False
 | .yield _ _ _ _=>False
 | .fork _ _=>False
 | .await _ _ _ _ _=>False
theorem zis {α β:Type}(f:α->Sem β)(i:∀ a,KD (f a)):∀ (m:Sem α),KD m->KD (m.bind f):=by
 intro m
 induction m with
 | pure a=>intro _;exact i a
 | raise e=>intro _;trivial
 | unsupported w=>intro _;trivial
 | finish e=>intro _;trivial
 | rule t k b=>intro h;exact b () h
 | «at» p k b=>intro h;exact b () h
 | load a p k b=>intro h o;exact b o (h o)
 | update a p g k b=>intro h;exact⟨h.1,b () h.2⟩
 | loadIfAlive a k b=>intro h o;exact b o (h o)
 | point l k b=>intro h;exact b () h
 | register a k b=>intro h;trivial
 | alloc o k b=>intro h a;exact b a (h a)
 | fresh k b=>intro h a;exact b a (h a)
 | ask k b=>intro h a;exact b a (h a)
 | handled o k b=>intro h a;exact b a (h a)
 | stack k b=>intro h a;exact b a (h a)
 | thread k b=>intro h a;exact b a (h a)
 | choose s n k b=>intro h;exact h.elim
 | os q l k b=>intro h;exact h.elim
 | call c h g l k b=>intro h;exact h.elim
 | newGen c k b=>intro h;exact h.elim
 | genState g k b=>intro h;exact h.elim
 | resume g r l k b=>intro h;exact h.elim
 | yield v g l k b=>intro h;exact h.elim
 | fork c k b=>intro h;exact h.elim
 | await a f d l k b=>intro h;exact h.elim
theorem zI {α β:Type}{m:Sem α}{f:α->Sem β}(c:KD m)(b:∀ a,KD (f a)):KD (m>>=f):=zis f b m c
noncomputable def DK (h c:Heap):Prop:=∀ (b:Nat) (o:Obj),h.objs[b]?=some o->∃ a:Obj,c.objs[b]?=some a/\a.dict=o.dict
theorem DK.refl (h:Heap):DK h h:=λ_ o e=>⟨o,e,rfl⟩
theorem DK.trans {f d c:Heap}(a:DK f d)(b:DK d c):DK f c:=λp o e=>by
 obtain⟨h,g,l⟩:=a p o e
 obtain⟨j,k,i⟩:=b p h g
 exact⟨j,k,i.trans l⟩
theorem DK.push (h:Heap)(o:Obj):DK h (h.push o):=λb u e=>by
 refine⟨u,?_,rfl⟩
 obtain⟨a,l⟩:=h
 show(a.push o)[b]?=some u
 have c:b < a.size:=(Array.getElem?_eq_some_iff.mp e).1
 rw[Array.getElem?_push_lt c]
 exact(Array.getElem?_eq_some_iff.mp e).2 ▸ rfl
theorem DK.update (h:Heap)(a:Addr){f:Obj->Obj}(d:∀ o,(f o).dict=o.dict):DK h (h.update a f):=λb u e=>by
 obtain⟨c,l⟩:=h
 show ∃ g,(c.modify a f)[b]?=some g/\_
 rw[Array.getElem?_modify]
 have e:c[b]?=some u:=e
 split
 .rw[e];exact⟨f u,rfl,d u⟩
 .rw[e];exact⟨u,rfl,rfl⟩
theorem zcA {h:Heap}{b:Addr}{o:Obj}(e:h.get? b=some o):h.objs[b]?=some o:=by
 unfold Heap.get? at e
 split at e
 .cases e
 .exact e
theorem DK.of {h c:Heap}{b:Addr}{o a:Obj}(k:DK h c)(e:h.get? b=some o)(g:c.get? b=some a):a.dict=o.dict:=by
 obtain⟨i,f,d⟩:=k b o (zcA e)
 rw[zcA g]at f
 cases f
 exact d
theorem zmw {α:Type}(M:Model)(Γ:PySem.Ctx):∀ (m:Sem α) (Q:α->Pos->Shared->Prop) (E:Value->Pos->Shared->Prop) (p:Pos) (s b:Shared),KD m->DK b.heap s.heap->Sem.wp M Γ m Q E p s ->
 Sem.wp M Γ m (λa p j=>Q a p j/\DK b.heap j.heap) (λe p j=>E e p j/\DK b.heap j.heap) p s:=by
 intro m
 induction m with
 | pure a=>intro Q E p s b _ k h;exact⟨h,k⟩
 | raise e=>intro Q E p s b _ k h;exact⟨h,k⟩
 | unsupported w=>intro Q E p s b _ k h;exact h
 | finish e=>intro Q E p s b _ k h;exact h
 | rule t k i=>intro Q E p s b c d h;exact i () Q E p s b c d h
 | «at» p k i=>intro Q E p s b c d h;exact i () Q E _ s b c d h
 | load a p k i =>
  intro Q E p s b c d h
  obtain⟨o,e,h⟩:=h
  exact⟨o,e,i o Q E p s b (c o) d h⟩
 | update a p g k i =>
  intro Q E p s b c d h
  obtain⟨e,h⟩:=h
  exact⟨e,i () Q E p _ b c.2 (d.trans (.update s.heap a c.1)) h⟩
 | loadIfAlive a k i=>intro Q E p s b c d h;exact i _ Q E p s b (c _) d h
 | point l k i=>intro Q E p s b c d h;exact i () Q E p s b c d h
 | register a k i=>intro Q E p s b c d h;exact h
 | alloc o k i=>intro Q E p s b c d h;exact i _ Q E p _ b (c _) (d.trans (.push s.heap o)) h
 | fresh k i=>intro Q E p s b c d h;exact i _ Q E p _ b (c _) d h
 | ask k i=>intro Q E p s b c d h;exact i _ Q E p s b (c _) d h
 | handled o k i=>intro Q E p s b c d h;exact i _ Q E p s b (c _) d h
 | stack k i=>intro Q E p s b c d h;exact i _ Q E p s b (c _) d h
 | thread k i=>intro Q E p s b c d h;exact i _ Q E p s b (c _) d h
 | choose s n k i=>intro Q E p s b c;exact c.elim
 | os q l k i=>intro Q E p s b c;exact c.elim
 | call c h g l k i=>intro Q E p s b c;exact c.elim
 | newGen c k i=>intro Q E p s b c;exact c.elim
 | genState g k i=>intro Q E p s b c;exact c.elim
 | resume g r l k i=>intro Q E p s b c;exact c.elim
 | yield v g l k i=>intro Q E p s b c;exact c.elim
 | fork c k i=>intro Q E p s b c;exact c.elim
 | await a f d l k i=>intro Q E p s b c;exact c.elim
theorem zjD {α:Type}{M:Model}{A:Around}{t:Sem α}{Q:α->Shared->Prop}{E:Value->Shared->Prop}{s:Shared}(c:KD t)(h:wpAny M A t Q E s) :
 wpAny M A t (λa b=>Q a b/\DK s.heap b.heap) (λe b=>E e b/\DK s.heap b.heap) s:=fun Γ p d=>zmw M Γ t _ _ p s s c (.refl _) (h Γ p d)
theorem Zl {α:Type}{M:Model}{A:Around}{t:Sem α}{Q Q':α->Shared->Prop}{E:Value->Shared->Prop}{s:Shared}(c:KD t)(h:wpAny M A t Q E s)(k:∀ a b,Q a b->DK s.heap b.heap->Q' a b):wpAny M A t Q' E s :=
 wpAny_mono (zjD c h) (λa b x=>k a b x.1 x.2) λ_ _ x=>x.1
theorem VM (v:Value):KD (fieldsOf v):=by
 unfold fieldsOf
 split
 .refine zI (λ_=>trivial) λo=>?_
  split <;> trivial
 .trivial
theorem Yw (v:Value)(i:Nat):KD (field v i):=by
 unfold field
 refine zI (VM v) λa=>?_
 split <;> trivial
theorem ZF (f:Array Value->Array Value)(o:Obj):(Obj.mapFields f o).dict=o.dict:=by
 obtain⟨c,d,x,s⟩:=o
 cases x <;> rfl
theorem vg (v:Value)(i:Nat)(x:Value):KD (setField v i x):=by
 unfold setField
 split
 .unfold updateField
  refine zI (λ_=>trivial) λo=>?_
  split
  .split
   .exact⟨ZF _,trivial⟩
   .trivial
  .trivial
 .trivial
theorem wG (e:Value)(f:Option Addr):KD (setFlight e f):=by
 unfold setFlight
 refine zI (Yw e 1) λa=>?_
 split
 .exact vg _ _ _
 .trivial
theorem Wv (ty:String)(b:List Value):KD (newFields ty b):=by
 have a:KD (newObjAsIs (Value.type ty) (Data.fields b.toArray)):=zI (λ_=>trivial) λ_=>trivial
 unfold newFields newObj
 show KD (if b.toArray.size > sizeLine+2 then _ else _)
 by_cases h:b.toArray.size > sizeLine+2
 .rw[if_pos h]
  exact zI (show KD (unsupported (α:=Unit) _)from trivial) λ_=>a
 .rw[if_neg h]
  exact a
theorem VU (a b c d e:Value)(pl:List Value):KD (EntryCells.newEntry a b c d e pl):=Wv _ _
theorem zfH (f:Addr)(b:Bool):KD (entryPlaceOf f b):=by
 unfold entryPlaceOf
 refine zI (λ_=>trivial) λa=>?_
 split <;> trivial
theorem Wn:KD frameEnvs:=by
 unfold frameEnvs
 exact zI (λ_=>trivial) λ_=>trivial
theorem zfm:∀ l:List Env,KD (readyFrames l):=by
 intro l
 induction l with
 | nil=>trivial
 | cons env outer a =>
  unfold readyFrames
  split
  .refine zI (λ_=>trivial) λo=>?_
   split
   .trivial
   .refine zI ?_ λb=>zI ?_ λbk=>zI ⟨λo=>rfl,trivial⟩ λ_=>a
    .unfold behindIsImport
     split
     .trivial
     .split
      .trivial
      .exact zI (Yw _ _) λ_=>trivial
    .unfold keptBack
     split
     .split
      .trivial
      .unfold underTheClaimsCaller
       exact zI (λ_=>trivial) λ_=>trivial
     .trivial
  .trivial
theorem zby (env:Env):KD (PySem.frameOf env):=by
 unfold PySem.frameOf
 refine zI Wn λl=>zI ?_ λo=>?_
 .unfold frameObject
  split
  .trivial
  .exact zI (zfm _) λ_=>trivial
 .split <;> trivial
theorem v5 (e:Value)(env:Env):KD (noteFrame e env):=by
 unfold noteFrame
 split
 .rename_i f c
  refine zI (Yw e 1) λa=>?_
  have b:KD (do setField e 1 (<- EntryCells.newEntry a (<- PySem.frameOf env) .none (rawInt f) .none (<- entryPlaceOf f (a != .none)))):=zI (zby env) λ_=>zI (zfH _ _) λ_=>zI (VU _ _ _ _ _ _) λ_=>vg _ _ _
  by_cases h:(a != Value.none)=true
  .dsimp only
   rw[if_pos h]
   refine zI (Yw a 3) λx=>?_
   split
   .trivial
   .exact zI (vg _ _ _) λ_=>b
  .dsimp only
   rw[if_neg h]
   exact b
 .trivial
theorem ZT (env:Env)(e:Value):KD (leaving env e):=zI (v5 e env) λ_=>wG e none
end L2
namespace L2
open PySem PySem.Spec PyProof.Rows
open Sem (wp)
section
variable {prog:Program}{w:World}{A:Around}{E:Value->Shared->Prop}{h:Heap}{g:Array GenState}{d:Drawn}{t:Nat}{os:OsState}
 {nm q:Str} {C N fI:Addr} {bs bm:List Value} {hdct:Bool} {sn:List Str} {sub:List Value} {ab:Bool} {col:Option Bool} {dd:Option Addr} {k0 k1 k2 k3 k5:Option Value} {mN:Str->Option Value} {us:List Value} {oI:Obj}
end
end L2
namespace L2
open PySem PySem.Spec PyProof.Rows
section
variable {prog:Program}{w:World}{A:Around}{E:Value->Shared->Prop}{s:Shared}{env:Env}
 {nm q:Str} {C N fI:Addr} {bs bm:List Value} {hdct:Bool} {sn:List Str} {sub:List Value} {ab:Bool} {col:Option Bool} {dd:Option Addr} {k0 k1 k2 k3 k5:Option Value} {mN:Str->Option Value} {oI:Obj}
end
end L2
namespace L2
open PySem PySem.Spec PyProof.Rows PySem.Builtin PySem.Builtin.ObjectAttr
noncomputable abbrev veV:List Value:=[.type "ValueError",.type "Exception",.type "BaseException",.type "object"]
noncomputable def zki:List Value->Bool
 | .ref _::r=>zki r
 | l=>l == veV
structure zjm (K:W.Frag) (C:Addr):Prop where
 cls:∃ cd,W.clsIn K C=some cd/\zki cd.mro=true/\cd.hasDict=true
 sa:W.findIn K (.ref C) "__setattr__"=some (some (.builtin "object.__setattr__"))
 ga:W.findIn K (.ref C) "__getattribute__"=some (some (.builtin "BaseException.__getattribute__"))
 gt:W.findIn K (.ref C) "__getattr__"=some none
 sb:W.subIn K (.ref C) (.type "BaseException")=some true
end L2
namespace L2
open PySem PySem.Spec PyProof.Rows
section
variable {P:Program}{w:World}{H H':Hp}{h h':Heap}{a:Addr}{o:HO}
theorem yb.ex (x:yb P w H h a o):∃ u,h.get? a=some u:=by
 cases o with
 | lst g=>obtain⟨_,_,_,_,e⟩:=x;exact⟨_,e⟩
 | tup g=>obtain⟨_,_,_,d,e,_⟩:=x;exact⟨_,e⟩
 | dK b=>obtain⟨_,_,_,_,o,_,_,e,_⟩:=x;exact⟨_,e⟩
 | dT b=>obtain⟨_,_,_,_,o,_,_,e,_⟩:=x;exact⟨_,e⟩
 | set S n=>obtain⟨o,_,_,_,e,_⟩:=x;exact⟨_,e⟩
 | ins C i c=>obtain⟨_,_,_,e,_⟩:=x;exact⟨_,e⟩
 | own y=>exact x
 | xd c=>obtain⟨_,⟨_,_,_,e,_⟩,_⟩:=x;exact⟨_,e⟩
 | rng k j=>obtain⟨_,_,_,e⟩:=x;exact⟨_,e⟩
 | frz d u=>obtain⟨e,_⟩:=x;exact⟨_,e⟩
 | tbl l=>exact⟨_,(show h.get? a=some _ from x)⟩
 | met f y=>exact⟨_,(show h.get? a=some _ from x)⟩
 | ext φ=>obtain⟨_,⟨_,e⟩,_⟩:=x;exact⟨_,e⟩
theorem HOk.stays (x:HOk P w H h)(k:∀ b u,H b≠none->h.get? b=some u->h'.get? b=some u):HOk P w H h':=λa o e =>
 (x a o e).stay (λb u c q=>k b u (by
  rcases c with rfl | c
  .rw[e];intro z;cases z
  .rw[c];intro z;cases z) q) (λ_ q=>q) λ_ _ q=>q
end
structure Cov (outer:List Env) (H:Hp) (h:Heap) (H':Hp) (h' B:Heap):Prop where
 old:∀ b o,h.get? b=some o->H b=none->b∉frs outer->B.get? b=some o
 there:∀ b o,h.get? b=some o->b∉frs outer->∃ o',B.get? b=some o'
 new:∀ b o,H' b≠none->h'.get? b=some o->B.get? b=some o
noncomputable def Ye (h:Heap)(a:Addr)(c:Option Addr):Prop:=∃ b,h.get? a=some b/\b.dict=c
theorem Ye.stay {h c:Heap}{a:Addr}{f:Option Addr}(d:Ye h a f)(k:DK h c)(e:∃ i,c.get? a=some i):Ye c a f:=by
 obtain⟨i,l,j⟩:=d
 obtain⟨b,g⟩:=e
 exact⟨b,g,(k.of l g).trans j⟩
noncomputable def Air (P:Program)(w:World):CXT:=λouter H s E e a =>
 ∃ (b C t:Addr) (c:Option Addr) (H':Hp) (B:Heap),e=.ref b/\a.os=s.os/\AllBare a.gens/\Un (frs outer) [] H H' s.heap a.heap/\HOk P w H' a.heap /\
  Heap.FlyingW B outer b (.ref C) (.ref t) a.heap/\Cov outer H s.heap H' a.heap B/\Ye a.heap b c/\E (.ref C) c H'
section
variable {X:Cx}{pins:List (Addr × Obj)}{σ:St}{H H':Hp}{s s':Shared}{E:XK}{e:Value}{M:Model}{E2:Value->Shared->Prop}
theorem Inv.airUn (l:X.ex=[])(I:Inv X pins σ H s){g B:Heap}(J:Inv X pins σ H' s')(f:Cov X.stack H s.heap H' s'.heap B)(i:B.StaysIn g)(k:g.FunFrames B X.outer)(C:s'.heap.UpToSlots g) :
 Un X.fs [] X.H₀ H' X.s₀.heap g/\HOk X.prog X.w H' g/\Cov X.outer X.H₀ X.s₀.heap H' g B:=by
 have p:∀ b o,X.s₀.heap.get? b=some o->b≠X.env.locals:=λb o e=>Nat.ne_of_lt (Nat.lt_of_lt_of_le (Heap.lt_size e) I.ok.above)
 have h:∀ b o,X.s₀.heap.get? b=some o->b∉X.fs->b∉frs X.stack:=λb o e n z=>(List.mem_cons.mp (I.stkSub b z)).elim (p b o e) n
 have nx:∀ b:Addr,b∉X.ex:=by rw[l];simp
 have c:Cov X.outer X.H₀ X.s₀.heap H' g B:=by
  refine⟨λb o e n a=>f.old b o (I.base.keep b o e n a (nx b)) (I.base.free b o e n (nx b)) (h b o e a),λb o e a=>?_,λb o a e=>?_⟩
  .obtain⟨j,r⟩:=I.base.there b o e (nx b)
   exact f.there b j r (h b o e a)
  .cases q:H' b with
   | none=>exact absurd q a
   | some u =>
    obtain⟨t,D⟩:=(J.hok b u q).ex
    have z:=f.new b t a D
    have v:=i b t z
    rw[e]at v
    cases v
    exact z
 refine⟨⟨λb o e n a _=>i b o (c.old b o e n a),λb o e n a _=>?_,λb o e n _=>J.base.free b o e n (nx b),λb o e _=>?_,J.base.tups,J.base.frzs,J.base.tbls⟩,J.hok.stays λb u a A=>i b u (f.new b u a A),c⟩
 .obtain⟨F,x⟩:=J.base.slot b o e n a (nx b)
  obtain⟨_,w,d,y⟩:=I.ok.funs.mem a
  rw[e]at d
  cases d
  obtain⟨m,E⟩:=C b _ x y
  exact⟨m,E⟩
 .by_cases a:b∈X.fs
  .obtain⟨_,w,d,_⟩:=k.mem a
   exact⟨w,d⟩
  .obtain⟨j,r⟩:=c.there b o e a
   exact⟨j,i b j r⟩
theorem zjy (h:X.stack=X.env::X.outer)(x:X.env.frame=some X.env.locals)(l:X.ex=[])(I:Inv X pins σ H s)(a:Air X.prog X.w X.stack H s E e s') :
 wpAny M X.A (leaving X.env e) (λ_ d=>Air X.prog X.w X.outer X.H₀ X.s₀ E e d) E2 s':=by
 obtain⟨o,C,t,u,H',B,rfl,os,c,w,i,n,k,y,D⟩:=a
 have J:Inv X pins σ H' s':=I.call' (ch:=[]) os w i c (λb z=>nomatch z)
 rw[h]at n
 refine Zl (ZT _ _) (wpAny_leaves_onW (Q:=λ_ d=>∃ g,d={ s' with heap:=g }/\Heap.FlyingW B X.outer o (.ref C) (.ref t) g/\s'.heap.UpToSlots g) (by rw[I.ok.frames,h]) x n λg f j=>⟨g,rfl,f,j⟩) ?_
 rintro _ _ ⟨g,rfl,f,j⟩ v
 obtain⟨p,r,q⟩:=I.airUn l J k f.1 f.2.2.1 j
 obtain⟨A,m,_⟩:=f.there
 exact⟨o,C,t,u,H',B,rfl,os.trans I.os,c,p,r,f,q,y.stay v ⟨A,m⟩,D⟩
end
theorem Z9 {P:Program}{w:World}{K:W.Frag}{g:Str->Option Value}{d:Heap}{N:List Str}{c:Str}{b:Scope}{f:Addr}{i:Value}{A:Around}{outer:List Env}{s:Shared}{H:Hp}{E:XK} :
 xB (Air P w) (vR (Air P w) P w K g d N c b f i A outer s H E) E:=λh σ H1 j e k I a =>
 zjy (X:=vR (Air P w) P w K g d N c b f i A outer s H E) rfl rfl rfl I a
theorem zcx {P:Program}{w:World}{K:PySem.W.Frag}{R:Str->Option Value}{i:Heap}{N:List Str}{j:Str}{c:Scope}{f:Addr}{y:Value}{A:Around}{outer:List Env}{s:Shared}{H:Hp}{E:XK}
 {k:List (Addr × Obj)} {σ:St} {H1:Hp} {g:Shared} {l:Heap} {m C:Addr} {args:List Value}
 (I:Inv (vR (Air P w) P w K R i N j c f y A outer s H E) k σ H1 g) (F:Heap.MadeExcOf g.heap l m (.ref C) args) (W:E (.ref C) none H1) :
 (vR (Air P w) P w K R i N j c f y A outer s H E).xe (.ref m) { g with heap:=l }:=by
 let X:=vR (Air P w) P w K R i N j c f y A outer s H E
 have I:Inv X k σ H1 g:=I
 have d:∀ b o,g.heap.get? b=some o->l.get? b=some o:=F.keeps
 have M:∀ env∈X.stack,∀ a,env.frame=some a->a∈frs X.stack:=λenv he a ha=>List.mem_filterMap.mpr ⟨env,he,ha⟩
 have J:Inv X k σ H1 { g with heap:=l }:=by
  have:=I.un (t':=g.toks) (H':=H1) (h':=l) (Un.kept d) (I.hok.kept d)
  exact this
 show wpAny (model P w) X.A (leaving X.env (.ref m)) (λ_ n=>Air P w outer H s E (.ref m) n) _ { g with heap:=l }
 refine Zl (ZT _ _) (wpAny_leaves_madeW (Q:=λ_ n=>∃ p t,n={ g with heap:=p }/\Heap.FlyingW (PySem.W.hideAll g.heap (frs X.stack)) outer m (.ref C) (.ref t) p/\l.UpToSlots p) (base:=PySem.W.hideAll g.heap (frs X.stack)) (h:=g.heap) (L:=X.env.locals) (outer:=outer) (I.ok.frames) rfl (λb o q=>PySem.W.of_hideAll _ q) (PySem.W.funFrames_hide I.stack M) F λp t v x2 x3 O=>⟨p,t,rfl,v,O⟩) ?_
 rintro _ _ ⟨p,t,rfl,v,O⟩ U
 obtain⟨B,G,_⟩:=v.there
 have V:Ye p m none:=by
  obtain⟨t',D,_⟩:=F.there
  exact Ye.stay (h:=l) ⟨_,D,rfl⟩ U ⟨B,G⟩
 have x:Cov X.stack H1 g.heap H1 l (PySem.W.hideAll g.heap (frs X.stack)):=by
  refine⟨λb o e _ r=>PySem.W.hideAll_get _ e r,λb o e r=>⟨o,PySem.W.hideAll_get _ e r⟩,λb o r e=>?_⟩
  cases q:H1 b with
  | none=>exact absurd q r
  | some u =>
   obtain⟨B,S⟩:=(I.hok b u q).ex
   have z:=d b B S
   rw[e]at z
   cases z
   exact PySem.W.hideAll_get _ S λz=>r (I.stkFree b z)
 obtain⟨Y,T,Z⟩:=I.airUn (X:=X) rfl J x v.1 v.2.2.1 O
 exact⟨m,C,t,none,H1,_,rfl,I.os,I.bare,Y,T,v,Z,V,W⟩
noncomputable abbrev bmV:List Value:=[.type "ValueError",.type "Exception",.type "BaseException",.type "object"]
structure XCls (K:W.Frag) (mg:Str->Option Value) (C:Addr) (x:Str):Prop where
 bound:mg x=some (.ref C)
 exc:W.excIn K C bmV "ValueError.__new__"=true
theorem zg6 {K:W.Frag}{j:Heap}{C:Addr}{h:List Value}{a:String}(X:K.In j)(q:W.excIn K C h a=true) :
 ∃ r N u q w g s e x c v k p o i m y,j.get? C=some (excClassObj u q C N w r g s e x c v k p o i m a)/\j.Ns N y/\y "__init__"=none/\OwnTail j h r:=by
 unfold W.excIn at q
 split at q
 .rename_i v F A E
  split at q
  .rename_i C' r k p o i n m B z
   simp only[Bool.and_eq_true,beq_iff_eq,Bool.not_eq_true']at q
   obtain⟨⟨⟨⟨⟨rfl,rfl⟩,b⟩,G⟩,d⟩,f⟩:=q
   obtain⟨u,w,I,ns,J,H,s,e,x,c,D⟩:=F
   dsimp only at B b d f
   subst B b
   have t:A=#[k,p,o,i,some (.builtin n),m]:=by
    obtain⟨l⟩:=A
    simp only at z
    rw[z]
   subst t
   exact⟨r,ns,u,J,w,H,s,e,x,c,v,k,p,o,i,m,_,X _ _ E,.of_isNs (W.isNs_of_in X d),W.nsMap_none_of_in X d f,W.tail_of_in X G⟩
  .cases q
 .cases q
theorem ze5 {P:Program}{w:World}{K:PySem.W.Frag}{l:Str->Option Value}{c:Heap}{N:List Str}{b:Str}{a:Scope}{f:Addr}{u:Value}{A:Around}{outer:List Env}{s:Shared}{H:Hp}{E:XK}{C:Addr}{x:Str}{U i m:Pos}
 (v:XCls K l C x) (S:Gl (vR (Air P w) P w K l c N b a f u A outer s H E) x) (Q:(x == ("__debug__":Str))=false:=by decide) :
 PS (vR (Air P w) P w K l c N b a f u A outer s H E) (.Raise (some (.Call (.Name x U) [] [] i)) none m) (λ_ _ H1=>E (.ref C) none H1):=by
 intro t W σ H1 D I h
 obtain⟨R,N',p,q,B,d,o,j,L,g,r,z,J,G,n,F,y,M,O,k,T⟩:=zg6 I.ok.mod.kin v.exc
 refine wpAny_Raise_call_subU (C:=C) (nm:=p) (q:=q) (N:=N') (bs:=B) (bm:=R) (hdct:=d) (sn:=o) (sub:=j) (ab:=L) (col:=g) (dd:=r) (k0:=z) (k1:=J) (k2:=G) (k3:=n) (k5:=F)
  PySem.F.excBase_ValueError (by decide) PySem.F.excBase_ValueError (mN:=y) (T.hasType PySem.F.excBase_ValueError.hasBase) (I.ok.hd rfl) rfl k (wJ I S v.bound ⟨rfl,?_⟩ Q)
 exact evalArgs_empty ⟨rfl,Nat.zero_le _,I.bk _ _ M,O.keeps I.bk,T.keeps I.bk,λX e V=>zcx I V h⟩
end L2
namespace Dl
open PySem L2
noncomputable def pay (j:Nat):Option (List (Str × V)):=match j / 16 % 4 with
 | 0=>none
 | 1=>some [("at",.int ((j / 64:Nat) - 1))]
 | 2=>some [("row",.int ((j / 64:Nat) - 1))]
 | _=>some [("many",.int ((j / 64 / 1024:Nat):Int)),("most",.int ((j / 64 % 1024:Nat):Int))]
variable [KK]
section
variable (E:XK)(cl:Nat->Addr)
noncomputable def EJ (j:Nat)(H:Hp):Prop:=match pay j with
 | none=>E (.ref (cl j)) none H
 | some b=>∀ a,H a=none->E (.ref (cl j)) (some a) (upd H a (.xd b))
noncomputable def Wi (F H:Hp)(j:Nat):Prop:=∀ F' H',Gr F H F' H'->EJ E cl j H'
noncomputable def RXE (t:TE)(a:Ev->Option Nat):Prop:=∀ (σ:St) (ρ:Ev) (F H:Hp) (j:Nat) (Q:VK),zD F H->VAt F ρ σ->a ρ=some j->Wi E cl F H j->t σ H Q
noncomputable def RXS (t:TS)(a:SE->Option Nat):Prop:=∀ (Fb Hb F H:Hp) (ρ:SE) (σ:St) (D':Wg) (j:Nat),Rl Fb Hb F H ρ σ->a ρ=some j->Wi E cl Fb Hb j->t D' σ H
noncomputable def XE (X:Cx)(e:Expr)(a:Ev->Option Nat):Prop:=∃ t,PE X e t/\RXE E cl t a
noncomputable def XS (X:Cx)(b:Stmt)(a:SE->Option Nat):Prop:=∃ t,PS X b t/\RXS E cl t a
noncomputable def XSs (X:Cx)(a:List Stmt)(b:SE->Option Nat):Prop:=∃ t,PSs X a t/\RXS E cl t b
end
section
variable {E:XK}{cl:Nat->Addr}{X:Cx}{a b c e:Expr}{es:List Expr}{st:Stmt}{sts:List Stmt}{pos pos':Pos}
theorem Wi.grow {F H F1 H1:Hp}{j:Nat}(w:Wi E cl F H j)(g:Gr F H F1 H1):Wi E cl F1 H1 j:=λF' H' a=>w F' H' (g.trans a)
theorem Wi.out {Fb Hb F H:Hp}{ρ:SE}{σ:St}{j:Nat}(w:Wi E cl Fb Hb j)(a:Rl Fb Hb F H ρ σ):Wi E cl (gOf ρ σ F H) H j:=λF' H' g=>w F' H' (a.out g)
noncomputable def spX (cl:Nat->Addr)(m:Nat)(r:List D->Option Nat):Sp:=λb H _ E=>∃ a j F,a.length=m/\zD F H/\AtL F a b/\r a=some j/\Wi E cl F H j
noncomputable def zlc (m:Nat)(r:List D->Option Nat)(f:Ev->Option (List D)):Ev->Option Nat:=fun ρ=>(f ρ).bind λa=>if a.length=m then r a else none
theorem ziK {x:Str}{k m:Nat}{f:Addr}{i:FuncData}{l:List Str}{r:List D->Option Nat}{n:Pos}{h:Ev->Option (List D)}(F:xA X.prog X.w X.K X.mg X.base (Air X.prog X.w) k f i l (spX cl m r))(B:xB (Air X.prog X.w) X E)(p:yL k X.A)(G:Gl X x)(K:X.mg x=some (.ref f))(o:W.keepIn X.K (.ref f)=true)(v:xf X.K i l [])
 (C:AD X (e::es) h) (c:(x == ("__debug__":Str))=false:=by decide) (J:starEach (e::es) X.env=(false,eval e X.env)::starEach es X.env:=by rfl) (a:(backTo pos (starEach es X.env)).any (·.1)=false:=by rfl) :
 XE E cl X (.Call (.Name x n) (e::es) [] pos) (zlc m r h):=by
 obtain⟨t,u,q⟩:=C
 refine⟨_,zc7 F p G K o v .nil B u c J a,fun σ ρ F0 H j Q s y e w=>?_⟩
 obtain⟨d,z,b⟩:=Option.bind_eq_some_iff.mp e
 split at b <;> try cases b
 rename_i I
 refine q σ ρ F0 H d _ s y z λF1 H1 L g A=>?_
 exact⟨d,j,F1,I,g.fh,by rw[List.append_nil];exact A,b,w.grow g⟩
theorem ziw {b:Ev->Option Nat}(h:XE E cl X e b)(c:swapsWith e none pos.line X.env=pure false:=by rfl):XS E cl X (.Expr e pos) (fun ρ=>b (visG ρ)):=by
 obtain⟨t,p,r⟩:=h
 exact⟨_,Zs p c,λFb Hb F H ρ σ D' j a e w=>r σ _ _ H j _ a.gh a.visG e (w.out a)⟩
theorem zkf {i:Nat}{x:Str}{b:Ev->Option Nat}(c:X.N.Nodup)(g:X.N[i]?=some x)(d:Loc X.env.scope x)(h:XE E cl X e b)(k:swapsWith e (some (.Name x pos')) pos.line X.env=pure false:=by rfl)
 (f:X.fn x=true\/X.env.scope.names.lookup x=some .local:=by first | exact .inl rfl | exact .inr rfl | assumption):XS E cl X (.Assign [.Name x pos'] e pos) (fun ρ=>b (visG ρ)):=by
 obtain⟨t,p,r⟩:=h
 exact⟨_,ww c g d p k f,λFb Hb F H ρ σ D' j a e w=>r σ _ _ H j _ a.gh a.visG e (w.out a)⟩
noncomputable def xIf (t:Ev->Option Bool)(g h:SE->Option Nat):SE->Option Nat:=fun ρ=>match t (visG ρ) with
 | some true=>g ρ
 | some false=>h ρ
 | none=>none
theorem zj6 {f e:List Stmt}{t:Ev->Option Bool}{g h:SE->Option Nat}(m:TD X c t)(q:XSs E cl X f g)(o:XSs E cl X e h):XS E cl X (.If c f e pos) (xIf t g h):=by
 obtain⟨v,r,i⟩:=m
 obtain⟨u,n,l⟩:=q
 obtain⟨x,p,s⟩:=o
 refine⟨_,zg9 r n p,λFb Hb F H ρ σ D' j b k w=>?_⟩
 unfold xIf at k
 cases h:t (visG ρ) with
 | none=>rw[h]at k;cases k
 | some d =>
  rw[h]at k
  refine i σ _ _ H d _ b.gh b.visG h λF' H' g=>?_
  have a:=b.grow (b.back g).1
  cases d with
  | true=>rw[if_pos rfl];exact l Fb Hb _ H' ρ σ D' j a k w
  | false=>rw[if_neg Bool.false_ne_true];exact s Fb Hb _ H' ρ σ D' j a k w
noncomputable def xNo:SE->Option Nat:=λ_=>none
theorem Xl:XS E cl X st xNo:=⟨_,zav,λ_ _ _ _ _ _ _ _ _ h _=>by cases h⟩
theorem zak {g:SE->Option Nat}(h:XS E cl X st g):XSs E cl X [st] g:=let ⟨_,p,r⟩:=h;⟨_,vb p,r⟩
noncomputable def zi6 (a:SE->Option Nat)(g:SE->Ctl)(c:SE->Option Nat):SE->Option Nat:=fun ρ=>match a ρ with
 | some j=>some j
 | none=>match g ρ with
  | .nx b=>c b
  | _=>none
theorem YF {c l:SE->Option Nat}{g:SE->Ctl}(v:XS E cl X st c)(o:SD X st g)(y:XSs E cl X sts l):XSs E cl X (st::sts) (zi6 c g l):=by
 obtain⟨n,B,t⟩:=v
 obtain⟨x,A,z⟩:=o
 obtain⟨u,m,q⟩:=y
 have e:PS X st (λD σ H=>n D σ H\/x D σ H):=λa s σ H D I h=>h.elim (B a s σ H D I) (A a s σ H D I)
 refine⟨_,yK e m,λFb Hb F H ρ σ D' j i k w=>?_⟩
 unfold zi6 at k
 cases d:c ρ with
 | some C =>
  rw[d]at k
  cases k
  exact .inl (t Fb Hb F H ρ σ _ j i d w)
 | none =>
  rw[d]at k
  dsimp only at k
  cases b:g ρ with
  | nx r =>
   rw[b]at k
   refine .inr (z Fb Hb F H ρ σ _ i ?_)
   rw[b]
   exact λF' H' p f=>q Fb Hb F' H' r p D' j f k w
  | rt _=>rw[b]at k;cases k
  | bk _=>rw[b]at k;cases k
  | ct _=>rw[b]at k;cases k
  | no=>rw[b]at k;cases k
theorem W0 {g:SE->Option Nat}(h:XS E cl X st g):XSs E cl X (st::sts) g:=by
 obtain⟨t,p,r⟩:=h
 exact⟨_,yK p (λ_ _ _ _ _ _ h=>(h:False).elim),λFb Hb F H ρ σ D' j a k w=>r Fb Hb F H ρ σ _ j a k w⟩
end
noncomputable def zcX (j:Nat):SE->Option Nat:=λ_=>some j
theorem zaC {P:Program}{w:World}{K:W.Frag}{g:Str->Option Value}{c:Heap}{N:List Str}{b:Str}{a:Scope}{f:Addr}{i:Value}{A:Around}{outer:List Env}{s:Shared}{H:Hp}{E:XK}{cl:Nat->Addr}{j:Nat}{x:Str}{p d h:Pos}
 (m:XCls K g (cl j) x) (n:Gl (vR (Air P w) P w K g c N b a f i A outer s H E) x) (l:(x == ("__debug__":Str))=false:=by decide) (k:pay j=none:=by rfl) :
 XS E cl (vR (Air P w) P w K g c N b a f i A outer s H E) (.Raise (some (.Call (.Name x p) [] [] d)) none h) (zcX j) :=
 ⟨_,ze5 m n l,λFb Hb F H ρ σ D' q o e w=>by
  cases e
  have z:=w F H o.gr
  unfold EJ at z
  rw[k]at z
  exact z⟩
noncomputable def fnX (n:Nat)(b:SE->Option Nat)(a:List D):Option Nat:=b (a.map .v++List.replicate (n - a.length) .no)
theorem zgX {P:Program}{w:World}{K:W.Frag}{n:Str->Option Value}{g:Heap}{x b:Str}{i:Stmt}{f:Addr}{u:FuncData}{N ps:List Str}{k:Nat}{cl:Nat->Addr}{gx:SE->Option Nat}(Fu:Fun K x b i f u)(S:yf N ps (zg i))
 (C:∀ (c:Value) (A:Around) (outer:List Env) (s:Shared) (H:Hp) (E:XK),yL k (A.deeper (PyProof.Rows.envOfC b (zg i) s.heap.objs.size f c))->XSs E cl (vR (Air P w) P w K n g N b (zg i) f c A outer s H E) (zU i) gx) :
 xA P w K n g (Air P w) (k+1) f u ps (spX cl ps.length (fnX N.length gx)):=by
 obtain⟨L,O,kV,G,J,M,c,ct,B,rfl,I,l⟩:=Fu.ex
 refine zjJ I l S (λz H Q E h=>?_) λA outer s H z Q E v m=>?_
 .obtain⟨y,d,F,o,_,a,_⟩:=h
  rw[a.length];exact o
 .obtain⟨y,j,F,o,D,a,e,q⟩:=m
  obtain⟨t,p,r⟩:=C c A outer s H E v
  exact⟨t,p,r F H F H _ _ _ j (Xt D a) e q⟩
end Dl
namespace L2
open PySem PySem.Spec PyProof.Rows
section
variable {X:Cx}{pins:List (Addr × Obj)}{σ:St}{H H':Hp}{s s':Shared}{E:XK}{e:Value}{E2:Value->Shared->Prop}{B h3:Heap}
theorem Inv.caught (I:Inv X pins σ H s)(os:s'.os=s.os)(g:AllBare s'.gens)(f:Un (frs X.stack) [] H H' s.heap s'.heap)(p:HOk X.prog X.w H' s'.heap)(d:Cov X.stack H s.heap H' s'.heap B)
 (i:B.StaysIn h3) (t:h3.FunFrames B X.stack) (y:s'.heap.UpToSlots h3):Inv X pins σ H' { s' with heap:=h3 }:=by
 obtain⟨N,w,l,j,h⟩:=s'
 have C:h=s.os:=os
 subst C
 have nil:∀ b:Addr,b∉([]:List Addr):=λb z=>nomatch z
 show Inv X pins σ H' { s with heap:=h3,gens:=w,drawn:=l,toks:=j }
 refine I.step (s:=s) (g':=w) (d':=l) (t':=j) (ch:=[]) (λb z=>nomatch z) (λb o x c _ e n=>i b o (d.old b o e n λz=>(List.mem_cons.mp (I.stkSub b z)).elim x c)) (λb o x c _ e n=>?_) (λb o _ e n=>f.free b o e n (nil b)) (λb o _ e=>?_) f.tups f.frzs f.tbls (λm L=>?_) (p.stays λb u c F=>i b u (d.new b u c F)) g
 .obtain⟨J,k⟩:=f.any e n (nil b)
  obtain⟨_,A,a,q⟩:=I.funs.mem c
  rw[e]at a
  cases a
  obtain⟨v,E⟩:=y b _ k q
  exact⟨v,E⟩
 .by_cases c:b∈frs X.stack
  .obtain⟨_,A,a,_⟩:=t.mem c
   exact⟨A,a⟩
  .obtain⟨h,K⟩:=d.there b o e c
   exact⟨h,i b h K⟩
 .obtain⟨o,G,M,D,q,r⟩:=L
  obtain⟨J,k⟩:=f.any D I.free (nil _)
  exact y.ns ⟨_,G,M,k,q,r⟩
theorem zbx {M:Model}(n:X.stack=X.env::X.outer)(hf:X.env.frame=some X.env.locals)(K:X.ex=[])(I:Inv X pins σ H s)(a:Air X.prog X.w X.stack H s E e s'){U:List ExceptHandler}{Q:Flow->Shared->Prop}
 (k:∀ (b C t:Addr) (A:Option Addr) (H':Hp) (B h3:Heap),E (.ref C) A H'->Ye h3 b A->H' b=none->(∀ i,X.s₀.heap.get? b=some i->False)->(∀ p∈X.pn++pins,p.1≠b)->Heap.FlyingW B X.stack b (.ref C) (.ref t) h3->(∀ v:Heap,B.StaysIn v->v.FunFrames B X.stack->h3.UpToSlots v->Inv X pins σ H' { s' with heap:=v }) ->
  e=.ref b->wpAny M X.A (handleBy (.ref b) X.env U) Q E2 { s' with heap:=h3 }) :
 wpAny M X.A (noteFrame e X.env) (λ_ W=>wpAny M X.A (setFlight e none) (λ_ s₃=>wpAny M X.A (handleBy e X.env U) Q E2 s₃) E2 W) E2 s':=by
 obtain⟨b,C,t,A,H',B,rfl,os,w,Y,x,F,h,Z,hE⟩:=a
 have O:X.A.frames=some (X.env::X.outer):=by rw[I.ok.frames,n]
 have r:=F
 rw[n]at r
 refine Zl (v5 _ _) (wpAny_looks_onW (Q:=λ_ m=>∃ f,m={ s' with heap:=f }/\Heap.HeldW B (X.env::X.outer) b (.ref C) (.ref t) X.env.locals f/\s'.heap.UpToSlots f) O hf r λf c l=>⟨f,rfl,c,l⟩) ?_
 rintro _ _ ⟨f,rfl,c,l⟩ J
 refine Zl (wG _ _) (wpAny_landsW (Q:=λ_ m=>∃ h3,m={ s' with heap:=h3 }/\Heap.FlyingW B (X.env::X.outer) b (.ref C) (.ref t) h3/\f.UpToSlots h3) (s:={ s' with heap:=f }) c λh3 d j=>⟨h3,rfl,d,j⟩) ?_
 rintro _ _ ⟨h3,rfl,d,j⟩ N
 have G:Ye h3 b A:=by
  obtain⟨L,S,_⟩:=d.there
  exact Z.stay (DK.trans J N) ⟨L,S⟩
 rw[<-n]at d
 have y:B.get? b=none:=F.2.1
 have R:b∉frs X.stack:=λz=>by
  obtain⟨_,T,o,P⟩:=F.2.2.1.mem z
  obtain⟨oe,vs,_,_,_,he,_,hd,_⟩:=F.2.2.2
  rw[he]at o
  cases o
  exact P vs hd
 have g:∀ i,s.heap.get? b=some i->False:=λi z=>by
  obtain⟨T,D⟩:=h.there b i z R
  rw[y]at D
  cases D
 refine k b C t A H' B h3 hE G ?_ (λi z=>?_) (λp hp z=>?_) d (λv b1 b2 b3=>I.caught os w Y x h b1 b2 ((l.trans j).trans b3)) rfl
 .cases q:H' b with
  | none=>rfl
  | some u =>
   obtain⟨L,V⟩:=(x b u q).ex
   have z:=h.new b L (by rw[q];intro z;cases z) V
   rw[y]at z
   cases z
 .obtain⟨T,D⟩:=I.base.there b i z (by rw[K];intro z;cases z)
  exact g T D
 .exact g p.2 (z ▸ (I.pin p hp).1)
end
noncomputable abbrev Cx.held (X:Cx)(e:Value):Cx:={ X with A:=X.A.mark (some e),calm:=false }
section
variable {X:Cx}{pins:List (Addr × Obj)}{σ:St}{H H':Hp}{s s':Shared}{E:Value->Shared->Prop}{e:Value}{M:Model}{A:Around}
theorem Cx.Ok.held (ok:X.Ok)(e:Value):(X.held e).Ok :=
 ⟨ok.mod,ok.kind,ok.glob,ok.blt,ok.above,ok.inj,ok.has,ok.cab,(λz=>by cases z),ok.frames,ok.stk,ok.exf,ok.bs,ok.bsz,ok.noex,ok.exfs,ok.funs,ok.frf⟩
theorem Inv.held (I:Inv X pins σ H s)(e:Value):Inv (X.held e) pins σ H s:=⟨I.ok.held e,I.os,I.bare,I.base,I.loc,I.cell,I.free,I.freeC,I.pin,I.hok,I.len⟩
theorem Inv.unheld (ok:X.Ok)(I:Inv (X.held e) pins σ H s):Inv X pins σ H s:=⟨ok,I.os,I.bare,I.base,I.loc,I.cell,I.free,I.freeC,I.pin,I.hok,I.len⟩
theorem vD {i:Nat}{x:Str}{G:Pos}{Q:Unit->Shared->Prop}(I:Inv X pins σ H s)(U:X.N.Nodup)(N:X.N[i]?=some x)(R:X.env.scope.names.lookup x=some .local)
 (h:∀ s',Inv X pins (σ.set i none) H s'->Q () s'):wpAny M A (do bindName X.env x .none;unbindBehindTheSuite X.env x G) Q E s:=by
 obtain⟨m,O,hl⟩:=id I.loc
 have r:(X.env.scope.kind == .class||(X.env.scope.kind == .module&&X.env.locals != X.env.globals))=false:=by rw[I.ok.kind];rfl
 have J:i < σ.length:=by rw[I.len];exact(List.getElem?_eq_some_iff.mp N).1
 have u:=I.cne
 refine wpAny_nameGoes_keeps R O r λY v F g=>?_
 obtain⟨oL,_,_,a0,_⟩:=id O
 have a:HOk X.prog X.w H Y:=λb S e=>by
  refine(I.hok b S e).stay (λc K w q=>(g.2 c ?_).trans q) (λ_ q=>q) λ_ _ q=>q
  rintro rfl
  rcases w with rfl | w
  .rw[I.free]at e;cases e
  .rw[I.free]at w;cases w
 have f:∀ b o,X.s₀.heap.get? b=some o->b≠X.env.locals:=λb o e=>Nat.ne_of_lt (Nat.lt_of_lt_of_le (Heap.lt_size e) I.ok.above)
 refine h _ ⟨I.ok,I.os,I.bare,⟨λb o e n D t=>?_,λb o e n D t=>?_,I.base.free,λb o e t=>?_,I.base.tups,I.base.frzs,I.base.tbls⟩,⟨_,F,λj y P l B V=>?_⟩,λy c e=>?_,I.free,I.freeC,λp hp=>?_,a,by simpa using I.len⟩
 .exact(g.2 b (f b o e)).trans (I.base.keep b o e n D t)
 .obtain⟨sl,l⟩:=I.base.slot b o e n D t
  exact⟨sl,(g.2 b (f b o e)).trans l⟩
 .obtain⟨T,l⟩:=I.base.there b o e t
  exact⟨T,(g.2 b (f b o e)).trans l⟩
 .by_cases C:j=i
  .subst C
   rw[List.getElem?_set_self J]at B
   cases B
  .rw[List.getElem?_set_ne (Ne.symm C)]at B
   obtain⟨Z,r',q⟩:=hl j y P l B V
   refine⟨Z,r',?_⟩
   rcases q with ⟨k,e⟩ | ⟨k,c,e,z⟩
   .refine .inl ⟨k,?_⟩
    have:y≠x:=λe=>C (Xv U l (e ▸ N))
    simp[this,e]
   .exact .inr ⟨k,c,e,z.sameBut g (u y c e)⟩
 .obtain⟨K,z⟩:=I.cell y c e
  exact⟨K,z.sameBut g (u y c e)⟩
 .obtain⟨e,n,L,W,d⟩:=I.pin p hp
  exact⟨(g.2 p.1 L).trans e,n,L,W,d⟩
noncomputable def zed (a C:Addr)(c:Option Addr):HO:=.ext λh=>∃ b,h.get? a=some b/\b.cls=.ref C/\b.dict=c/\W.notCls b=true
theorem Inv.track {a:Addr}{o:HO}{B:Obj}{F:Array Value}(I:Inv X pins σ H s)(l:H a=none)(E:s.heap.get? a=some B)(D:B.data=.fields F)(h0:∀ G,X.s₀.heap.get? a=some G->False)(N:∀ p∈X.pn++pins,p.1≠a)
 (y:yb X.prog X.w (upd H a o) s.heap a o):Inv X pins σ (upd H a o) s:=by
 have t:X.env.locals≠a:=by
  rintro rfl
  obtain⟨m,⟨R,Q,O,g,k,_⟩,_⟩:=I.loc
  rw[E]at g
  cases g
  rw[D]at k
  cases k
 have w:∀ x c,X.env.cells.lookup x=some c->c≠a:=λx c e=>by
  rintro rfl
  obtain⟨v,P,r,i⟩:=I.cell x c e
  rw[E]at r
  cases r
  rw[D]at i
  cases i
 refine⟨I.ok,I.os,I.bare,⟨I.base.keep,I.base.slot,λb u e n L=>?_,I.base.there,λb C e=>?_,λb u v e=>?_,λb M e=>?_⟩,I.loc,I.cell,?_,λx c e=>?_,λp A=>?_,λb u e=>?_,I.len⟩
 .rw[ze (λz:b=a=>h0 u (z ▸ e))]
  exact I.base.free b u e n L
 .have f:=I.base.tups b C e
  rw[ze (zd f l)]
  exact f
 .have f:=I.base.frzs b u v e
  rw[ze (zd f l)]
  exact f
 .obtain⟨j,f⟩:=I.base.tbls b M e
  exact⟨j,by rw[ze (zd f l)];exact f⟩
 .rw[ze t]
  exact I.free
 .rw[ze (w x c e)]
  exact I.freeC x c e
 .obtain⟨e,n,K,J,d⟩:=I.pin p A
  exact⟨e,by rw[ze (N p A)];exact n,K,J,d⟩
 .by_cases c:b=a
  .subst c
   rw[zf]at e
   cases e
   exact y
  .rw[ze c]at e
   refine(I.hok b u e).stay (λ_ _ _ q=>q) (λc h=>?_) λc C h=>?_
   .rw[ze (zd h l)];exact h
   .rw[ze (zd h l)];exact h
end
noncomputable abbrev Cx.pinned (X:Cx)(a:List (Addr × Obj)):Cx:={ X with pn:=X.pn++a }
section
variable {X:Cx}{pins ps:List (Addr × Obj)}{σ:St}{H H':Hp}{s s':Shared}
theorem Cx.Ok.pinned (ok:X.Ok)(ps:List (Addr × Obj)):(X.pinned ps).Ok :=
 ⟨ok.mod,ok.kind,ok.glob,ok.blt,ok.above,ok.inj,ok.has,ok.cab,ok.hd,ok.frames,ok.stk,ok.exf,ok.bs,ok.bsz,ok.noex,ok.exfs,ok.funs,ok.frf⟩
theorem Inv.pinAll (I:Inv X pins σ H s):Inv (X.pinned pins) [] σ H s:=⟨I.ok.pinned pins,I.os,I.bare,I.base,I.loc,I.cell,I.free,I.freeC,λp a=>I.pin p (by rw[List.append_nil]at a;exact a),I.hok,I.len⟩
theorem Inv.unpin (ok:X.Ok)(I:Inv (X.pinned pins) ps σ H s):Inv X pins σ H s:=⟨ok,I.os,I.bare,I.base,I.loc,I.cell,I.free,I.freeC,λp a=>I.pin p (List.mem_append_left _ a),I.hok,I.len⟩
end
noncomputable abbrev gone (i:Nat)(D:Wg):Wg:={ nx:=fun σ H=>D.nx (σ.set i none) H,rt:=D.rt,bk:=fun σ H=>D.bk (σ.set i none) H,ct:=fun σ H=>D.ct (σ.set i none) H }
noncomputable def exW (K:W.Frag)(CS:Addr)(i n:Nat)(u:TS)(D:Wg):XK:=λcls b H'=>∃ C,cls=.ref C/\W.exmOne K (.ref C) (.ref CS)=some true/\∀ (a:Addr) (σ:St),σ.length=n->H' a=none->u (gone i D) (σ.set i (some (.ref a))) (upd H' a (zed a C b))
theorem zjA {Y:Cx}{CS:Addr}{x n:Str}{i:Nat}{m j:List Stmt}{b₀:Stmt}{a6 E np:Pos}{tb:XK->TS}{u:TS}(a2:Y.stack=Y.env::Y.outer)(hf:Y.env.frame=some Y.env.locals)(a5:Y.ex=[])
 (F:Y.N.Nodup) (P:Y.N[i]?=some n) (y:Y.env.scope.names.lookup n=some .local) (hg:Gl Y x) (hm:Y.mg x=some (.ref CS))
 (r:∀ (ps:List (Addr × Obj)) (W:Value->Shared->Prop) (E0:XK),xB (Air Y.prog Y.w) ((Y.pinned ps).wish W) E0->PSs ((Y.pinned ps).wish W) m (tb E0))
 (l:∀ d,PSs (Y.held (.ref d)).nox (b₀::j) u) (hd:(x == ("__debug__":Str))=false:=by decide) :
 PS Y.nox (.Try m [.ExceptHandler (some (.Name x np)) (some n) (b₀::j) E] [] [] a6) (λD σ H=>tb (exW Y.K CS i Y.N.length u D) D σ H):=by
 intro c s σ H D I h
 have ok:Y.Ok:=I.ok.unwish
 have IY:Inv Y c σ H s:=I.unwish
 refine wpAny_Try_except ?_
 refine wpAny_mono (r c _ (exW Y.K CS i Y.N.length u D) ?_ [] s σ H D (IY.pinAll.wish _) h) ?_ λe s₁ h=>h
 .intro U G H1 s1 e z I1 a
  have I1':Inv Y c G H1 s1:=I1.unwish.unpin ok
  refine zbx (X:=Y) a2 hf a5 I1' a λd C t od H' B N hE a4 O h0 T w p ee=>?_
  obtain⟨C',ec,J,hu⟩:=hE
  cases ec
  have I3:Inv Y c G H' { z with heap:=N }:=p N w.1 w.2.2.1 (.refl _)
  obtain⟨ob,a0,R⟩:=w.there
  have ty:PySem.W.Looks (model Y.prog Y.w) N (typeOf (.ref d)) (.ref C):=R ▸ (PySem.W.Looks.ld a0).andThen .now
  refine wpAny_handleBy_cons (codeAny_handlers_test (wJ (X:=Y.held (.ref d)) (I3.held (.ref d)) hg hm ?_ hd)) (by intro q;cases q)
  refine(PySem.W.exm_one (M:=model Y.prog Y.w) I3.kIn ty J).here ?_
  refine codeAny_handlers_suite_as ?_
  refine Zl (wG _ _) (wpAny_setFlight_noneW (Q:=λ_ a1=>∃ g,a1={ z with heap:=g }/\B.StaysIn g/\g.FunFrames B Y.stack/\g.TracedW B d (.ref C) (.ref t)/\∀ b o,N.get? b=some o->(∀ vs,o.data≠.fields vs)->g.get? b=some o) (s:={ z with heap:=N }) w.1 w.2.2.1 w.2.2.2.at λg k1 k2 k3 V=>⟨g,rfl,k1,k2,k3,V⟩) ?_
  rintro _ _ ⟨g,rfl,k1,k2,k3,V⟩ Z
  have I4:Inv Y c G H' { z with heap:=g }:=p g k1 k2 λb o hb hn=>⟨o.slots,V b o hb hn⟩
  obtain⟨S,vs,_,_,_,K,a8,L,_⟩:=k3
  obtain⟨a9,A,a3⟩:=a4.stay Z ⟨S,K⟩
  rw[K]at A
  cases A
  have a7:PySem.W.notCls S=true:=by unfold PySem.W.notCls;rw[L]
  have I5:Inv Y c G (upd H' d (zed d C od)) { z with heap:=g }:=I4.track O K L h0 T ⟨⟨S,K,a8.1,a3,a7⟩,⟨S,K⟩,λh1 h2 ⟨o1,e1,e2⟩ kk=>⟨o1,kk o1 e1,e2⟩⟩
  refine Xm (X:=Y.held (.ref d)) (v:=.ref d) (I5.held (.ref d)) F P (.inl y) rfl (λs6 I6=>?_) (.inr y)
  refine wpAny_mono (l d c s6 _ _ (gone i D) (I6.wish _) (hu d G I4.len O)) (λf s7 q=>?_) λx s7 q=>q.elim
  cases f with
  | ret uv =>
   obtain⟨v,k,H7,I7,rv,q⟩:=q
   exact vD ((Inv.unheld (X:=Y) ok I7.unwish)) F P y λs8 I8=>⟨v,_,H7,I8.wish _,rv,q⟩
  | next =>
   obtain⟨k,H7,I7,q⟩:=q
   exact vD ((Inv.unheld (X:=Y) ok I7.unwish)) F P y λs8 I8=>⟨_,H7,I8.wish _,q⟩
  | brk =>
   obtain⟨k,H7,I7,q⟩:=q
   exact vD ((Inv.unheld (X:=Y) ok I7.unwish)) F P y λs8 I8=>⟨_,H7,I8.wish _,q⟩
  | cont =>
   obtain⟨k,H7,I7,q⟩:=q
   exact vD ((Inv.unheld (X:=Y) ok I7.unwish)) F P y λs8 I8=>⟨_,H7,I8.wish _,q⟩
 .intro f s₁ q
  cases f with
  | ret uv =>
   obtain⟨v,k,H7,I7,rv,q⟩:=q
   exact⟨v,k,H7,(Inv.unpin (X:=Y) ok I7.unwish).wish _,rv,q⟩
  | next =>
   obtain⟨k,H7,I7,q⟩:=q
   exact wpAny_execs_nil ⟨k,H7,(Inv.unpin (X:=Y) ok I7.unwish).wish _,q⟩
  | brk =>
   obtain⟨k,H7,I7,q⟩:=q
   exact⟨k,H7,(Inv.unpin (X:=Y) ok I7.unwish).wish _,q⟩
  | cont =>
   obtain⟨k,H7,I7,q⟩:=q
   exact⟨k,H7,(Inv.unpin (X:=Y) ok I7.unwish).wish _,q⟩
end L2
namespace L2
open PySem PySem.Spec PyProof.Rows PySem.W PySem.Calls PySem.Builtin PySem.Builtin.Getset_descriptor
section
variable {prog:Program}{w:World}{A:Around}{E:Value->Shared->Prop}{K:W.Frag}{h:Heap}{g:Array GenState}{d:Drawn}{t:Nat}{os:OsState}{a C:Addr}{o:Obj}
noncomputable def Of (h:Heap)(a:Addr)(o:Obj)(C:Addr):Prop:=h.get? a=some o/\o.cls=.ref C
theorem Of.type {M:Model}(I:Of h a o C):Looks M h (typeOf (.ref a)) (.ref C):=I.2 ▸ (Looks.ld I.1).andThen .now
theorem zcY {M:Model} {b:Str} {x c:Value} (X:K.In h) (e:findIn K (.ref C) b=some (some x)) (f:specialIn K x "__get__"=some (some c)) (d:takesIn K x=some true):Looks M h (Builtin.ObjectAttr.find (.ref a) (.ref C) b) (.bind c x):=by
 have L1:=looks_findIn (M:=M) X e
 have L2:Looks M h (Builtin.ObjectAttr.getOf (some x)) (some c):=looks_specialIn X f
 have L3:=looks_takesIn (M:=M) X d
 exact L1.andThen (L2.andThen ((show Looks M h (Builtin.ObjectAttr.dataDescriptor? (some x) (some c)) (some (c,x))from L3.andThen .now).andThen (Looks.tag .now)))
theorem zhE {R:Result->Shared->Prop} {b:Value} (X:K.In h) (I:Of h a o C) (c:mroIn K C (.type "object")=some true) (e:R (.ok (.ret (.ref C))) ⟨h,g,d,t,os⟩) :
 codeAny (model prog w) A (.call (.builtin "getset_descriptor.__get__") ⟨[.builtin "object.__class__",.ref a,b],[]⟩) R ⟨h,g,d,t,os⟩:=by
 have L0:=I.type (M:=model prog w)
 have L1:=looks_mroIn (M:=model prog w) X c
 refine codeAny_call_builtin KF.slot_gs.plain KF.entry_gs (KF.slot_gs.check _ _ _ _ _ _ _ _ KF.type_class (KF.args_gs _ _ _) ?_)
 unfold Builtin.«getset_descriptor.__get__» descrGet
 rw[dga_obj]
 refine wpAny_bind (wpAny_pure ?_)
 unfold descrGetter descrCheckInstance descrNameAndClass isInstance
 simp only[KF.owner_class]
 repeat lk
 refine⟨Code.quiet_builtin _ (by decide +kernel),codeAny_builtin KF.entry_class ?_⟩
 unfold Builtin.«object.__class__» shownTypeOf
 repeat lk
 exact e
theorem zdA {j:Tok} {Q:Fin->Shared->Prop} (X:K.In h) (I:Of h a o C) (c:findIn K (.ref C) "__class__"=some (some (.builtin "object.__class__"))) (f:specialIn K (.builtin "object.__class__") "__get__"=some (some (.builtin "getset_descriptor.__get__"))) (b:takesIn K (.builtin "object.__class__")=some true) (i:mroIn K C (.type "object")=some true)
 (e:Q (.done (.ret (.ref C))) ⟨h,g,d,t,os⟩):wpAny (model prog w) A (Builtin.«object.__getattribute__» ⟨[.ref a,.str "__class__" j],[]⟩) Q E ⟨h,g,d,t,os⟩:=by
 have L0:=I.type (M:=model prog w)
 have L1:=zcY (M:=model prog w) (a:=a) X c f b
 refine wpAny_bind (wpAny_pure (wpAny_bind ?_))
 refine wpAny_pure (wpAny_bind (L0.at (wpAny_bind (L1.at ?_))))
 show wpAny _ _ (holding [.builtin "object.__class__"] (call (.builtin "getset_descriptor.__get__") [.builtin "object.__class__",.ref a,.ref C])>>=ret) _ _ _
 exact wpAny_bind (wpAny_holding (wpAny_call (zhE X I i (wpAny_pure e))))
theorem zc0 {M:Model} {b:Value} {Q:Unit->Shared->Prop} (X:K.In h) (I:Of h a o C) (f:subIn K (.ref C) (.type "BaseException")=some true) (j:Q () ⟨h,g,d,t,os⟩):wpAny M A (checkBuiltinCall "BaseException.__getattribute__" ⟨[.ref a,b],[]⟩) Q E ⟨h,g,d,t,os⟩:=by
 have e:builtinKind "BaseException.__getattribute__"=some .slot:=by decide +kernel
 have c:splitId "BaseException.__getattribute__"=some ("BaseException","__getattribute__"):=by decide +kernel
 have i:=F.args_bexc_ga (.ref a) b
 have L0:=I.type (M:=M)
 have L1:Looks M h (isSubtype (.ref C) (.type "BaseException")) true:=looks_subIn X f
 simp only[checkBuiltinCall,e,c]
 refine wpAny_bind ?_
 unfold isInstance
 refine wpAny_bind (L0.at (L1.at ?_))
 repeat (first | assumption | wp_step)
theorem zkh {f:Tok} {Q:Value->Shared->Prop} (X:K.In h) (I:Of h a o C) (b:findIn K (.ref C) "__getattribute__"=some (some (.builtin "BaseException.__getattribute__"))) (e:findIn K (.ref C) "__getattr__"=some none)
 (j:findIn K (.ref C) "__class__"=some (some (.builtin "object.__class__"))) (m:specialIn K (.builtin "object.__class__") "__get__"=some (some (.builtin "getset_descriptor.__get__"))) (i:takesIn K (.builtin "object.__class__")=some true) (p:mroIn K C (.type "object")=some true) (l:subIn K (.ref C) (.type "BaseException")=some true) (k:Q (.ref C) ⟨h,g,d,t,os⟩) :
 wpAny (model prog w) A (getAttrBy (.ref a) (.str "__class__" f) false) Q E ⟨h,g,d,t,os⟩:=by
 have L0:=I.type (M:=model prog w)
 have L1:=looks_findIn (M:=model prog w) X b
 have L2:=looks_findIn (M:=model prog w) X e
 have n:=F.attrBase_ValueError.ga.bind (.ref a)
 have c:(Value.builtin "BaseException.__getattribute__" == Value.builtin "object.__getattribute__")=false:=by decide +kernel
 unfold getAttrBy
 refine wpAny_holding (wpAny_bind (L0.at (wpAny_bind (L1.at ?_))))
 dsimp only
 rw[c,Bool.and_false,if_neg Bool.false_ne_true]
 unfold getAttrByItsOwn
 refine wpAny_bind ?_
 show wpAny _ _ (typeLookup (.ref C) "__getattr__") _ _ _
 refine L2.at (wpAny_bind (wpAny_attempt (wpAny_holding ?_)))
 show wpAny _ _ (boundAndCalled (.builtin "BaseException.__getattribute__") (.ref a) (.str "__class__" f)) _ _ _
 unfold boundAndCalled
 rw[n]
 refine wpAny_bind (wpAny_pure ?_)
 refine wpAny_call (codeAny_call_builtin F.attrBase_ValueError.ga.plain F.entry_bexc_ga (zc0 X I l (zdA X I j m i p ?_)))
 exact handed_on rfl k
theorem zdJ {Q:Option Value->Shared->Prop} {s:Shared} (X:K.In s.heap) (I:Of s.heap a o C) (b:findIn K (.ref C) "__getattribute__"=some (some (.builtin "BaseException.__getattribute__"))) (c:findIn K (.ref C) "__getattr__"=some none)
 (f:findIn K (.ref C) "__class__"=some (some (.builtin "object.__class__"))) (i:specialIn K (.builtin "object.__class__") "__get__"=some (some (.builtin "getset_descriptor.__get__"))) (e:takesIn K (.builtin "object.__class__")=some true) (j:mroIn K C (.type "object")=some true) (h:subIn K (.ref C) (.type "BaseException")=some true)
 (k:Q (some (.ref C)) { s with toks:=s.toks+1 }):wpAny (model prog w) A (getAttr? (.ref a) "__class__") Q E s:=by
 obtain⟨l,g,d,t,os⟩:=s
 unfold getAttr? getAttrBy?
 exact wpAny_bind (wpAny_mkText (wpAny_bind (wpAny_attempt (zkh X I b c f i e j h (wpAny_pure k)))))
noncomputable def xC (K:W.Frag) (C:Addr):Bool:=(clsIn K C).isSome&&findIn K (.ref C) "__getattribute__" == some (some (.builtin "BaseException.__getattribute__"))&&findIn K (.ref C) "__getattr__" == some none&&findIn K (.ref C) "__class__" == some (some (.builtin "object.__class__"))
 && specialIn K (.builtin "object.__class__") "__get__" == some (some (.builtin "getset_descriptor.__get__"))&&takesIn K (.builtin "object.__class__") == some true&&mroIn K C (.type "object") == some true&&subIn K (.ref C) (.type "BaseException") == some true
theorem zgd (q:xC K C=true):KitX K (.ref a) (.ref C) (λh=>∃ o,Of h a o C):=by
 unfold xC at q
 simp only[Bool.and_eq_true,beq_iff_eq]at q
 obtain⟨⟨⟨⟨⟨⟨⟨c,i⟩,f⟩,t⟩,v⟩,m⟩,x⟩,u⟩:=q
 obtain⟨A,b⟩:=Option.isSome_iff_exists.mp c
 unfold clsIn at b
 refine⟨λ_ _ _ ⟨_,I⟩=>I.type,λ_ _ X _=>?_,λh p y w n B X g=>?_,λX ⟨_,I⟩ k=>zdJ X I i f t v m x u k⟩
 .split at b
  .rename_i s r d l j
   intro A' Q' E' D k q
   unfold isType loadHead
   exact wpAny_bind (wpAny_loadPart (k _ _ (X _ _ j)) (wpAny_pure q))
  .cases b
 .refine Bool.eq_false_iff.mpr λq=>?_
  have e:C=p:=Value.ref.inj (beq_iff_eq.mp q)
  subst e
  split at b
  .rename_i s r d l j
   have z:=(X _ _ j).symm.trans g
   cases z
  .cases b
theorem ZH {c:Value}{b:Bool}{s:Shared}{Q:Value->Shared->Prop}(q:xC K C=true)(X:K.In s.heap)(I:∃ o,Of s.heap a o C)(e:kitOne K (.ref C) c=some b)(f:∀ d,Q (.bool b) { s with toks:=d }) :
 wpAny (model prog w) A (call (.builtin "isinstance") [.ref a,c]) Q E s:=kia_one (zgd q) X I e (by intro z;cases z) f
end
end L2
namespace L2
open PySem PySem.Spec PyProof.Rows
section
variable {P:Program}{w:World}{K:W.Frag}{mg:Str->Option Value}{base:Heap}
noncomputable def zd7 (P:Program)(w:World)(K:W.Frag)(mg:Str->Option Value)(base:Heap)(k:Nat)(f:Addr)(g:FuncData)(d:List Str)(c:Sp):Prop :=
 (∀ a H Q E,c a H Q E->a.length=d.length)/\∀ (A:Around) (outer:List Env) (s:Shared) (H:Hp) (args:Args) (b:List Value) (a:List V) (Q:VK) (E:XK) (e:Value),yL k A->ze9 P w K mg base A outer s H->BindsTo s g args (d.zip b)->zT a b->c a H Q E ->
  codeAny (model P w) (A.mark (some e)) (.call (.ref f) args) (CR CX0 outer P w H s Q E) s
theorem zh7 {x c:Str}{i:Stmt}{f:Addr}{G:FuncData}{N ps:List Str}{k:Nat}{C:Sp}(F:Fun K x c i f G)(S:yf N ps (zg i))(n:∀ g H Q E,C g H Q E->g.length=ps.length)
 (h:∀ (d:Value) (A:Around) (outer:List Env) (s:Shared) (H:Hp) (g:List V) (Q:VK) (E:XK) (p:Value),yL k (A.deeper (envOfC c (zg i) s.heap.objs.size f d))->C g H Q E ->
  ∃ t,PSs ((vR CX0 P w K mg base N c (zg i) f d A outer s H E).held p).nox (zU i) t/\t { nx:=λ_ H'=>Q .non H',rt:=Q } (start N g) H):zd7 P w K mg base (k+1) f G ps C:=by
 obtain⟨oc,od,kV,W,pm,an,d,ct,M,rfl,X,B⟩:=F.ex
 refine⟨n,λA outer s H args us g Q E p z m O r l=>?_⟩
 have KX:K.In s.heap:=m.mod.kin.keeps λb o e=>(m.bs b o e).1
 have lim:s.heap.NoLimit:=m.mod.nolimit.keeps λb o e=>(m.bs b o e).1
 refine codeAny_call_function (A:=A.mark (some p)) z.depth (KX _ _ X) rfl S.co S.gen rfl (PySem.W.codeRec_of KX B) (O _ _ _ _ ?_)
 refine wpAny_newFunctionEnv_cells S.kind (λy T=>?_) λenv he D x=>?_
 .rcases S.par y.1 (List.of_mem_zip (a:=y.1) (b:=y.2) T).1 with q | q
  .exact .inl q
  .exact .inr ⟨q,PySem.W.cellsFrom_some _ _ _ (.inl q)⟩
 subst he
 refine⟨lim.keeps x.toInCall.keep,codeAny_func ?_⟩
 obtain⟨t,ht,L⟩:=h d A outer s H g Q E p (z.deeper _) l
 have I:Inv (vR CX0 P w K mg base N c (zg i) f d A outer s H E) [] (start N g) H D:=YZ S z.hd m (n _ _ _ _ l) r x
 refine wpAny_mono (ht [] D (start N g) H _ ((I.held p).wish _) L) (λU Z j=>?_) λe Z j=>j.elim
 cases U with
 | ret u =>
  obtain⟨v,R,H',J,Y,q⟩:=j
  exact⟨v,H',J.os,J.bare,J.base,J.hok,Y,q⟩
 | next =>
  obtain⟨R,H',J,q⟩:=j
  exact⟨V.non,H',J.os,J.bare,J.base,J.hok,rfl,q⟩
 | brk =>
  obtain⟨_,_,_,q⟩:=j
  exact False.elim q
 | cont =>
  obtain⟨_,_,_,q⟩:=j
  exact False.elim q
end
theorem zfl {Y:Cx}{l:Value}{k:Nat}{f:Addr}{y:FuncData}{w:List Str}{n:Sp}{x:Str}{p b:Pos}{e:Expr}{d:List Expr}{t:TA}{E:XK}(F:zd7 Y.prog Y.w Y.K Y.mg Y.base k f y w n)(A:yL k Y.A)(G:Gl Y x)(K:Y.mg x=some (.ref f))(z:W.keepIn Y.K (.ref f)=true)(B:xf Y.K y w [])(j:Y.Ok)
 (D:PA (Y.held l).nox (e::d) t) (m:(x == ("__debug__":Str))=false:=by decide) (J:starEach (e::d) Y.env=(false,eval e Y.env)::starEach d Y.env:=by rfl) (g:(backTo b (starEach d Y.env)).any (·.1)=false:=by rfl) :
 PE (Y.held l).nox (.Call (.Name x p) (e::d) [] b) (zhu n [] E t):=by
 intro a s σ H Q I h
 refine wpAny_Call_Name_kw (wJ I G K ?_ m)
 refine W.callWith_K (h₀:=Y.base) I.ok.mod.kin z (thn (D b a s σ H _ I h) λo i ⟨v,H1,I1,r,q⟩=>⟨I1.kIn,?_⟩) J g
 have q:n (v++[]) H1 Q E:=q
 rw[List.append_nil]at q
 have I2:Inv Y a σ H1 i:=Inv.unheld (X:=Y) j I1.unwish
 refine wpAny_call (codeAny_mono (F.2 Y.A Y.stack i H1 ⟨o,[]⟩ o v Q E l A I2.env0 ?_ r q) λr L c=>?_)
 .have:=B i o I2.kIn (by rw[List.append_nil,<- r.length];exact F.1 _ _ _ _ q)
  rwa[List.append_nil]at this
 .cases r with
  | error e=>exact False.elim c
  | ok C =>
   cases C with
   | ret u=>exact I1.after c
   | next=>exact False.elim c
   | brk=>exact False.elim c
   | cont=>exact False.elim c
end L2
namespace L2
open PySem PySem.Spec PyProof.Rows PySem.SeqAt
theorem Xn:∀ {c:List Bool} {a:List Value},zT (c.map V.bl) a->a=c.map Value.bool
 | [],a,r=>by
  have:=r.length
  exact List.eq_nil_of_length_eq_zero (by rw[<-this];rfl)
 | b::c,a,r=>by
  cases r with
  | cons d e =>
   rw[Xn e]
   cases d
   rfl
theorem zaw {A:Around}{s:Shared}{a:List Bool}{y:Value}(h:y∈(a.map Value.bool).toArray):EqAt A s y (.bool true) (isBoolOf true y):=by
 obtain⟨b,_,rfl⟩:=List.mem_map.mp (List.mem_toArray.mp h)
 exact EqAt.bool_bool b true
noncomputable def zb6:V->List V->Hp->VK->Prop:=λx b H Q=>∃ (l:Addr) (a:List Bool),x=.ref l/\b=[.bl true]/\H l=some (.lst (a.map V.bl))/\Q (.int ((a.countP (· == true):Nat):Int)) H
theorem zdZ {X:Cx}:MtR X "list.count" zb6:=by
 intro c s σ H x z v A Q I o i h
 obtain⟨l,a,rfl,rfl,p,q⟩:=h
 cases o
 obtain⟨u,rfl,j⟩:=i.one
 cases j
 obtain⟨t,r,pl,w⟩:=I.list (SqL.of (K:=X.K) p)
 have e:=Xn r
 subst e
 obtain⟨⟨cls,k,data,m⟩,d,f,n,b⟩:=pl.isList
 simp only at f b
 subst f b
 refine call_meets PySem.F.slot_list_count ⟨_,d,rfl⟩ PySem.F.entry_list_count (PySem.F.args_list_count_2 _ _) (list_countAt l (a.map Value.bool).toArray n k m (.bool true) (isBoolOf true)) ⟨d,λy g=>zaw g,?_⟩
 refine⟨.int (((a.map Value.bool).toArray.toList.countP (isBoolOf true):Nat):Int),H,I.tok _,⟨_,rfl⟩,?_⟩
 rw[show(a.map Value.bool).toArray.toList=a.map Value.bool from rfl,List.countP_map]
 exact q
noncomputable def zdO:V->List V->Hp->VK->Prop:=λx b H Q=>∃ (l:Addr) (a:List Bool),x=.ref l/\b=[.bl true]/\H l=some (.lst (a.map V.bl))/\true∈a/\Q (.int ((a.idxOf true:Nat):Int)) H
theorem zey {X:Cx}:MtR X "list.index" zdO:=by
 intro d s σ H x G v L Q I E o h
 obtain⟨l,a,rfl,rfl,w,F,q⟩:=h
 cases E
 obtain⟨u,rfl,B⟩:=o.one
 cases B
 obtain⟨z,r,pl,k⟩:=I.list (SqL.of (K:=X.K) w)
 have e:=Xn r
 subst e
 obtain⟨⟨cls,t,data,D⟩,f,g,n,i⟩:=pl.isList
 simp only at g i
 subst g i
 have c:a.idxOf true < a.length:=List.idxOf_lt_length_iff.mpr F
 have j:=ZW
 have J:a.length<=sizeLine:=by simpa using k
 refine call_meets PySem.F.slot_list_index ⟨_,f,rfl⟩ PySem.F.entry_list_index (PySem.F.args_list_index_2 _ _) (list_indexAt l (a.map Value.bool).toArray n t D (.bool true) (isBoolOf true) (a.idxOf true) (by simpa using c) (by omega) ?_ ?_) ⟨f,λy A=>zaw A,⟨.int ((a.idxOf true:Nat):Int),H,I.tok _,⟨_,rfl⟩,q⟩⟩
 .simp only[List.getElem_toArray,List.getElem_map]
  rw[List.getElem_idxOf c]
  rfl
 .intro m C b
  simp only[List.getElem_toArray,List.getElem_map]
  exact List.not_of_lt_findIdx (p:=(· == true)) (xs:=a) b
end L2
namespace L2
open PySem PySem.Spec PyProof.Rows
noncomputable def clsV:V->Option Value
 | .ref C=>some (.ref C)
 | .ty T=>some (.type T)
 | _=>none
noncomputable def zlf (K:W.Frag):List V->Hp->VK->Prop:=λe H Q=>∃ (a C:Addr) (d:Option Addr) (v:V) (c:Value) (b:Bool),e=[.ref a,v]/\H a=some (zed a C d)/\xC K C=true/\clsV v=some c/\W.kitOne K (.ref C) c=some b/\Q (.bl b) H
theorem yc {X:Cx}:wb X (.builtin "isinstance") (zlf X.K):=by
 intro i s σ H z x Q I k h
 obtain⟨a,C,y,v,c,b,rfl,t,p,o,j,q⟩:=h
 obtain⟨f,d,rfl,g,e⟩:∃ f d,x=[f,d]/\yl (.ref a) f/\yl v d:=by
  cases k with
  | cons g r=>cases r with
   | cons e r=>cases r;exact⟨_,_,rfl,g,e⟩
 cases g
 have w:d=c:=by
  cases v <;> try cases o
  .cases e;rfl
  .cases e;rfl
 subst w
 obtain⟨⟨l,n,u,_⟩,_⟩:=I.hok a _ t
 exact ZH p I.kIn ⟨l,n,u⟩ j λm=>⟨.bl b,H,I.tok m,rfl,q⟩
theorem zaZ {K:W.Frag}{σ:St}{H:Hp}{a C:Addr}{d:Option Addr}{v:V}{c:Value}{b:Bool}{Q:VK}(h0:σ[0]?=some (some (.ref a)))(g:H a=some (zed a C d))(h:xC K C=true)(f:clsV v=some c)(e:W.kitOne K (.ref C) c=some b)(q:Q (.bl b) H) :
 tCB (zlf K) (YR (Yl 0) (YR (tC v) zdj)) σ H Q:=⟨.ref a,h0,⟨a,C,d,v,c,b,rfl,g,h,f,e,q⟩⟩
noncomputable def zbB (n j:Nat):List Bool:=(List.range n).map λi=>i == j
noncomputable def za5 (K:W.Frag) (a:List Addr) (CS C:Addr) (j:Nat):Bool:=xC K C&&(W.kitOne K (.ref C) (.type "ValueError") == some true)&&(W.exmOne K (.ref C) (.ref CS) == some true)&&(a.map (λc=>W.kitOne K (.ref C) (.ref c)) == (zbB a.length j).map some)
structure zba (K:W.Frag) (cs:List Addr) (CS C:Addr) (j:Nat):Prop where
 look:xC K C=true
 val:W.kitOne K (.ref C) (.type "ValueError")=some true
 exm:W.exmOne K (.ref C) (.ref CS)=some true
 hot:cs.map (λc=>W.kitOne K (.ref C) (.ref c))=(zbB cs.length j).map some
theorem zba.of {K:W.Frag}{a:List Addr}{CS C:Addr}{j:Nat}(h:za5 K a CS C j=true):zba K a CS C j:=by
 unfold za5 at h
 simp only[Bool.and_eq_true,beq_iff_eq]at h
 exact⟨h.1.1.1,h.1.1.2,h.1.2,h.2⟩
section
variable {K:W.Frag}{σ:St}{H H0:Hp}{a C:Addr}{od:Option Addr}
noncomputable def tIs (K:W.Frag):List Addr->TA
 | []=>zdj
 | c::r=>YR (tCB (zlf K) (YR (Yl 0) (YR (tC (.ref c)) zdj))) (tIs K r)
theorem zg4 (h0:σ[0]?=some (some (.ref a)))(i:H a=some (zed a C od))(h:xC K C=true):∀ (f:List Addr) (d:List Bool) (Q:List V->Hp->Prop),f.map (λc=>W.kitOne K (.ref C) (.ref c))=d.map some->Q (d.map V.bl) H->tIs K f σ H Q:=by
 intro f
 induction f with
 | nil =>
  intro d Q e q
  cases d with
  | nil=>exact q
  | cons b r=>cases e
 | cons c r k =>
  intro d Q e q
  cases d with
  | nil=>cases e
  | cons b d =>
   obtain⟨g,j⟩:=List.cons.inj e
   exact zaZ h0 i h rfl g (k d _ j q)
structure KSt (H0:Hp) (a C:Addr) (od:Option Addr) (bs:List Bool) (σ:St) (H:Hp):Prop where
 same:zD H0 H
 len:σ.length=2
 e0:σ[0]?=some (some (.ref a))
 he:H a=some (zed a C od)
 lst:∃ p,σ[1]?=some (some (.ref p))/\H p=some (.lst (bs.map V.bl))
theorem zds {c:List Bool}{p:Addr}(s:zD H0 H)(h:σ.length=2)(g:σ[0]?=some (some (.ref a)))(d:H a=some (zed a C od))(f:H p=none):KSt H0 a C od c (σ.set 1 (some (.ref p))) (upd H p (.lst (c.map V.bl))):=by
 refine⟨λb o e=>?_,by rw[List.length_set];exact h,?_,?_,p,?_,zf⟩
 .have:=s b o e
  rw[ze (zd this f)];exact this
 .rw[List.getElem?_set_ne (by decide)];exact g
 .rw[ze (zd d f)];exact d
 .rw[List.getElem?_set_self (by omega)]
theorem zcI {cs:List Addr}{bs:List Bool}{D:Wg}(g:xC K C=true)(e:cs.map (λc=>W.kitOne K (.ref C) (.ref c))=bs.map some)(h:bs.length<=sizeLine)(i:σ.length=2)(b:σ[0]?=some (some (.ref a)))(d:H a=some (zed a C od))(k:∀ f H',KSt H a C od bs f H'->D.nx f H') :
 zk2 (zmk (tIs K cs)) (ZN 1) D σ H :=
 zg4 b d g cs bs _ e ⟨by rw[List.length_map];exact h,λp j=>k _ _ (zds (.refl _) i b d j)⟩
theorem X9 {cs:List Addr}{d bs:List Bool}{D:Wg}(j:xC K C=true)(e:cs.map (λc=>W.kitOne K (.ref C) (.ref c))=bs.map some)(m:d.length+bs.length<=sizeLine)(S:KSt H0 a C od d σ H)(k:∀ g H',KSt H0 a C od (d++bs) g H'->D.nx g H') :
 zk2 (tOp zlJ (Yl 1) (zmk (tIs K cs))) (ZN 1) D σ H:=by
 obtain⟨p,i,h⟩:=S.lst
 refine⟨.ref p,i,zg4 S.e0 S.he j cs bs _ e ⟨by rw[List.length_map];omega,λq f=>?_⟩⟩
 refine⟨p,q,d.map V.bl,bs.map V.bl,rfl,rfl,by rw[ze (zd h f)];exact h,zf,by rw[List.length_map,List.length_map];exact m,λr l=>?_⟩
 rw[<-List.map_append]
 refine k _ _ (zds (λb o e=>?_) S.len S.e0 ?_ l)
 .have:=S.same b o e
  rw[ze (zd this f)];exact this
 .rw[ze (zd S.he f)];exact S.he
theorem zcs:∀ j:Nat,j < 13->(zbB 13 j).countP (· == true)=1/\(zbB 13 j).idxOf true=j/\true∈zbB 13 j:=by decide +kernel
theorem zhz {j:Nat} {D:Wg} {i:TS} (f:W.kitOne K (.ref C) (.type "ValueError")=some true) (d:xC K C=true) (g:j < 13) (S:KSt H0 a C od (zbB 13 j) σ H) (k:D.rt (.int j) H) :
 zlg (tIfS (tOr (tNot (tB (tCB (zlf K) (YR (Yl 0) (YR (tC (.ty "ValueError")) zdj))))) (zbT (tOp rNe (tBM K "list" zb6 (Yl 1) (YR (tC (.bl true)) zdj)) (tC (.int 1))))) i zkG) (zl7 (tBM K "list" zdO (Yl 1) (YR (tC (.bl true)) zdj))) D σ H:=by
 obtain⟨l,h,e⟩:=zcs j g
 obtain⟨p,c,b⟩:=S.lst
 refine zaZ S.e0 S.he d rfl f ⟨true,rfl,?_⟩
 show(if (!true)=true then _ else _)
 rw[if_neg (by decide)]
 refine⟨.ref p,c,.inl ⟨rfl,_,SqL.of b⟩,p,_,rfl,rfl,b,?_⟩
 rw[l]
 refine⟨rfl,false,by rw[XR];rfl,?_⟩
 show(if false=true then _ else _)
 rw[if_neg (by decide)]
 refine⟨.ref p,c,.inl ⟨rfl,_,SqL.of b⟩,p,_,rfl,rfl,b,e,?_⟩
 rw[h]
 exact k
end
noncomputable def zd4 (d:Nat->Addr)(ok:Nat->Prop):Sp:=λc H Q _=>∃ a j b,c=[.ref a]/\H a=some (zed a (d j) b)/\ok j/\∀ H',zD H H'->Q (.int (j:Nat)) H'
theorem PS.nox {X:Cx}{b:Stmt}{t:TS}(h:PS X.nox b t):PS X b t:=λa s σ H D I hw =>
 wpAny_mono (h a s σ H D (I.wish _) hw) (λ_ _ q=>q.unwish) λ_ _ z=>False.elim z
end L2
namespace Dl
open PySem L2
variable [KK]
theorem SD.nox {X:Cx}{a:Stmt}{g:SE->Ctl}(h:SD X.nox a g):SD X a g:=let ⟨t,p,r⟩:=h;⟨t,p.nox,r⟩
theorem SDs.nox {X:Cx}{a:List Stmt}{g:SE->Ctl}(h:SDs X.nox a g):SDs X a g:=let ⟨t,p,r⟩:=h;⟨t,p.nox,r⟩
noncomputable def xEx (a:Ev->Option Nat):SE->Option Nat:=fun ρ=>a (visG ρ)
theorem WW {E:XK}{cl:Nat->Addr}{X:Cx}{a:List Stmt}:XSs E cl X a xNo:=⟨λ_ _ _=>False,λ_ _ _ _ _ _ h=>h.elim,λ_ _ _ _ _ _ _ _ _ h _=>by cases h⟩
theorem Gr.more {F H H':Hp}(s:zD F H)(k:zD H H'):Gr F H F H':=⟨zD.refl _,s.trans k,λp o a b=>⟨.inl a,k p o b⟩⟩
noncomputable def zj8 (a:SE->Option Nat)(g:SE->Ctl)(h:Nat->Option D):SE->Ctl:=fun ρ=>match a ρ with
 | some j=>match h j with
  | some d=>.rt d
  | none=>.no
 | none=>g ρ
noncomputable def Wt (H:Hp)(j:Nat)(a:Option Addr):Prop:=match pay j with
 | none=>a=none
 | some c=>∃ b,a=some b/\H b=some (.xd c)
theorem Wt.mono {H H':Hp}{j:Nat}{a:Option Addr}(h:Wt H j a)(s:zD H H'):Wt H' j a:=by
 unfold Wt at h ⊢
 cases e:pay j with
 | none=>rw[e]at h;exact h
 | some f=>rw[e]at h;obtain⟨c,b,d⟩:=h;exact⟨c,b,s _ _ d⟩
structure Est (cl:Nat->Addr) (i j:Nat) (σ:St) (H:Hp) (a:Addr) (od:Option Addr):Prop where
 sl:σ[i]?=some (some (.ref a))
 he:H a=some (zed a (cl j) od)
 pa:Wt H j od
noncomputable def RU (c:Nat->Addr)(i:Nat)(u:TS)(h:Nat->Option D):Prop:=∀ (j:Nat) (d:D) (σ:St) (H:Hp) (a:Addr) (b:Option Addr) (D':Wg),h j=some d->Est c i j σ H a b->(∀ H' v,(∀ F,zD F H->∃ F',Gr F H F' H'/\At F' d v)->D'.rt v H')->u D' σ H
theorem zje {Y:Cx}{CS:Addr}{x n:Str}{i:Nat}{a l:List Stmt}{b₀:Stmt}{P y np:Pos}{B:Nat->Addr}{g:SE->Ctl}{G:SE->Option Nat}{u:TS}{h:Nat->Option D}(N:Y.stack=Y.env::Y.outer)(hf:Y.env.frame=some Y.env.locals)(O:Y.ex=[])
 (hN:Y.N.Nodup) (hi:Y.N[i]?=some n) (hk:Y.env.scope.names.lookup n=some .local) (hg:Gl Y x) (hm:Y.mg x=some (.ref CS))
 (S:∀ (c:List (Addr × Obj)) (W:Value->Shared->Prop) (E0:XK),xB (Air Y.prog Y.w) ((Y.pinned c).wish W) E0->XSs E0 B ((Y.pinned c).wish W) a G)
 (hb:∀ (c:List (Addr × Obj)) (W:Value->Shared->Prop),SDs ((Y.pinned c).wish W) a g)
 (C:∀ j d,h j=some d->PySem.W.exmOne Y.K (.ref (B j)) (.ref CS)=some true)
 (m:Y.Ok->∀ z,PSs (Y.held (.ref z)).nox (b₀::l) u) (hu:RU B i u h) (hd:(x == ("__debug__":Str))=false:=by decide) :
 SD Y.nox (.Try a [.ExceptHandler (some (.Name x np)) (some n) (b₀::l) y] [] [] P) (zj8 G g h):=by
 let M:XK->TS:=λE0 D σ H=>∀ (c:List (Addr × Obj)) (W:Value->Shared->Prop),xB (Air Y.prog Y.w) ((Y.pinned c).wish W) E0->∃ t,PSs ((Y.pinned c).wish W) a t/\t D σ H
 refine⟨λD σ H=>M (exW Y.K CS i Y.N.length u D) D σ H,λf s σ H D I K=>?_,λFb Hb F H ρ σ D X k=>?_⟩
 .refine zjA (tb:=M) N hf O hN hi hk hg hm (λc W E0 Q f s σ H D I K=>?_) (m I.ok.unwish) hd f s σ H D I K
  obtain⟨t,p,ht⟩:=K c W Q
  exact p f s σ H D I ht
 .intro c W Q
  unfold zj8 at k
  cases e:G ρ with
  | none =>
   rw[e]at k
   obtain⟨t,p,r⟩:=hb c W
   exact⟨t,p,r Fb Hb F H ρ σ D X k⟩
  | some j =>
   rw[e]at k
   dsimp only at k
   cases E:h j with
   | none=>rw[E]at k;exact k.elim
   | some d =>
    rw[E]at k
    obtain⟨t,p,r⟩:=S c W _ Q
    refine⟨t,p,r Fb Hb F H ρ σ D j X e λF' H' J=>?_⟩
    have Z:∀ (A:Option Addr) (H0:Hp),zD H' H0->Wt H0 j A->exW Y.K CS i Y.N.length u D (.ref (B j)) A H0:=λA H0 U pa=>⟨_,rfl,C j d E,λz σ' hl hn=>by
     have L:i < σ'.length:=by
      rw[hl]
      exact(List.getElem?_eq_some_iff.mp hi).1
     have w:zD H0 (upd H0 z (zed z (B j) A)):=λb o q=>by rw[ze (zd q hn)];exact q
     refine hu j d _ _ z A _ E ⟨by rw[List.getElem?_set_self L],zf,pa.mono w⟩ λH'' v av=>?_
     obtain⟨F2,g2,a2⟩:=av F' (J.fh.trans (U.trans w))
     exact k F2 H'' v ((J.trans (Gr.more J.fh (U.trans w))).trans g2) a2⟩
    unfold EJ
    cases V:pay j with
    | none=>exact Z none H' (zD.refl _) (by unfold Wt;rw[V])
    | some fs=>exact λT R=>Z (some T) _ (λb o q=>by rw[ze (zd q R)];exact q) (by unfold Wt;rw[V];exact⟨T,rfl,zf⟩)
noncomputable def SX (c:Nat->Addr)(i:Nat)(t:TE)(f:Nat->Option D):Prop:=∀ (j:Nat) (d:D) (σ:St) (H:Hp) (a:Addr) (b:Option Addr) (Q:VK),f j=some d->Est c i j σ H a b->(∀ H' v,zD H H'->(∀ F,At F d v)->Q v H')->t σ H Q
section
variable {cl:Nat->Addr}{i:Nat}
noncomputable def fK (a:List Nat):Nat->Option D:=λj=>if j % 16∈a then some (.int (j % 16:Nat))else none
theorem zgn {f:List Nat}{E:XK}{ok:Nat->Prop}(c:∀ j,cl j=cl (j % 16))(b:∀ j,j∈f->ok j):SX cl i (zhu (zd4 cl ok) [] E (YR (Yl i) zdj)) (fK f):=by
 intro j d σ H a m Q e g k
 unfold fK at e
 split at e <;> try cases e
 rename_i h
 refine⟨.ref a,g.sl,a,j % 16,m,rfl,?_,b _ h,λH' l=>k H' _ l λF=>.int⟩
 rw[<-c j]
 exact g.he
noncomputable def fA (f:Str)(b:List Nat):Nat->Option D:=λj=>if j % 16∈b then (pay j).bind λa=>match a.lookup f with
 | some (.int n)=>some (.int n)
 | _=>none
 else none
theorem zjl {t:TE}{f:Nat->Option D}(h:SX cl i t f):RU cl i (zl7 t) f:=λj d σ H a l D' e g k =>
 h j d σ H a l _ e g λH' v c b=>k H' v λF s=>⟨F,Gr.more s c,b F⟩
noncomputable def fIfEq (f:Nat->Option D)(c:Int)(b a:Nat->Option D):Nat->Option D:=λj=>match f j with
 | some (.int n)=>if n=c then b j else a j
 | _=>none
noncomputable def fEq (f:Nat->Option D)(c:Int):Nat->Option D:=λj=>match f j with
 | some (.int n)=>some (.bl (decide (n=c)))
 | _=>none
theorem zmd {t:TE}{f:Nat->Option D}{c:Int}(h:SX cl i t f):SX cl i (tOp rEq t (tC (.int c))) (fEq f c):=λj d σ H a m Q e l k=>by
 unfold fEq at e
 split at e <;> cases e
 rename_i n o
 refine h j _ σ H a m _ o l λH' v g b=>?_
 cases (b H).int_inv
 refine⟨rfl,?_⟩
 rw[XR]
 exact k H' _ g λF=>by rw[show((n:Int) == c)=decide ((n:Int)=c)from rfl];exact .bl
end
end Dl
namespace L2
open PySem PySem.Spec PyProof.Rows
noncomputable def excN (a C t:Addr)(b:Option Addr):HO:=.ext λh=>∃ c,h.get? a=some { cls:=.ref C,dict:=b,data:=.fields #[.ref t,.none,.none,.none,.bool false,.none],slots:=c }
noncomputable def spI (K:W.Frag)(m:Nat)(ns:List Str)(g:List V->List (Str × V)):Sp:=λd H Q _=>∃ a C t c,d=.ref a::c/\c.length=m/\H a=some (excN a C t none)/\zjm K C/\(∀ f,f∈ns->wY K C f)/\∀ b,H b=none->Q .non (upd (upd H b (.xd (g c))) a (excN a C t (some b)))
end L2
namespace Dl
open PySem L2
variable [KK]
noncomputable def V9 (b:D->SE->Option SE)(a:SE->Option Nat)(g:SE->Ctl):List D->SE->Option Nat
 | [],_=>none
 | d::ds,ρ=>match b d ρ with
  | none=>none
  | some e=>match a e with
   | some j=>some j
   | none=>match g e with
    | .nx c=>V9 b a g ds c
    | .ct c=>V9 b a g ds c
    | _=>none
end Dl
namespace L2
open PySem PySem.Spec PyProof.Rows
noncomputable def zaS (s:Stmt)(k:Nat):Stmt:=match s with
 | .ClassDef _ _ _ a _ _ _ _ _ _ _=>a.getD k s
 | _=>s
noncomputable def noAt (K:W.Frag)(C:Addr)(ns:List Str):Bool:=ns.all λn=>W.findIn K (.ref C) n == some none
theorem V6 {K:W.Frag}{C:Addr}{ns:List Str}(h:noAt K C ns=true):∀ n,n∈ns->W.findIn K (.ref C) n=some none:=λn a=>beq_iff_eq.mp (List.all_eq_true.mp h n a)
end L2
namespace Dl
open PySem L2
noncomputable def zi2 (a:List Nat)(h:Nat->Option D):Nat->Option D:=λj=>if j % 16∈a then h j else none
theorem zh1 {a:List Nat}{h:Nat->Option D}{j:Nat}{d:D}(e:zi2 a h j=some d):j % 16∈a:=by
 unfold zi2 at e
 split at e
 .assumption
 .cases e
theorem zjG {b:Nat->Addr}{i:Nat}{c:List Nat}{u:TS}{h:Nat->Option D}[KK](r:RU b i u h):RU b i u (zi2 c h):=λj d σ H a g D' e f k=>by
 unfold zi2 at e
 split at e
 .exact r j d σ H a g D' e f k
 .cases e
end Dl
namespace OwnDk
open PySem
section
variable {prog:Program}{w:World}{A:Around}{E:Value->Shared->Prop}{s:Shared}
theorem WQ (hh:A.handled=none)(I a:Addr)(hne:a≠I){ob:Obj}{es:Array DictEntry}{ep:Nat}(hd:ob.data=.dict es ep) :
 Walks prog w A I [I,a] [I] es.size (λi v=>∃ e,es[i]?=some e/\v=e.key) (λi h=>h.IsKeyIter I a i es.size ep/\h.get? a=some ob) where
 sub:=λb hb=>by simp at hb;simp[hb]
 frame:=λ_ _ _ x hk=>⟨x.1.at λo e=>hk I (by simp) o e,hk a (by simp) _ x.2⟩
 item:=λi s Q E hi x hQ=>by
  have hx:es[i]?=some (es[i]'hi):=Array.getElem?_eq_getElem _
  refine L2.raw_next x.1 x.2 hd hx λh' he' hs'=>?_
  exact hQ _ h' s.toks ⟨_,hx,rfl⟩ ⟨he',(hs'.2 a hne).trans x.2⟩ λb o hb eo=>hs'.extBut b o (λh=>hb (by simp[h])) eo
 done:=λs Q E x hQ=>L2.raw_end hh x.1 x.2 hd (Nat.le_refl _) λh' he'=>hQ h' s.toks λb o hb eo=>he' b o (λh=>hb (by simp[h])) eo
 self:=λ_ _ _ _ x hQ=>wpAny_pyIter_keyiter x.1 hQ
theorem Yo {a:Addr}{v:Obj}{f:Array DictEntry}{u:Nat}{Q:List Value->Shared->Prop}(R:A.handled=none)(X:(a == sysModules)=false)(M:s.heap.get? a=some v)(I:v.ExactDict)(O:v.data=.dict f u)(h8:f.size<=sizeLine)
 (S:∀ m,(∀ b o,s.heap.get? b=some o->m.heap.get? b=some o)->m.gens=s.gens->m.drawn=s.drawn->m.os=s.os->Q (f.toList.map (·.key)) m):wpAny (model prog w) A (collect (.ref a)) Q E s:=by
 have C:a < s.heap.objs.size:=Heap.lt_size M
 have r:s.heap.objs.size≠a:=Nat.ne_of_gt C
 unfold collect
 refine wpAny_bind (wpAny_runValue (codeAny_builtin F.entry_proto_collect ?_))
 rw[Around.under_plainId F.plain_proto_collect _]
 show wpAny _ A.in1 (newList []>>=λl=>again (.builtin "list.__iadd__" ⟨[l,.ref a],[]⟩)) _ _ s
 refine wpAny_bind (wpAny_newObj_type ?_)
 refine wpAny_pure ⟨plainId_quiet F.plain_list_iadd _,codeAny_builtin F.entry_list_iadd ?_⟩
 rw[Around.under_plainId F.plain_list_iadd _]
 have j:(s.heap.push { cls:=.type "list",data:=.seq ([]:List Value).toArray }).get? a=some v:=Heap.get?_push_of_some _ M
 have D:(s.heap.push { cls:=.type "list",data:=.seq ([]:List Value).toArray }).get? s.heap.objs.size=some { cls:=.type "list",data:=.seq ([]:List Value).toArray }:=Heap.get?_push_size _ rfl
 generalize y:s.heap.push { cls:=.type "list",data:=.seq ([]:List Value).toArray }=h1 at j D ⊢
 have k1:∀ b o,s.heap.get? b=some o->h1.get? b=some o:=λb o e=>by rw[<-y];exact Heap.get?_push_of_some _ e
 have n:h1.objs.size=s.heap.objs.size+1:=by rw[<-y];exact Heap.size_push ..
 show wpAny _ A.in1 (Builtin.List.listExtendWith (.ref s.heap.objs.size) (.ref a) (.ref s.heap.objs.size)) _ _ _
 unfold Builtin.List.listExtendWith
 refine wpAny_bind (wpAny_typeOf (T:="dict") ⟨_,j,I.1⟩ ?_)
 have U:Builtin.List.listSameRef (.ref s.heap.objs.size) (.ref a)=false:=by simp[Builtin.List.listSameRef,r]
 have g2:(Value.type "dict" == Value.type "list")=false:=by decide
 have V:(Value.type "dict" == Value.type "tuple")=false:=by decide
 simp only[U,g2,V,Bool.or_false,Bool.false_eq_true,if_false]
 refine wpAny_bind (L2.raw_iter X j I O ?_)
 have B:(h1.push { cls:=.type "dict_keyiterator",data:=.fields #[.ref a,.int 0 0,.int f.size 0,.int u 0] }).IsKeyIter h1.objs.size a 0 f.size u:=⟨_,Heap.get?_push_size _ rfl,rfl,rfl⟩
 have t:(h1.push { cls:=.type "dict_keyiterator",data:=.fields #[.ref a,.int 0 0,.int f.size 0,.int u 0] }).get? a=some v:=Heap.get?_push_of_some _ j
 have q:=Heap.get?_push_of_some { cls:=.type "dict_keyiterator",data:=.fields #[.ref a,.int 0 0,.int f.size 0,.int u 0] } D
 generalize H:h1.push { cls:=.type "dict_keyiterator",data:=.fields #[.ref a,.int 0 0,.int f.size 0,.int u 0] }=h2 at B t q ⊢
 have Z:∀ b o,h1.get? b=some o->h2.get? b=some o:=λb o e=>by rw[<-H];exact Heap.get?_push_of_some _ e
 refine wpAny_bind (wpAny_holding (PySem.W.kdl_hint_dict ⟨_,t,I.1⟩ ?_))
 show wpAny _ A.in1 (if true=true then _ else _) _ _ _
 rw[if_pos rfl]
 refine wpAny_bind (wpAny_rule (wpAny_bind ?_))
 show wpAny _ A.in1 (updateSeq s.heap.objs.size (·.push .none)>>=λ_=>updateSeq s.heap.objs.size (·.pop)) _ _ _
 refine wpAny_bind (wpAny_updateSeq q rfl ?_)
 have x:=Heap.get?_update_self (Obj.mapSeq (·.push Value.none)) q rfl
 refine wpAny_updateSeq (hz:=by seq_fits) x rfl ?_
 have K:=Heap.get?_update_self (Obj.mapSeq (·.pop)) x rfl
 have p:∀ b o,b≠s.heap.objs.size->h2.get? b=some o->((h2.update s.heap.objs.size (Obj.mapSeq (·.push Value.none))).update s.heap.objs.size (Obj.mapSeq (·.pop))).get? b=some o :=
  λb o N e=>(Heap.get?_update_other _ _ (Ne.symm N)).trans ((Heap.get?_update_other _ _ (Ne.symm N)).trans e)
 have k:h1.objs.size≠s.heap.objs.size:=by rw[n];exact Nat.succ_ne_self _
 have J:a≠h1.objs.size:=by rw[n];exact Nat.ne_of_lt (Nat.lt_succ_of_lt C)
 have W:=WQ (prog:=prog) (w:=w) (A:=A.in1) R h1.objs.size a J O
 refine wpAny_pure ⟨plainId_quiet F.plain_extend_loop _,codeAny_extend_loopS W.toS h8 _ (λg=>?_) _ f.size 0 _ #[] _ rfl (Nat.zero_le _) ⟨B.at λo e=>p _ _ k e,p _ _ (Ne.symm r) t⟩ K (ItemsOf.nil _) λm d c' h G c=>?_⟩
 .rcases List.mem_cons.mp g with e | e
  .exact k e.symm
  .exact r (List.mem_singleton.mp e)
 .show wpAny _ A (load s.heap.objs.size>>=_) _ _ m
  refine wpAny_bind (wpAny_load G ?_)
  refine wpAny_pure ?_
  have Y:d.toList=f.toList.map (·.key):=by
   apply List.ext_getElem?
   intro i
   by_cases L:i < f.size
   .have P:d[i]?=some (d[i]'(by rw[c.1];exact L)):=Array.getElem?_eq_getElem _
    obtain⟨e,q2,q3⟩:=c.2 i _ P
    rw[List.getElem?_map,Array.getElem?_toList,Array.getElem?_toList,P,q2,q3]
    rfl
   .rw[List.getElem?_eq_none (by rw[Array.length_toList,c.1];exact Nat.le_of_not_lt L),List.getElem?_eq_none (by rw[List.length_map,Array.length_toList];exact Nat.le_of_not_lt L)]
  rw[Y]
  refine S m (λb o e=>h.heap b o (λg=>?_) (p b o (Nat.ne_of_lt (Heap.lt_size e)) (Z b o (k1 b o e)))) h.gens h.drawn h.os
  rcases List.mem_cons.mp g with z | z
  .exact Nat.ne_of_lt (Heap.lt_size e) z
  .have:=Heap.lt_size e
   rw[List.mem_singleton.mp z,n]at this
   exact absurd (Nat.lt_of_succ_lt this) (Nat.lt_irrefl _)
theorem own_sorted_dict {a:Addr}{u:Obj}{l:Array DictEntry}{I:Nat}{Q:Value->Shared->Prop}(H:A.handled=none)(hs:(a == sysModules)=false)(N:s.heap.get? a=some u)(K:u.ExactDict)(Y:u.data=.dict l I)(g:l.size < 10000000)(D:∀ v∈l.toList.map (·.key),∃ t,OwnSortT.TT s.heap v t)
 (h:∀ (f B:Heap) (x:Nat) (d:Array Value) (c:Nat),d.toList.Perm (l.toList.map (·.key))->OwnSortT.Rise s.heap d.toList->(∀ b o,s.heap.get? b=some o->f.get? b=some o)->(∀ b o,f.get? b=some o->B.get? b=some o) ->
  B.get? f.objs.size=some { cls:=.type "list",dict:=none,data:=.seq d c,slots:=#[] }->Q (.ref f.objs.size) { s with heap:=B,toks:=x }) :
 wpAny (model prog w) A (call (.builtin "sorted") [.ref a]) Q E s:=by
 refine Calls.call_function_entry PyProof.Rows.kind_sorted PyProof.Rows.plain_sorted PyProof.Rows.entry_sorted (PyProof.Rows.args_sorted1 _) ?_
 unfold Builtin.«sorted»
 refine wpAny_bind (m:=checkCount "sorted" 1 1 _) (wpAny_pure (wpAny_bind (Yo H hs N K Y (Nat.le_trans (Nat.le_of_lt g) (by rw[sizeLine_eq];decide)) λL k R g2 S=>?_)))
 obtain⟨f,g',W,T,z⟩:=L
 have V:g'=s.gens:=R
 have O:W=s.drawn:=g2
 have P:z=s.os:=S
 subst V O P
 have g:(l.toList.map (·.key)).length < 10000000:=by rw[List.length_map,Array.length_toList];exact g
 generalize l.toList.map (·.key)=vs at *
 refine wpAny_bind (wpAny_newList ?_)
 have j:(f.push (PyProof.Rows.seqObj "list" vs.toArray 0)).get? f.objs.size=some (PyProof.Rows.seqObj "list" vs.toArray 0):=Heap.get?_push_size _ rfl
 have F:∀ b o,s.heap.get? b=some o->(f.push (PyProof.Rows.seqObj "list" vs.toArray 0)).get? b=some o:=λb o e=>Heap.get?_push_of_some _ (k b o e)
 refine wpAny_bind (wpAny_holding (wpAny_call_entry PyProof.Rows.slot_list_sort ⟨_,j,rfl⟩ PyProof.Rows.entry_list_sort (OwnSortT.ownT_list_sort j (λv q=>let ⟨t,y⟩:=D v q;⟨t,y.keep F⟩) g λd G p2=>⟨_,rfl,?_⟩) (PyProof.Rows.args_list_sort _)))
 have n:OwnSortT.Rise s.heap d.toList:=by
  obtain⟨X,M,q2,Z⟩:=p2
  refine⟨X,M,λi v t q y=>?_,Z⟩
  obtain⟨t0,p⟩:=D v (G.mem_iff.mp (List.mem_of_getElem? q))
  rw[(q2 i v t q y).uniq (p.keep F)]
  exact p
 have hn:∀ b o,b≠f.objs.size->(f.push (PyProof.Rows.seqObj "list" vs.toArray 0)).get? b=some o->(PyProof.Rows.sortedHeap (f.push (PyProof.Rows.seqObj "list" vs.toArray 0)) f.objs.size vs d).get? b=some o:=λb o C e=>by
  unfold PyProof.Rows.sortedHeap
  exact(Heap.get?_update_other _ _ (Ne.symm C)).trans (Heap.get?_push_of_some _ (Heap.get?_push_of_some _ ((Heap.get?_update_other _ _ (Ne.symm C)).trans e)))
 have r:∃ c,(PyProof.Rows.sortedHeap (f.push (PyProof.Rows.seqObj "list" vs.toArray 0)) f.objs.size vs d).get? f.objs.size=some { cls:=.type "list",dict:=none,data:=.seq d c,slots:=#[] }:=by
  unfold PyProof.Rows.sortedHeap
  have U:=Heap.get?_update_self (Obj.mapSeq λ_=>(#[]:Array Value)) j rfl
  have J:=Heap.get?_push_of_some (PyProof.Rows.seqObj "list" #[] 0) (Heap.get?_push_of_some (PyProof.Rows.seqObj "tuple" vs.toArray 0) U)
  exact⟨_,Heap.get?_update_self (Obj.mapSeq λ_=>d) J rfl⟩
 obtain⟨c,r⟩:=r
 exact wpAny_pure ⟨_,rfl,h f _ _ d c G n k (λb o e=>hn b o (Nat.ne_of_lt (Heap.lt_size e)) (Heap.get?_push_of_some _ e)) r⟩
end
end OwnDk
namespace Dl
open PySem L2
noncomputable def zhd:List Key->Option (List Int)
 | []=>some []
 | .inl i::r=>(zhd r).map (i::·)
 | _=>none
noncomputable def V3:List (List Key)->Option (List (List Int))
 | []=>some []
 | k::ks=>match zhd k with
  | some (i::t)=>(V3 ks).map ((i::t)::·)
  | _=>none
theorem zfW:∀ {k:List Key} {t:List Int},zhd k=some t->k=t.map Sum.inl:=by
 intro k
 induction k with
 | nil=>intro t h;cases h;rfl
 | cons a k b =>
  intro t h
  cases a with
  | inl i =>
   obtain⟨r,e,rfl⟩:=Option.map_eq_some_iff.mp h
   rw[b e]
   rfl
  | inr x=>cases h
theorem zeL:∀ {b:List (List Key)} {a:List (List Int)},V3 b=some a->b=a.map (λt=>t.map Sum.inl)/\∀ t∈a,t≠[]:=by
 intro b
 induction b with
 | nil=>intro a h;cases h;exact⟨rfl,λt h=>by cases h⟩
 | cons k b g =>
  intro a h
  unfold V3 at h
  split at h
  .rename_i i t e
   obtain⟨r,d,rfl⟩:=Option.map_eq_some_iff.mp h
   obtain⟨j,f⟩:=g d
   refine⟨by rw[j,zfW e];rfl,λu c=>?_⟩
   rcases List.mem_cons.mp c with rfl | c
   .exact List.cons_ne_nil _ _
   .exact f u c
  .cases h
noncomputable def zi3 (t:List Int):List (List Int)->List (List Int)
 | []=>[t]
 | u::us=>if HT.lexLt u t=true then u::zi3 t us else t::u::us
noncomputable def v4:List (List Int)->List (List Int)
 | []=>[]
 | t::ts=>zi3 t (v4 ts)
theorem WB (t:List Int):∀ a:List (List Int),(zi3 t a).Perm (t::a):=by
 intro a
 induction a with
 | nil=>exact List.Perm.refl _
 | cons u a b =>
  unfold zi3
  split
  .exact(b.cons u).trans (List.Perm.swap _ _ _)
  .exact List.Perm.refl _
theorem Y9:∀ a:List (List Int),(v4 a).Perm a:=by
 intro a
 induction a with
 | nil=>exact List.Perm.refl _
 | cons t a b=>exact(WB t _).trans (b.cons t)
theorem zd6 (t:List Int):∀ f:List (List Int),f.Pairwise (λa b=>HT.lexLt b a=false)->(zi3 t f).Pairwise λa b=>HT.lexLt b a=false:=by
 intro f
 induction f with
 | nil=>intro _;exact List.pairwise_singleton _ _
 | cons u f g =>
  intro h
  rw[List.pairwise_cons]at h
  unfold zi3
  by_cases c:HT.lexLt u t=true
  .rw[if_pos c]
   refine List.pairwise_cons.mpr ⟨λv d=>?_,g h.2⟩
   rcases List.mem_cons.mp ((WB t f).mem_iff.mp d)with rfl | d
   .cases e:HT.lexLt v u with
    | false=>rfl
    | true =>
     have:=OwnSortT.lex_trans _ _ _ c e
     rw[OwnSortT.lex_irr]at this
     cases this
   .exact h.1 v d
  .rw[if_neg c]
   have c:HT.lexLt u t=false:=by cases e:HT.lexLt u t with
    | false=>rfl
    | true=>exact absurd e c
   refine List.pairwise_cons.mpr ⟨λv d=>?_,List.pairwise_cons.mpr h⟩
   rcases List.mem_cons.mp d with rfl | d
   .exact c
   .cases e:HT.lexLt v t with
    | false=>rfl
    | true =>
     rcases OwnSortT.lex_neg v u t e with z | z
     .rw[h.1 v d]at z;cases z
     .rw[c]at z;cases z
theorem VC:∀ c:List (List Int),(v4 c).Pairwise λa b=>HT.lexLt b a=false:=by
 intro c
 induction c with
 | nil=>exact List.Pairwise.nil
 | cons t c d=>exact zd6 t _ d
theorem Zv {c d:List (List Int)}(p:d.Perm c)(h:d.Pairwise λa b=>HT.lexLt b a=false):d=v4 c :=
 List.Perm.eq_of_pairwise (le:=λa b=>HT.lexLt b a=false) (λa b _ _ f e=>OwnSortT.lex_total _ _ e f) h (VC c) (p.trans (Y9 c).symm)
noncomputable def zmm (t:List Int):D:=.tup (t.map .int)
noncomputable def zbb:List D->Option (List D)
 | [.dct _ true ks _]=>if ks.length < 64 then (V3 ks).map λa=>(v4 a).map zmm else none
 | _=>none
variable [KK]
section
variable {X:Cx}{e:Expr}{pos:Pos}
theorem Gr.seeL {H:Hp}:∀ {F:Hp} (d:List (Addr × List V)),zD F H->(∀ b∈d,H b.1=some (.tup b.2))->∃ F',Gr F H F' H/\∀ b∈d,F' b.1=some (.tup b.2):=by
 intro F d
 induction d generalizing F with
 | nil=>intro s _;exact⟨F,.refl s,λb h=>by cases h⟩
 | cons b d g =>
  intro s h
  obtain⟨F1,e,f⟩:=Gr.see s (h b List.mem_cons_self)
  obtain⟨F2,g2,i⟩:=g e.fh λc a=>h c (List.mem_cons_of_mem _ a)
  refine⟨F2,e.trans g2,λc a=>?_⟩
  rcases List.mem_cons.mp a with rfl | a
  .exact g2.ff _ _ f
  .exact i c a
theorem Ve (M:X.calm=true):wb X (.builtin "sorted") (λC H Q=>∃ F a z ks ys x,C=[.ref a]/\zD F H/\XO F a z true ks ys/\ks.length < 10000000/\V3 ks=some x/\∀ l zs F',H l=none->Gr F H F' H->AtL F' ((v4 x).map zmm) zs->Q (.ref l) (upd H l (.lst zs))):=by
 intro W s σ H C us Q I r h
 obtain⟨F,a,z,ks,ys,x,rfl,sm,O,a4,hk,q⟩:=h
 obtain⟨u,rfl,ru⟩:=YS r
 cases ru
 obtain⟨rfl,Y⟩:=zeL hk
 rw[List.length_map]at a4
 obtain⟨u,hu,hz⟩:=O.mono sm
 unfold zac at hu
 rw[if_pos rfl]at hu
 obtain⟨J,rfl,a1,-⟩:=hu
 have ok:yb X.prog X.w H s.heap a (.dT J):=by
  cases z with
  | true=>rw[if_pos rfl]at hz;obtain⟨ob,e⟩:=hz;exact(show yb X.prog X.w H s.heap a (.frz ob (.dT J))from I.hok a _ e).2
  | false=>rw[if_neg Bool.false_ne_true]at hz;exact I.hok a _ hz
 obtain⟨_,a8,C,pr,o,es,ep,e1,ex,dt,he,nd⟩:=ok
 have hp:=Paired.length pr
 have b6:J.length=x.length:=by have:=congrArg List.length a1;rw[List.length_map,List.length_map]at this;exact this
 have E:es.toList.map (·.key)=C.map λq=>Value.ref q.2.1:=by rw[he,List.map_map];rfl
 have a7:es.size < 10000000:=by rw[<-Array.length_toList,he,List.length_map];omega
 have b0:∀ {l:List (List Key × V)} {m:List (List Key × Addr × Value)},Paired (λp q=>p.1=q.1/\H q.2.1=some (.tup (p.1.map kV))/\yl p.2 q.2.2) l m->∀ (j:Nat) (k:j < l.length) (G:j < m.length),l[j].1=m[j].1/\H m[j].2.1=some (.tup (l[j].1.map kV)):=λ{l m} r=>by
  induction r with
  | nil=>intro j k;simp at k
  | cons h t P =>
   intro j k G
   cases j with
   | zero=>exact⟨h.1,h.2.1⟩
   | succ j=>exact P j (by simpa using k) (by simpa using G)
 have U:∀ (j:Nat) (k:j < x.length) (G:j < C.length),H C[j].2.1=some (.tup (x[j].map V.int)):=λj k G=>by
  have h3:j < J.length:=by omega
  obtain⟨-,r2⟩:=b0 pr j h3 G
  have T:J[j].1=x[j].map Sum.inl:=by
   have:=congrArg (λl=>l[j]?) a1
   simp only[List.getElem?_map]at this
   rw[List.getElem?_eq_getElem h3,List.getElem?_eq_getElem k]at this
   exact Option.some.inj this
  rw[r2,T,List.map_map]
  rfl
 have L:∀ {v:Value},v∈(C.map λq=>Value.ref q.2.1)->∃ b t,v=.ref b/\t∈x/\H b=some (.tup (t.map V.int))/\OwnSortT.TT s.heap v t:=λ{v} hv=>by
  obtain⟨j,hj,rfl⟩:=List.getElem_of_mem hv
  rw[List.length_map]at hj
  have R:j < x.length:=by omega
  have D:=U j R hj
  rw[List.getElem_map]
  obtain⟨us,ru,⟨o,ho,S,n,O⟩,_⟩:=I.tuple (SqT.of D)
  exact⟨C[j].2.1,x[j],rfl,List.getElem_mem R,D,C[j].2.1,o,n,us,rfl,ho,S,O,xV ru,Y _ (List.getElem_mem R)⟩
 refine OwnDk.own_sorted_dict (I.ok.hd M) a8 e1 ex dt a7 (λv hv=>by rw[E]at hv;obtain⟨b,t,-,-,-,N⟩:=L hv;exact⟨t,N⟩) λk h' tk a3 c pm ri k1 k2 hL=>?_
 rw[E]at pm
 obtain⟨us,l1,l2,l3⟩:=ri
 have a0:∀ (y:List Value) (f:List (List Int)),y.length=f.length->(∀ w∈y,w∈C.map λq=>Value.ref q.2.1)->(∀ (i:Nat) v t,y[i]?=some v->f[i]?=some t->OwnSortT.TT s.heap v t)->∃ B:List (Addr × List Int),B.map (·.2)=f/\zT (B.map λb=>V.ref b.1) y/\∀ b∈B,H b.1=some (.tup (b.2.map V.int)):=by
  intro y
  induction y with
  | nil =>
   intro f K _ _
   cases f with
   | nil=>exact⟨[],rfl,.nil,λb h=>by cases h⟩
   | cons _ _=>simp at K
  | cons w y P =>
   intro f K hm N
   cases f with
   | nil=>simp at K
   | cons t f =>
    obtain⟨B,Z,z1,z2⟩:=P f (by simpa using K) (λw' b5=>hm w' (List.mem_cons_of_mem _ b5)) (λi v t k G=>N (i+1) v t (by simpa using k) (by simpa using G))
    obtain⟨a,t',rfl,_,ha,a5⟩:=L (hm w List.mem_cons_self)
    have et:t'=t:=a5.uniq (N 0 _ t rfl rfl)
    subst et
    exact⟨(a,t')::B,by rw[List.map_cons,Z],.cons rfl z1,λb D=>by
     rcases List.mem_cons.mp D with rfl | D
     .exact ha
     .exact z2 b D⟩
 obtain⟨B,Z,z1,z2⟩:=a0 a3.toList us l1 (λw hw=>pm.mem_iff.mp hw) l2
 have A:us.Perm x:=by
  have kv:∀ (y:List Value) (f:List (List Int)),y.length=f.length->(∀ (i:Nat) v t,y[i]?=some v->f[i]?=some t->OwnSortT.TT s.heap v t)->f=y.map λv=>(OwnSortT.keyTT s.heap v).getD []:=by
   intro y
   induction y with
   | nil=>intro f K _;cases f with
    | nil=>rfl
    | cons _ _=>simp at K
   | cons w y P =>
    intro f K N
    cases f with
    | nil=>simp at K
    | cons t f =>
     rw[List.map_cons,OwnSortT.keyTT_of (N 0 w t rfl rfl),<- P f (by simpa using K) λi v t k G=>N (i+1) v t (by simpa using k) (by simpa using G)]
     rfl
  rw[kv _ _ l1 l2,kv (C.map λq=>Value.ref q.2.1) x (by rw[List.length_map];omega) λi v t k G=>?_]
  .exact pm.map _
  .obtain⟨hi,e2⟩:=List.getElem?_eq_some_iff.mp k
   obtain⟨a2,T⟩:=List.getElem?_eq_some_iff.mp G
   rw[List.length_map]at hi
   have D:=U i a2 hi
   rw[T]at D
   obtain⟨b4,a6,⟨o,ho,S,n,O⟩,_⟩:=I.tuple (SqT.of D)
   exact⟨C[i].2.1,o,n,b4,by rw[<-e2,List.getElem_map],ho,S,O,xV a6,Y t (by rw[<-T];exact List.getElem_mem a2)⟩
 have T:=Zv A l3
 subst T
 obtain⟨F',g,hF⟩:=Gr.seeL (B.map λb=>(b.1,b.2.map V.int)) sm λb D=>by
  obtain⟨c,M,rfl⟩:=List.mem_map.mp D
  exact z2 c M
 have az:AtL F' ((v4 x).map zmm) (B.map λb=>V.ref b.1):=by
  rw[<-Z]
  clear Z z1 pm l1 l2
  induction B with
  | nil=>exact .nil
  | cons b B P=>exact .cons (.tup (hF (b.1,b.2.map V.int) (List.mem_map.mpr ⟨b,List.mem_cons_self,rfl⟩)) (.ints _)) (P (λc M=>z2 c (List.mem_cons_of_mem _ M)) (λc M=>by
   obtain⟨d,O,rfl⟩:=List.mem_map.mp M
   exact hF _ (List.mem_map.mpr ⟨d,List.mem_cons_of_mem _ O,rfl⟩)))
 have I2:Inv X W σ H { s with heap:=k,toks:=tk }:=I.kept λb u e=>k1 b u e
 have a9:(B.map λb=>V.ref b.1).length<=sizeLine:=by
  have hh:B.length=(v4 x).length:=by rw[<-Z,List.length_map]
  rw[List.length_map,hh,(Y9 x).length_eq,sizeLine_eq]
  omega
 exact⟨.ref k.objs.size,_,I2.laid (t':=tk) (λb o e=>k2 b o e) (Nat.le_refl _) (show yb X.prog X.w _ h' _ (.lst (B.map λb=>V.ref b.1)) from⟨a9,a3.toList,c,z1,by simpa using hL⟩),rfl,q _ _ F' (I2.hok.fresh (Nat.le_refl _)) g az⟩
theorem zbs {p:Pos} {f:Ev->Option (List D)} (u:X.calm=true) (c:Gl X "sorted") (M:X.mg "sorted"=none) (K:AD X [e] f)
 (L:starEach [e] X.env=(false,eval e X.env)::starEach [] X.env:=by rfl) (b:(backTo pos (starEach [] X.env)).any (·.1)=false:=by rfl):FL X (.Call (.Name "sorted" p) [e] [] pos) (fFn zbb f):=by
 obtain⟨t,v,n⟩:=K
 refine⟨_,zN (Ve u) c M Vb v (by decide) (by decide) L b,fun σ ρ F H z Q s A e q=>?_⟩
 obtain⟨m,E,w⟩:=Option.bind_eq_some_iff.mp e
 refine n σ ρ F H m _ s A E λF1 H1 O h I=>?_
 have a:=w
 unfold zbb at a
 split at a
 .rename_i k N P
  split at a <;> try cases a
  rename_i i
  obtain⟨G,y,rfl⟩:=Option.map_eq_some_iff.mp a
  obtain⟨x,r,rfl,j,o⟩:=I.cons_inv
  cases o.nil_inv
  obtain⟨p,C,rfl,J,bl⟩:=j.dct_inv
  refine⟨F1,p,k,N,C,G,rfl,h.fh,J,(by omega),y,λl zs F' d g B=>?_⟩
  have g2:=h.trans g
  exact q _ _ _ _ (g2.trans (Gr.hide g2.fh d _)) (WP g2 d) (g2.fh.free d) zf B
 .cases a
end
end Dl
namespace L2
open PySem PySem.Spec PyProof.Rows
section
variable {X:Cx}
noncomputable def zke:V->List V->Hp->VK->Prop:=λx b H Q=>∃ l a y,x=.ref l/\b=[]/\H l=some (.lst (a++[y]))/\Q y (upd H l (.lst a))
theorem zcd {b:List V}{y:V}{a:List Value}(r:zT (b++[y]) a):∃ f u,a=f++[u]/\zT b f/\yl y u:=by
 have d:=r.take b.length
 have c:=r.drop b.length
 rw[List.take_left]at d
 rw[List.drop_left]at c
 obtain⟨u,e,g⟩:=c.one
 refine⟨a.take b.length,u,?_,d,g⟩
 have:=List.take_append_drop b.length a
 rw[e]at this
 exact this.symm
theorem zhY:MtM X "list.pop" zke:=by
 intro c s σ H x p v w Q I m i h
 obtain⟨l,d,y,rfl,rfl,f,q⟩:=h
 cases m
 cases i
 obtain⟨z,o,n,r,t,e⟩:=I.lstM f
 obtain⟨a,u,rfl,b,j⟩:=zcd r
 have g:d.length+1<=sizeLine:=by rw[List.length_append]at z;exact z
 have k:a.length=d.length:=b.length.symm
 refine call_meets F.slot_list_pop ⟨_,e,rfl⟩ F.entry_list_pop (F.args_list_pop_1 _) (PySem.MeetsSeq.list_pop_last l (a++[u]).toArray n u (by simp) (by rw[List.size_toArray,List.length_append,k];exact g)) ⟨e,?_⟩
 refine⟨y,_,I.lset (its':=a) f e (by simp[List.eraseIdx_append_of_length_le]) b (by omega),j,q⟩
end
end L2
namespace Dl
open PySem L2
section
variable [KK]{X:Cx}{a:Expr}{pos:Pos}
theorem AtL.unsnoc {F:Hp}{a:List D}{d:D}{b:List V}(h:AtL F (a++[d]) b):∃ g y,b=g++[y]/\AtL F a g/\At F d y:=by
 have f:=h.take a.length
 have c:=h.drop a.length
 rw[List.take_left]at f
 rw[List.drop_left]at c
 obtain⟨y,r,e,j,i⟩:=c.cons_inv
 cases i.nil_inv
 refine⟨b.take a.length,y,?_,f,j⟩
 have:=List.take_append_drop a.length b
 rw[e]at this
 exact this.symm
end
noncomputable def b3:D->Option (List (Option D))
 | .tup [x,y,z]=>some [some x,some y,some z]
 | _=>none
end Dl
namespace Dl
open PySem L2
variable [KK]
theorem edv {X:Cx} (i:Nat) {x:Str} {b:Pos} (e:X.N[i]?=some x:=by rfl) (c:Vis X.env.scope x:=by first | exact Or.inl rfl | exact Or.inr (Or.inl rfl) | exact Or.inr (Or.inr rfl)) (d:(x == ("__debug__":Str))=false:=by decide)
 (a:(x == ("__classdict__":Str))=false:=by decide):ED X (.Name x b) (zc i):=zjc i (pv i e c d a)
theorem zM {X:Cx}{x:Str}{j k m:Nat}{f:Addr}{i:FuncData}{l:List Str}{s:Stmt}{p:List D->Option D}{e:Expr}{b:List Expr}{n a:Pos}{h:Ev->Option (List D)}(F:xA X.prog X.w X.K X.mg X.base CX0 j f i l (spD m p))(o:yL k X.A)(t:Gl X x)(d:Def X.K X.mg x s l f i)
 (r:AD X (e::b) h) (q:j<=k:=by decide) (g:(x == ("__debug__":Str))=false:=by decide) (u:starEach (e::b) X.env=(false,eval e X.env)::starEach b X.env:=by rfl) (c:(backTo a (starEach b X.env)).any (·.1)=false:=by rfl) :
 ED X (.Call (.Name x n) (e::b) [] a) (zp m p h):=zhq (F.mono q) o t d.at_ d.kp d.bd r g u c
end Dl
namespace L2
open PySem PySem.Spec PyProof.Rows
theorem zdk:∀ {b:List Str} {a:List Value},zT (b.map V.str) a->∃ l:List (Str × Tok),a=strValues l/\l.map (·.1)=b:=by
 intro b
 induction b with
 | nil=>intro a h;cases h;exact⟨[],rfl,rfl⟩
 | cons x b c =>
  intro a h
  cases h with
  | cons r t =>
   obtain⟨u,rfl⟩:=r
   obtain⟨l,rfl,e⟩:=c t
   exact⟨(x,u)::l,rfl,by rw[List.map_cons,e]⟩
theorem zdH (l:List (Str × Tok)):zT ((l.map (·.1)).map V.str) (strValues l):=by
 induction l with
 | nil=>exact .nil
 | cons p l a=>exact .cons ⟨p.2,rfl⟩ a
section
variable {X:Cx}
noncomputable def zkY (K:W.Frag):V->List V->Hp->VK->Prop:=λx c H Q=>∃ a p b,x=.str a/\c=[.ref p]/\SqL K H p (b.map V.str)/\JoinOk a b=true/\Q (.str (Txt.join a b)) H
theorem zcl:MtM X "str.join" (zkY X.K):=by
 intro b s σ H x o v y Q I g d h
 obtain⟨j,p,n,rfl,rfl,f,a,q⟩:=h
 obtain⟨t,rfl⟩:=g
 obtain⟨u,rfl,e⟩:=d.one
 cases e
 obtain⟨c,r,pl,m⟩:=I.list f
 obtain⟨l,rfl,i⟩:=zdk r
 exact SC.join (D:=p) pl.isList i a λw k=>⟨.str _,H,I.tok _,⟨_,rfl⟩,q⟩
theorem zex {e:Program}{w:World}{A:Around}{E:Value->Shared->Prop}{s:Shared}{a b:Str}{c f:Tok}{Q:Value->Shared->Prop}(i:(b.length == 0)=false)(j:a.length+2<=sizeLine)
 (q:∀ (l:List (Str × Tok)) (k:Nat),l.map (·.1)=Txt.split a b->Q (.ref s.heap.objs.size) { s with heap:=s.heap.push { cls:=.type "list",data:=.seq (strValues l).toArray },toks:=k }) :
 wpAny (model e w) A (call (.builtin "str.split") [.str a c,.str b f]) Q E s:=by
 have h:(Builtin.Str.partsBetween a (Builtin.Str.occurrences a b 0 a.length (a.length+1)) b.length).length<=sizeLine:=by
  have z:=StrLaws.occ_length_le a b 0 a.length (a.length+1)
  rw[length_partsBetween]
  omega
 cases d:(decide (a.length < b.length)||decide (Builtin.Str.strKind a < Builtin.Str.strKind b)) with
 | true=>exact call_meets F.slot_str_split (typeIs_str s a c) F.entry_str_split (F.args_str_split_2 _ _) (meets_str_split_cannot_occur a b c f d) (q [(a,c)] s.toks (by unfold Txt.split;rw[if_pos d];rfl))
 | false =>
  cases g:(Builtin.Str.occurrences a b 0 a.length (a.length+1)).isEmpty with
  | true=>exact call_meets F.slot_str_split (typeIs_str s a c) F.entry_str_split (F.args_str_split_2 _ _) (meets_str_split_not_found a b c f d i g) (q [(a,c)] s.toks (by unfold Txt.split;rw[if_neg (by rw[d];decide),if_pos g];rfl))
  | false =>
   refine call_meets F.slot_str_split (typeIs_str s a c) F.entry_str_split (F.args_str_split_2 _ _) (meets_str_split_sep a b c f d i g (by omega) h) ?_
   have z:=q (numbered s.toks (Builtin.Str.partsBetween a (Builtin.Str.occurrences a b 0 a.length (a.length+1)) b.length))
   rw[<-strsFrom_eq]at z
   exact z _ (by rw[numbered_texts];unfold Txt.split;rw[if_neg (by rw[d];decide),if_neg (by rw[g];decide)])
noncomputable def zgy:V->List V->Hp->VK->Prop:=λx c H Q=>∃ a b,x=.str a/\c=[.str b]/\(b.length == 0)=false/\a.length+2<=sizeLine/\(Txt.split a b).length<=sizeLine/\∀ l,H l=none->Q (.ref l) (upd H l (.lst ((Txt.split a b).map V.str)))
theorem za9:MtM X "str.split" zgy:=by
 intro c s σ H x m v o Q I f d h
 obtain⟨a,b,rfl,rfl,g,i,j,q⟩:=h
 obtain⟨t,rfl⟩:=f
 obtain⟨u,rfl,n,rfl⟩:=d.one
 refine zex g i λl k e=>?_
 refine⟨.ref _,_,I.lnew (ys:=(Txt.split a b).map V.str) (its:=strValues l) (by rw[<-e];exact zdH l) (by rw[List.length_map];exact j),rfl,q _ I.fresh⟩
theorem Wq:wb X (.type "int") (λc H Q=>∃ a n,c=[.str a]/\a.length<=640/\intText? a=some n/\Q (.int n) H):=by
 intro b s σ H c f Q I r h
 obtain⟨a,n,rfl,d,e,q⟩:=h
 obtain⟨u,rfl,t,rfl⟩:=YS r
 exact call_int_1 (PySem.W.KIN.gives_text d e).meets (show(Made.int n).post _ s from⟨rfl,.int n,H,I.tok _,⟨_,rfl⟩,q⟩)
noncomputable def Its (a:Str):It:=⟨λi _=>i < a.cps.size,λi H x H'=>H'=H/\∃ c,a.cps[i]?=some c/\x=.str ⟨#[c]⟩,λi _=>a.cps.size<=i⟩
theorem zfy {P:Program} {w:World} {K:W.Frag} {tg:Expr} (a:Str) (t:Tok) (it:Addr):ziV P w K tg (Its a) [it] it (λi h=>h.IsStrIter it "str_ascii_iterator" a t i) where
 mem:=List.mem_singleton.mpr rfl
 obj:=λi h st b hb=>by
  obtain rfl:=List.mem_singleton.mp hb
  obtain⟨o,e,_,d⟩:=st
  exact⟨o,e,λv z=>by rw[d]at z;cases z⟩
 keep:=λi h h' st k=>by
  obtain⟨o,e,r⟩:=st
  exact⟨o,k it (List.mem_singleton.mpr rfl) o e,r⟩
 item:=by
  intro X hP hw hK hc i pins s σ H E I hf st hg
  subst hP hw hK
  have hg:i < a.cps.size:=hg
  obtain⟨f0,f1,f2,f3,f4,f5⟩:=hf it (List.mem_singleton.mpr rfl)
  refine wpAny_pyNext_ascii_item st (c:=a.cps[i]) (Array.getElem?_eq_getElem hg) λh' st' sb=>?_
  have I1:Inv X pins σ H { s with heap:=h',toks:=s.toks+1 }:=I.turned (t':=s.toks+1) (λb o hb e=>(sb.2 b hb).trans e) f0 f1 f3 f4 f5
  obtain⟨o,e,c,d⟩:=id st'
  exact⟨_,rfl,zf1 (s:={ s with heap:=h',toks:=s.toks+1 }) e c d (by decide) ⟨.str ⟨#[a.cps[i]]⟩,H,I1,⟨_,rfl⟩,⟨rfl,_,Array.getElem?_eq_getElem hg,rfl⟩,st',λb hb=>(hf b hb).1⟩⟩
 done:=by
  intro X hP hw hK hc i pins s σ H E I hf st hg
  subst hP hw hK
  have hg:a.cps.size<=i:=hg
  obtain⟨f0,f1,f2,f3,f4,f5⟩:=hf it (List.mem_singleton.mpr rfl)
  exact wpAny_pyNext_ascii_end (I.ok.hd hc) st (Array.getElem?_eq_none hg) λh' eb=>⟨rfl,I.turned (t':=s.toks) (λb o hb e=>eb b o hb e) f0 f1 f3 f4 f5⟩
 self:=λ_ _ _ _ _ st h=>wpAny_pyIter_striter_ascii st h
noncomputable def iTxt (t:TE):TI:=fun σ H R=>t σ H λx H1=>∃ a,x=.str a/\a.cps.all (· < 128)=true/\R (Its a) H1
theorem zjj {g e:Expr}{t:TE}(h:PE X e t):PI X g e (iTxt t):=by
 intro c s σ H R I q
 refine thn (h c s σ H _ I q) λv d hh9=>?_
 obtain⟨x,H1,I1,f,j⟩:=hh9
 obtain⟨a,rfl,i,q⟩:=j
 obtain⟨u,rfl⟩:=f
 refine wpAny_pyIter_ascii i ?_
 refine⟨_,[d.heap.objs.size],_,Its a,H1,rfl,I1.kept (t':=d.toks) (λb o e=>Heap.get?_push_of_some _ e),zfy a u _,⟨_,Heap.get?_push_size _ rfl,rfl,rfl⟩,λb k=>?_,q⟩
 rw[List.mem_singleton.mp k]
 exact I1.fpOk (Nat.le_refl _) (I1.hok.fresh (Nat.le_refl _))
end
end L2
namespace Dl
open PySem L2 PySem.Spec PyProof.Rows
variable [KK]
section
variable {X:Cx}{tg a b e:Expr}{pos:Pos}
noncomputable def Zt:List D->Option (List Str)
 | []=>some []
 | .str x::ds=>(Zt ds).map (x::·)
 | _=>none
omit [KK] in
theorem Xh (a:List Str):Zt (a.map .str)=some a:=by
 induction a with
 | nil=>rfl
 | cons x a b=>show(Zt (a.map .str)).map (x::·)=_;rw[b];rfl
theorem AtL.strs {F:Hp}:∀ {a:List D} {b:List Str} {c:List V},Zt a=some b->AtL F a c->c=b.map V.str:=by
 intro a
 induction a with
 | nil=>intro b c h f;cases h;exact f.nil_inv
 | cons d a j =>
  intro b c h f
  cases d with
  | str x =>
   obtain⟨l,e,rfl⟩:=Option.map_eq_some_iff.mp h
   obtain⟨y,r,rfl,i,g⟩:=f.cons_inv
   rw[j e g,i.str_inv]
   rfl
  | _=>cases h
theorem AtL.ofStrs {F:Hp}(a:List Str):AtL F (a.map D.str) (a.map V.str):=by
 induction a with
 | nil=>exact .nil
 | cons x a b=>exact .cons .str b
noncomputable def zbh (c d:D):Option D:=match c,d with
 | .str s,.lst ds=>(Zt ds).bind λa=>if JoinOk s a=true then some (.str (Txt.join s a))else none
 | _,_=>none
theorem zcb {p:Pos}{f:Ev->Option D}{g:Ev->Option (List D)}(L:ED X a f)(u:AD X [e] g)
 (O:∀ {b:TE} {t:TA},PE X a b->PA X [e] t->PE X (.Call (.Attribute a "join" p) [e] [] pos) (tBM X.K "str" (zkY X.K) b t)):ED X (.Call (.Attribute a "join" p) [e] [] pos) (zcz zbh f g):=by
 obtain⟨b,x,o⟩:=L
 obtain⟨t,K,N⟩:=u
 refine⟨_,O x K,fun σ ρ F H z Q s m h0 q=>?_⟩
 obtain⟨c,C,n⟩:=Option.bind_eq_some_iff.mp h0
 obtain⟨T,A,h⟩:=Option.bind_eq_some_iff.mp n
 clear h0 n
 split at h
 .rename_i d
  unfold zbh at h
  split at h
  .rename_i k P
   obtain⟨E,B,h⟩:=Option.bind_eq_some_iff.mp h
   split at h <;> cases h
   rename_i j
   refine o σ ρ F H _ _ s m C λF1 H1 v i G=>?_
   cases G.str_inv
   refine⟨rfl,?_⟩
   refine N σ ρ F1 H1 _ _ i.fh (m.mono i.ff) A λF2 H2 R g2 J=>?_
   obtain⟨y,U,rfl,r,w⟩:=J.cons_inv
   cases w.nil_inv
   obtain⟨l,S,rfl,I,M⟩:=r.lst_inv
   have:=M.strs B
   subst this
   exact⟨k,l,E,rfl,rfl,SqL.of (g2.fh _ _ I),j,q F2 H2 _ (i.trans g2) .str⟩
  .cases h
 .cases h
noncomputable def zax (c d:D):Option (List D):=match c,d with
 | .str x,.str y=>if (y.length == 0)=false/\x.length<=100000/\(Txt.split x y).length<=100000 then some ((Txt.split x y).map .str)else none
 | _,_=>none
noncomputable def ziG (m:D->D->Option (List D))(f:Ev->Option D)(g:Ev->Option (List D)):Ev->Option (List D):=fun ρ=>(f ρ).bind λc=>(g ρ).bind λa=>match a with
 | [d]=>m c d
 | _=>none
theorem zaF {p:Pos}{f:Ev->Option D}{g:Ev->Option (List D)}(J:ED X a f)(L:AD X [e] g)
 (N:∀ {i:TE} {t:TA},PE X a i->PA X [e] t->PE X (.Call (.Attribute a "split" p) [e] [] pos) (tBM X.K "str" zgy i t)):FL X (.Call (.Attribute a "split" p) [e] [] pos) (ziG zax f g):=by
 obtain⟨i,A,r⟩:=J
 obtain⟨t,I,M⟩:=L
 refine⟨_,N A I,fun σ ρ F H z Q s m h0 q=>?_⟩
 obtain⟨c,C,n⟩:=Option.bind_eq_some_iff.mp h0
 obtain⟨P,B,h⟩:=Option.bind_eq_some_iff.mp n
 clear h0 n
 split at h
 .rename_i d
  unfold zax at h
  split at h
  .rename_i x y
   split at h <;> cases h
   rename_i o
   refine r σ ρ F H _ _ s m C λF1 H1 v j E=>?_
   cases E.str_inv
   refine⟨rfl,?_⟩
   refine M σ ρ F1 H1 _ _ j.fh (m.mono j.ff) B λF2 H2 O g2 G=>?_
   obtain⟨u,R,rfl,K,w⟩:=G.cons_inv
   cases w.nil_inv
   cases K.str_inv
   have S:100002<=sizeLine:=by rw[sizeLine_eq];decide
   have b:=j.trans g2
   exact⟨x,y,rfl,rfl,o.1,by omega,by omega,λl k=>q _ _ _ _ (b.trans (Gr.hide g2.fh k _)) (WP b k) (g2.fh.free k) zf (AtL.ofStrs _)⟩
  .cases h
 .cases h
noncomputable def zbV:List D->Option D
 | [.int i]=>if 0<=i/\i < 1000000 then some (.str (Str.ofString (toString i)))else none
 | _=>none
theorem X2:CaD (λf H Q=>∃ i,f=[.int i]/\i.natAbs.log2 < 1920/\Q (.str (toString i)) H) zbV:=by
 intro F H k j z Q s g h q
 unfold zbV at h
 split at h
 .rename_i i
  split at h <;> cases h
  rename_i l
  obtain⟨x,r,rfl,a,d⟩:=g.cons_inv
  cases d.nil_inv
  refine⟨i,by rw[a.int_inv],?_,q F H _ (.refl s) .str⟩
  by_cases c:i.natAbs=0
  .rw[c];decide
  .have e:(2:Nat) ^ 20=1048576:=by decide
   have b:i.natAbs < 2 ^ 20:=by rw[e];omega
   exact(Nat.log2_lt c).mpr (Nat.lt_of_lt_of_le b (Nat.pow_le_pow_right (by decide) (by decide)))
 .cases h
noncomputable def zhj:List D->Option D
 | [.str x]=>if x.length<=640 then (intText? x).map .int else none
 | _=>none
theorem zeR:CaD (λe H Q=>∃ a n,e=[.str a]/\a.length<=640/\intText? a=some n/\Q (.int n) H) zhj:=by
 intro F H j i z Q s d h q
 unfold zhj at h
 split at h
 .rename_i x
  split at h
  .rename_i f
   obtain⟨n,g,rfl⟩:=Option.map_eq_some_iff.mp h
   obtain⟨y,r,rfl,b,c⟩:=d.cons_inv
   cases c.nil_inv
   exact⟨x,n,by rw[b.str_inv],f,g,q F H _ (.refl s) .int⟩
  .cases h
 .cases h
noncomputable def zeW:List D->Option D
 | [.str x]=>if x.length<=100000 then some (.int (x.length:Int))else none
 | _=>none
theorem zaN:CaD (λd H Q=>∃ z,d=[.str z]/\z.length<=sizeLine/\Q (.int z.length) H) zeW:=by
 intro F H f e z Q s c h q
 unfold zeW at h
 split at h
 .rename_i x
  split at h <;> cases h
  rename_i g
  obtain⟨y,r,rfl,a,b⟩:=c.cons_inv
  cases b.nil_inv
  have i:100002<=sizeLine:=by rw[sizeLine_eq];decide
  exact⟨x,by rw[a.str_inv],by omega,q F H _ (.refl s) .int⟩
 .cases h
noncomputable def zlA:D->D->Option D
 | .str x,.int i=>if x.length<=100000 then (L2.atI x.cps.toList i).map λc=>.str ⟨#[c]⟩else none
 | _,_=>none
theorem zhS:OpD zl8 zlA:=by
 intro F H x y d e z Q s b f a q
 unfold zlA at a
 split at a
 .rename_i w i
  split at a
  .rename_i h
   obtain⟨c,g,rfl⟩:=Option.map_eq_some_iff.mp a
   have j:100002<=sizeLine:=by rw[sizeLine_eq];decide
   exact⟨w,i,c,b.str_inv,f.int_inv,by omega,g,q F H _ (.refl s) .str⟩
  .cases a
 .cases a
theorem zj3 {f h:Ev->Option D}(d:ED X a f)(c:ED X b h)(e:V8 b):ED X (.Subscript a b pos) (zh zlA f h) :=
 let ⟨_,pa,ra⟩:=d
 let ⟨_,pb,rb⟩:=c
 ⟨_,zjv zgN pa pb e,zd0 zhS ra rb⟩
noncomputable def zlE:D->D->Option D
 | .str x,.str y=>some (.bl (!(Builtin.Str.occurrences y x 0 y.length 1).isEmpty))
 | _,_=>none
theorem zib:OpD (λx y H Q=>∃ i j,x=.str i/\y=.str j/\Q (.bl (!(Builtin.Str.occurrences j i 0 j.length 1).isEmpty)) H) zlE:=by
 intro F H x y d e z Q s b c a q
 unfold zlE at a
 split at a <;> cases a
 exact⟨_,_,b.str_inv,c.str_inv,q F H _ (.refl s) .bl⟩
noncomputable def zkk:D->Option (List D)
 | .str x=>if x.cps.all (· < 128)=true then some (x.cps.toList.map λc=>.str ⟨#[c]⟩)else none
 | _=>none
noncomputable def iTx (f:Ev->Option D):Ev->Option (List D):=fun ρ=>(f ρ).bind zkk
theorem zj5 {f:Ev->Option D}(B:ED X a f):ID X tg a (iTx f):=by
 obtain⟨t,p,r⟩:=B
 refine⟨_,zjj p,fun σ ρ F H G R s o e q=>?_⟩
 obtain⟨d,u,g⟩:=Option.bind_eq_some_iff.mp e
 refine r σ ρ F H d _ s o u λF1 H1 v n z=>?_
 unfold zkk at g
 split at g
 .rename_i x
  split at g <;> cases g
  rename_i A
  refine⟨x,z.str_inv,A,q F1 H1 _ n λi F2 H2 E l=>⟨λC=>?_,λd k=>?_⟩⟩
  .show x.cps.size<=i
   rw[List.length_map,Array.length_toList]at C
   omega
  .rw[List.getElem?_map]at k
   obtain⟨c,h,rfl⟩:=Option.map_eq_some_iff.mp k
   have j:i < x.cps.size:=by have:=(List.getElem?_eq_some_iff.mp h).1;rwa[Array.length_toList]at this
   refine⟨j,λy H3 w=>?_⟩
   obtain⟨rfl,m,b,rfl⟩:=w
   have:m=c:=by
    rw[Array.getElem?_toList]at h
    rw[h]at b
    exact(Option.some.inj b).symm
   subst this
   exact⟨F2,.refl l,.str⟩
 .cases g
end
end Dl
namespace Mz
open PySem Dl
noncomputable abbrev Tie:=Int × Int
noncomputable def ltP (s t:Tie):Prop:=s.1 < t.1\/(s.1=t.1/\s.2 < t.2)
noncomputable instance (s t:Tie):Decidable (ltP s t):=by unfold ltP;infer_instance
theorem zdm {a b c:Tie}(h:ltP a b)(k:ltP b c):ltP a c:=by
 unfold ltP at *
 omega
noncomputable def zi (t:Tie):D:=.tup [.int t.1,.int t.2]
theorem zdx {s t:Tie}(h:zi s=zi t):s=t:=by
 unfold zi at h
 injection h with h
 injection h with h1 h2
 injection h2 with h2 _
 injection h1 with h1
 injection h2 with h2
 exact Prod.ext h1 h2
noncomputable def z0 (b:Int)(a:List Tie):D:=.tup [.int b,.tup (a.map zi)]
structure wr (many:Int) (ties:List Tie):Prop where
 lo:1<=many
 hi:many<=8
 rng:∀ t∈ties,0<=t.1/\t.1 < t.2/\t.2 < many
 srt:ties.Pairwise ltP
noncomputable def leP (s t:Tie):Bool:=if s.1=t.1 then (if s.2=t.2 then true else decide (s.2<=t.2))else decide (s.1<=t.1)
theorem Y4 {s t:Tie}:leP s t=false↔ltP t s:=by
 unfold leP ltP
 by_cases h:s.1=t.1
 .rw[if_pos h]
  by_cases k:s.2=t.2
  .rw[if_pos k];simp;omega
  .rw[if_neg k,decide_eq_false_iff_not];omega
 .rw[if_neg h,decide_eq_false_iff_not];omega
noncomputable def w6:D->Option Tie
 | .tup [.int a,.int b]=>some (a,b)
 | _=>none
theorem ws (t:Tie):w6 (zi t)=some t:=rfl
theorem YT {d:D}{t:Tie}(h:w6 d=some t):d=zi t:=by
 unfold w6 at h
 split at h
 .cases h;rfl
 .cases h
noncomputable def inR (m a:Int):Bool:=decide (0<=a)&&decide (a<=m - 1)
noncomputable def y9 (m:Int)(d:D):Bool:=match w6 d with
 | some t=>inR m t.1&&inR m t.2&&!decide (t.1=t.2)
 | none=>false
noncomputable def Ww (p:Option Tie)(t:Tie):Bool:=match p with
 | some q=>!leP t q
 | none=>true
noncomputable def z3 (m:Int):Option Tie->List D->Bool
 | _,[]=>true
 | p,d::r=>match w6 d with
  | some t=>y9 m d&&!decide (t.2 < t.1)&&Ww p t&&z3 m (some t) r
  | none=>false
noncomputable def wO (m:Int):D->Bool
 | .tup a=>z3 m none a
 | _=>false
noncomputable def wZ:D->Bool
 | .tup [.int m,t]=>decide (1<=m)&&decide (m<=8)&&wO m t
 | _=>false
theorem Yf (m:Int):∀ (c:List D) (p:Option Tie),z3 m p c=true↔∃ l:List Tie,c=l.map zi/\(∀ t∈l,0<=t.1/\t.1 < t.2/\t.2 < m)/\(∀ q,p=some q->∀ t∈l,ltP q t)/\l.Pairwise ltP:=by
 intro c
 induction c with
 | nil =>
  intro p
  refine⟨λ_=>⟨[],rfl,by simp,by simp,.nil⟩,λ_=>rfl⟩
 | cons d r x =>
  intro p
  unfold z3
  cases e:w6 d with
  | none =>
   refine Iff.intro (λh=>nomatch h) (λw=>?_)
   obtain⟨l,h,_⟩:=w
   cases l with
   | nil=>cases h
   | cons t o =>
    rw[List.map_cons]at h
    injection h with i _
    rw[i,ws]at e
    cases e
  | some t =>
   have y:=YT e
   subst y
   simp only[y9,ws,Bool.and_eq_true,Bool.not_eq_true',decide_eq_false_iff_not,inR,decide_eq_true_eq]
   rw[x (some t)]
   constructor
   .rintro⟨⟨⟨⟨⟨i,s⟩,A⟩,C⟩,z⟩,l,rfl,f,g,j⟩
    refine⟨t::l,rfl,?_,?_,List.pairwise_cons.mpr ⟨g t rfl,j⟩⟩
    .intro u a
     rcases List.mem_cons.mp a with rfl | a
     .omega
     .exact f u a
    .rintro q rfl u a
     have b:ltP q t:=Y4.mp (by simpa [Ww]using z)
     rcases List.mem_cons.mp a with rfl | a
     .exact b
     .exact zdm b (g t rfl u a)
   .rintro⟨l,h,f,g,j⟩
    cases l with
    | nil=>cases h
    | cons u o =>
     rw[List.map_cons]at h
     injection h with i s
     have a:=zdx i
     subst a
     have B:=f t (by simp)
     refine⟨⟨⟨⟨⟨by omega,by omega⟩,by omega⟩,by omega⟩,?_⟩,o,s,λv n=>f v (by simp[n]),λq k v n=>?_,(List.pairwise_cons.mp j).2⟩
     .cases p with
      | none=>rfl
      | some q =>
       have:=Y4.mpr (g q rfl t (by simp))
       simp[Ww,this]
     .cases k
      exact(List.pairwise_cons.mp j).1 v n
theorem v0 (d:D):wZ d=true↔∃ m a,d=z0 m a/\wr m a:=by
 constructor
 .intro h
  unfold wZ at h
  split at h
  .rename_i m t
   simp only[Bool.and_eq_true,decide_eq_true_eq]at h
   obtain⟨⟨i,g⟩,b⟩:=h
   unfold wO at b
   split at b
   .rename_i e
    obtain⟨l,rfl,f,_,c⟩:=(Yf m e none).mp b
    exact⟨m,l,rfl,i,g,f,c⟩
   .cases b
  .cases h
 .rintro⟨m,a,rfl,w⟩
  unfold z0 wZ wO
  simp only[Bool.and_eq_true,decide_eq_true_eq]
  exact⟨⟨w.lo,w.hi⟩,(Yf m _ none).mpr ⟨a,rfl,w.rng,by simp,w.srt⟩⟩
theorem ziz {d:D}(h:∀ m a,d=z0 m a->¬ wr m a):wZ d=false:=by
 cases e:wZ d with
 | false=>rfl
 | true =>
  obtain⟨m,a,rfl,w⟩:=(v0 d).mp e
  exact absurd w (h m a rfl)
noncomputable def yD (n:Nat):List Tie:=(List.range n).flatMap λa=>(List.range (n - (a+1))).map λ(j:Nat)=>((a:Int),(a:Int)+1+(j:Int))
theorem YQ:∀ n:Nat,n<=8->(yD n).Pairwise ltP/\(∀ t∈yD n,0<=t.1/\t.1 < t.2/\t.2 < (n:Int))/\(yD n).length<=28:=by
 have h:∀ n:_root_.Fin 9,(yD n.val).Pairwise ltP/\(∀ t∈yD n.val,0<=t.1/\t.1 < t.2/\t.2 < (n.val:Int))/\(yD n.val).length<=28:=by decide +kernel
 exact λn a=>h ⟨n,by omega⟩
end Mz
namespace Mz
open Dl
noncomputable def zao (i j:Nat):List Tie:=(List.range j).map λ(k:Nat)=>((i:Int),(i:Int)+1+(k:Int))
noncomputable def yT (n i:Nat):List Tie:=(List.range i).flatMap λa=>zao a (n - (a+1))
theorem zcf (n:Nat):yD n=yT n n:=rfl
theorem Yg (n i:Nat):yT n (i+1)=yT n i++zao i (n - (i+1)):=by
 unfold yT
 rw[List.range_succ,List.flatMap_append]
 simp
theorem v7 (i j:Nat):(zao i j).length=j:=by unfold zao;simp
theorem zbu (n:Nat)(a:n<=8):∀ i:Nat,(yT n i).length<=8*i:=by
 intro i
 induction i with
 | zero=>simp[yT]
 | succ i b =>
  rw[Yg,List.length_append,v7]
  omega
noncomputable def zdq (c k:Int):Int :=
 let a:=(c % 2147483647+977*k+1)*48271 % 2147483647
 let b:=a*a % 2147483629
 (b+40692*(k+3))*69621 % 2147483647 / 8
theorem zag (c k:Int):0<=zdq c k:=by
 unfold zdq
 exact Int.ediv_nonneg (Int.emod_nonneg _ (by decide)) (by decide)
theorem zml {P:Nat->Prop}:∀ k,P k->∃ j,P j/\∀ i,P i->j<=i:=by
 intro k
 induction k using Nat.strongRecOn with
 | _ k b =>
  intro h
  by_cases c:∃ i,i < k/\P i
  .obtain⟨i,a,d⟩:=c
   exact b i a d
  .exact⟨k,h,λi a=>Nat.le_of_not_lt λz=>c ⟨i,z,a⟩⟩
theorem zjI {n:Nat}{i:Int}(h0:0<=i)(a:i < n):L2.ixN n i=some i.toNat:=by
 unfold L2.ixN
 rw[if_pos h0,if_pos a]
theorem zgL {α:Type}{a:List α}{i:Int}{x:α}(h0:0<=i)(h:a[i.toNat]?=some x):L2.atI a i=some x:=by
 have:=(List.getElem?_eq_some_iff.mp h).1
 unfold L2.atI
 rw[zjI h0 (by omega)]
 exact h
noncomputable def zlz (b n:Nat):List Tie:=(List.range n).map λ(k:Nat)=>((k:Int),(b:Int))
theorem ZU (a:List Tie):(ZI a).Perm a:=List.mergeSort_perm _ _
theorem WO {d:List Tie}(h:d.Nodup):(ZI d).Pairwise ltP:=by
 have g:(ZI d).Pairwise λa b=>zi8 a b=true:=List.pairwise_mergeSort (λa b c g f=>by rw[xK]at *;omega) (λa b=>by rw[Bool.or_eq_true,xK,xK];omega) _
 have f:(ZI d).Nodup:=(ZU d).nodup_iff.mpr h
 refine(g.and f).imp λ{a b} hh=>?_
 obtain⟨x,y⟩:=hh
 rw[xK]at x
 unfold ltP
 rcases x with x | x
 .exact .inl x
 .refine .inr ⟨x.1,?_⟩
  have:a.2≠b.2:=λe=>y (Prod.ext x.1 e)
  omega
theorem zf7 {α:Type}(a:List α)(c b:Option Int):(zbI a c b).length<=a.length:=by
 unfold zbI
 rw[List.length_take,List.length_drop]
 omega
theorem vH {a b:List D}(h:a.length+b.length<=1000):zP (.lst a) (.lst b)=some (.lst (a++b)):=by
 show(if lim (a.length+b.length)=true then _ else none)=_
 rw[if_pos (v1 h)]
theorem zgF:∀ {ns:List Int},(∀ x∈ns,0<=x)->0<=ns.sum
 | [],_=>by simp
 | n::ns,h=>by
  have:=zgF (ns:=ns) λx a=>h x (List.mem_cons_of_mem _ a)
  have:=h n List.mem_cons_self
  rw[List.sum_cons]
  omega
theorem vd {m:Bool}{i:Nat}{f:Ev->Option D}{ρ ρ':SE}{d:D}(h:vEv m f ρ=some d)(a:ρ.set i (.v d)=ρ':=by rfl):xw m i f ρ=.nx ρ':=by
 unfold xw
 rw[h,<- a]
theorem YI {f:Ev->Option D}{ρ:SE}{d:D}(h:f (visG ρ)=some d):ZG f ρ=.nx ρ:=by
 unfold ZG
 rw[h]
theorem yd {f:Ev->Option D}{ρ:SE}{d:D}(h:f (visG ρ)=some d):yM f ρ=.rt d:=by
 unfold yM
 rw[h]
theorem zhD {i:Nat}{f:Ev->Option (List D)}{ρ ρ':SE}{ds:List D}(h:f (visF ρ)=some ds)(a:ρ.set i (.o ds)=ρ':=by rfl):Wf i f ρ=.nx ρ':=by
 unfold Wf
 rw[h,<- a]
theorem y8 {a b:Int}:neD (.int a) (.int b)=some (.bl (!decide (a=b))):=rfl
theorem zaI {a m x:Int}(h:0 < m)(b:a % m=x):0<=x/\x < m:=by
 subst b
 exact⟨Int.emod_nonneg _ (by omega),Int.emod_lt_of_pos _ h⟩
theorem zk3 {m:Int}{n:Nat}(h:m=((n+1:Nat):Int))(a:n<=7):Yc [.int 1,.int m]=some (Ze 1 n):=by
 show(if zeC 1=true/\zeC m=true then some (Ze 1 (m - 1).toNat)else none)=_
 rw[if_pos ⟨z4.mpr ⟨by omega,by omega⟩,z4.mpr ⟨by omega,by omega⟩⟩,show(m - 1).toNat=n by omega]
theorem yp {a b:Int}:we (.int a) (.int b)=some (.bl (decide (a=b))):=rfl
theorem xa {a b:Bool}:we (.bl a) (.bl b)=some (.bl (decide (a=b))):=rfl
theorem zV {a b:PySem.Str}:we (.str a) (.str b)=some (.bl (decide (a=b))):=rfl
theorem yo {a b:Int}:zP (.int a) (.int b)=some (.int (a+b)):=rfl
section
variable {ρ:Ev}{f g h:Ev->Option D}{a:Ev->Option (List D)}{t u:Ev->Option Bool}{d e x y z:D}{ds es:List D}{b c:Bool}
theorem yF:zo ρ=some []:=rfl
theorem zy (c:f ρ=some d)(b:a ρ=some ds):za f a ρ=some (d::ds):=by unfold za;rw[c,b];rfl
theorem zJ {n:Nat}{p:List D->Option D}(e:a ρ=some ds)(c:p ds=some d)(b:ds.length=n:=by rfl):zp n p a ρ=some d:=by
 unfold zp
 rw[e,Option.bind_some,if_pos b,c]
theorem vj {i:Nat}{f:Ev->Option D}{σ σ':SE}(h:f (visF σ)=some d)(a:σ.set i (.v d)=σ':=by rfl):xw false i f σ=.nx σ':=vd (show f (visF σ)=some d from h) a
theorem zt {k:D->D->Option D}(c:f ρ=some x)(b:g ρ=some y)(a:k x y=some z):zh k f g ρ=some z:=by unfold zh;rw[c,b];exact a
theorem V2 {k:D->Option D}(b:f ρ=some x)(a:k x=some z):eUn k f ρ=some z:=by unfold eUn;rw[b];exact a
theorem YV (b:a ρ=some ds):yy a ρ=some (.lst ds):=by unfold yy;rw[b];rfl
theorem zdu {k:List D->Option D}(c:a ρ=some ds)(b:k ds=some d):eFn k a ρ=some d:=by unfold eFn;rw[c];exact b
theorem zgs {k:List D->Option (List D)}(c:a ρ=some ds)(b:k ds=some es):fFn k a ρ=some es:=by unfold fFn;rw[c];exact b
theorem VS (c:a ρ=some ds)(b:ds.length<=1000):zO a ρ=some ds:=by unfold zO;rw[c,Option.bind_some,if_pos (v1 b)]
theorem W1 (c:a ρ=some ds)(b:ds.length<=1000):wT a ρ=some (.tup ds):=by unfold wT;rw[c,Option.bind_some,if_pos (v1 b)]
theorem zaX (b:f ρ=some d)(a:xE d=some ds):iOf f ρ=some ds:=by unfold iOf;rw[b];exact a
theorem yZ (a:f ρ=some (.bl b)):tOf f ρ=some b:=by unfold tOf;rw[a];rfl
theorem zbc (a:t ρ=some b):yu t ρ=some (!b):=by unfold yu;rw[a];rfl
theorem zkR (b:t ρ=some false)(a:u ρ=some c):Zi t u ρ=some c:=by unfold Zi;rw[b];exact a
end
end Mz
namespace PySem
open Sem (wp)
theorem Runs.toks {M:Model}{Γ:Ctx}{p:Pos}{t:Sem Fin}{d:List Frame}{s c:Shared}{e:End}(h:Runs M Γ p t d s e c):s.toks<=c.toks:=by
 induction h with
 | done=>exact Nat.le_refl _
 | raise=>exact Nat.le_refl _
 | yield=>exact Nat.le_refl _
 | fresh _ f=>exact Nat.le_trans (Nat.le_succ _) f
 | call _ _ a b=>exact Nat.le_trans a b
 | resumeFresh _ _ _ _ a b=>exact Nat.le_trans a b
 | resumeSuspended _ _ _ _ a b=>exact Nat.le_trans a b
 | segRet _ _ a b=>exact Nat.le_trans a b
 | segGen _ _ a b=>exact Nat.le_trans a b
 | segSuspGen _ _ _ _ a b=>exact Nat.le_trans a b
 | _=>assumption
theorem Wakes.toks {M:Model}{Γ:Ctx}{p:Pos}{g:Nat}{r:Resume}{s b:Shared}{res:GenResult}(h:Wakes M Γ p g r s res b):s.toks<=b.toks:=by
 unfold Wakes at h
 split at h
 .exact h.elim
 .split at h
  .obtain⟨e,c,a,_,_,rfl⟩:=h
   exact a.toks
  .rw[h.2];exact Nat.le_refl _
  .rw[h.2];exact Nat.le_refl _
 .obtain⟨e,c,a,_,_,rfl⟩:=h
  exact a.toks
 .rw[h.2];exact Nat.le_refl _
 .rw[h.2];exact Nat.le_refl _
theorem zii {α:Type}{M:Model}{Γ:Ctx}{n:Nat}{Q:α->Pos->Shared->Prop}{E:Value->Pos->Shared->Prop}:∀ (t:Sem α) (p:Pos) (s:Shared),n<=s.toks->wp M Γ t Q E p s->wp M Γ t (λa j i=>n<=i.toks/\Q a j i) (λe j i=>n<=i.toks/\E e j i) p s:=by
 intro t
 induction t with
 | pure a=>exact λp s b h=>⟨b,h⟩
 | raise e=>exact λp s b h=>⟨b,h⟩
 | rule _ k d=>exact λp s b h=>d () p s b h
 | «at» j k d=>exact λp s b h=>d () j s b h
 | load a _ k d=>exact λp s b ⟨o,u,h⟩=>⟨o,u,d o p s b h⟩
 | update a _ f k d=>exact λp s b ⟨u,h⟩=>⟨u,d () p _ b h⟩
 | loadIfAlive a k d=>exact λp s b h=>d _ p s b h
 | point _ k d=>exact λp s b h=>d () p s b h
 | alloc o k d=>exact λp s b h=>d _ p _ b h
 | fresh k d=>exact λp s b h=>d _ p _ (Nat.le_succ_of_le b) h
 | ask k d=>exact λp s b h=>d _ p s b h
 | choose v m k d=>exact λp s b ⟨h0,h⟩=>⟨h0,d _ p _ b h⟩
 | os q _ k d=>exact λp s b h=>d _ p _ b h
 | call c x _ _ k d=>exact λp s b ⟨r,i,l,h⟩=>⟨r,i,l,d r p i (Nat.le_trans b (Runs.toks l)) h⟩
 | handled own k d=>exact λp s b h=>d _ p s b h
 | genState g k d=>exact λp s b ⟨w,h0,h⟩=>⟨w,h0,d _ p s b h⟩
 | newGen c k d=>exact λp s b h=>d _ p _ b h
 | resume g r _ k d=>exact λp s b ⟨res,i,l,h⟩=>⟨res,i,l,d _ p i (Nat.le_trans b (Wakes.toks l)) h⟩
 | _=>first | exact λp s b h=>h.elim | exact λp s b h=>by simp only[wp]at h ⊢;simp_all
theorem zfz {α:Type}{M:Model}{A:Around}{t:Sem α}{Q:α->Shared->Prop}{E:Value->Shared->Prop}{s:Shared}(h:wpAny M A t (λv a=>s.toks<=a.toks->Q v a) (λe a=>s.toks<=a.toks->E e a) s):wpAny M A t Q E s:=fun Γ p b =>
 Sem.wp_mono M Γ t (λ_ _ _ z=>z.2 z.1) (λ_ _ _ z=>z.2 z.1) p s (zii t p s (Nat.le_refl _) (h Γ p b))
theorem X3 {α:Type}{M:Model}{A:Around}{t:Sem α}{Q:α->Shared->Prop}{E:Value->Shared->Prop}{s:Shared}(c:0 < s.toks)(h:wpAny M A t (λv a=>0 < a.toks->Q v a) (λe a=>0 < a.toks->E e a) s):wpAny M A t Q E s :=
 zfz (wpAny_mono h (λ_ _ z b=>z (Nat.lt_of_lt_of_le c b)) λ_ _ z b=>z (Nat.lt_of_lt_of_le c b))
end PySem
namespace PySem
section
variable {M:Model}{A:Around}{E:Value->Shared->Prop}{r s:Shared}{m cm:Str->Option Value}{env:Env}
theorem zjM {n:Str}{v:Value}{Q:Unit->Shared->Prop}(x:InCallC r env.locals m env.cells cm s)(j:env.scope.kind=.function)(l:env.kindOf n=some .local)
 (q:∀ t,InCallC r env.locals (λy=>if y=n then some v else m y) env.cells cm t->0 < t.toks->Q () t):wpAny M A (storeName env n v) Q E s:=by
 have f:(env.scope.kind == .class||(env.scope.kind == .module&&env.locals != env.globals))=false:=by rw[j];rfl
 refine wpAny_storeName_local l x.toInCall.ns (λg h d=>?_) f
 refine q _ ?_ (Nat.succ_pos _)
 have i:∀ b o,r.heap.get? b=some o->b≠env.locals:=λb o e=>Nat.ne_of_lt (Nat.lt_of_lt_of_le (Heap.lt_size e) x.toInCall.fresh)
 have p:∀ k c,env.cells.lookup k=some c->c≠env.locals:=λk c a=>Nat.ne_of_gt (x.above k c (mem_of_lookup a))
 obtain⟨u,w,rfl⟩:=x.toInCall.same
 exact { toInCall:={ same:=⟨g,_,rfl⟩,ns:=h,keep:=λb o e=>d.extBut b o (i b o e) (x.toInCall.keep b o e),fresh:=x.toInCall.fresh },cell:=λk c a=>(x.cell k c a).sameBut d (p k c a),apart:=x.apart,above:=x.above }
end
section
variable {M:Model}{A:Around}{E:Value->Shared->Prop}{s:Shared}
theorem zdg {sc:Scope}{g d:Addr}{x:Str}{v:Value}{j:List (Str × Value)}{k:Str}{h:Option Addr}{f:Value}{Q:Env->Shared->Prop}(r:sc.kind=.function)(p:sc.names.lookup x=some .local)
 (w:∀ y∈j,sc.names.lookup y.1=some .local\/(sc.names.lookup y.1=some .cell/\((cellsFrom (s.heap.objs.size+1) sc.names []).lookup y.1).isSome=true))
 (q:∀ e,e=newEnv sc s.heap.objs.size g (cellsFrom (s.heap.objs.size+1) sc.names []) k h f none d->∀ t,InCallC s e.locals (bindL e.kindOf ((x,v)::j) λ_=>none) e.cells (bindC e.kindOf ((x,v)::j) λ_=>none) t->0 < t.toks->Q e t) :
 wpAny M A (newFunctionEnv sc g [] ((x,v)::j) k h f none d) Q E s:=by
 simp only[newFunctionEnv,Option.isSome_none,Bool.false_eq_true,if_false]
 refine wpAny_bind (wpAny_alloc (wpAny_bind (wpAny_layCells _ (λa b c=>by cases z:b == NameKind.cell <;> simp[z]) _ _ _ _ ?_)))
 have l:=cellsFrom_ok sc.names (s.heap.push { cls:=.type "frame",data:=.dict #[] }) (s.heap.objs.size+1) [] ⟨λ_ _ z=>(nomatch z),.nil⟩ (Nat.le_of_eq (Heap.size_push ..).symm)
 rw[Heap.size_push]at l
 rw[show({ s with heap:=s.heap.push { cls:=.type "frame",data:=.dict #[] } }:Shared).heap.objs.size=s.heap.objs.size+1 from Heap.size_push ..]
 rw[List.forIn_cons]
 have D:InCallC s s.heap.objs.size (λ_=>none) (cellsFrom (s.heap.objs.size+1) sc.names []) (λ_=>none) { s with heap:=pushCells (s.heap.push { cls:=.type "frame",data:=.dict #[] }) sc.names } :=
  { toInCall:={ same:=⟨_,_,rfl⟩,ns:=(Heap.Ns.new s.heap (.type "frame")).keeps (pushCells_keeps _ _),keep:=λb o e=>pushCells_keeps _ _ b o (Heap.get?_push_of_some _ e),fresh:=Nat.le_refl _ },cell:=λn c z=>(l.empty n c (mem_of_lookup z)).1,apart:=l.apart,above:=λn c z=>(l.empty n c z).2 }
 refine wpAny_bind (wpAny_bind (wpAny_bind (zjM (env:=newEnv sc s.heap.objs.size g (cellsFrom (s.heap.objs.size+1) sc.names []) k h f none d) D r p λt B C=>wpAny_pure ?_)))
 refine X3 C ?_
 refine wpAny_bindParams (s₀:=s) (env:=newEnv sc s.heap.objs.size g (cellsFrom (s.heap.objs.size+1) sc.names []) k h f none d) _ (λ_ _ _=>rfl) r j _ _ _ _ B w λF u m=>wpAny_pure (q _ rfl F ?_ m)
 unfold bindL bindC
 have i:=(show(newEnv sc s.heap.objs.size g (cellsFrom (s.heap.objs.size+1) sc.names []) k h f none d).kindOf x=some .local from p)
 rw[if_pos i,if_pos i]
 exact u
end
end PySem
namespace L2
open PySem PySem.Spec PyProof.Rows
structure zfE (P:Program) (w:World) (K:W.Frag) (mg:Str->Option Value) (base:Heap) (CX:CXT) (k:Nat) (f:Addr) (fd:FuncData) (ps:List Str) (sp:Sp):Prop where
 len:∀ vs H Q E,sp vs H Q E->vs.length=ps.length
 run:∀ (A:Around) (outer:List Env) (s:Shared) (H:Hp) (args:Args) (us:List Value) (vs:List V) (Q:VK) (E:XK),yL k A->ze9 P w K mg base A outer s H->BindsTo s fd args (ps.zip us)->zT vs us->sp vs H Q E ->
  codeAny (model P w) A (.call (.ref f) args) (λr s'=>CR CX outer P w H s Q E r s'/\0 < s'.toks) s
theorem zhR {CX:CXT}{P:Program}{w:World}{K:PySem.W.Frag}{R:Str->Option Value}{g:Heap}{k:Nat}{f:Addr}{l c:Str}{h:Arguments}{i:List Stmt}{a:Scope}{dV kV F pm d ct oc:Value}{an od:Option Addr}
 {W:Array (Option Value)} {N:List Str} {D:Str} {M:List Str} {sp:Sp} (lk:K.lookup f=some ⟨oc,od,.func (PySem.W.fnOf l c h i a dV kV F pm an d ct),W⟩) (a0:PySem.W.codeIn K d c=true) (S:yf N (D::M) a) (h0:a.names.lookup D=some .local)
 (L:∀ j H Q E,sp j H Q E->j.length=(D::M).length)
 (m:∀ (A:Around) (outer:List Env) (s:Shared) (H:Hp) (j:List V) (Q:VK) (E:XK),yL k (A.deeper (envOfC c a s.heap.objs.size f d))->sp j H Q E ->
  ∃ t,PSs (vR CX P w K R g N c a f d A outer s H E) i t/\t { nx:=λ_ H'=>Q .non H',rt:=Q } (start N j) H) :
 zfE P w K R g CX (k+1) f (PySem.W.fnOf l c h i a dV kV F pm an d ct) (D::M) sp:=by
 refine⟨L,λA outer s H args Y j Q E Z G hb r C=>?_⟩
 have hl:=L _ _ _ _ C
 have KX:K.In s.heap:=G.mod.kin.keeps λb o e=>(G.bs b o e).1
 have lim:s.heap.NoLimit:=G.mod.nolimit.keeps λb o e=>(G.bs b o e).1
 have p:∀ y∈(D::M).zip Y,a.names.lookup y.1=some .local\/(a.names.lookup y.1=some .cell/\((cellsFrom (s.heap.objs.size+1) a.names []).lookup y.1).isSome=true):=λ⟨n,v⟩ X=>by
  rcases S.par n (List.of_mem_zip X).1 with q | q
  .exact .inl q
  .exact .inr ⟨q,PySem.W.cellsFrom_some _ _ _ (.inl q)⟩
 have hu:Y.length=M.length+1:=by rw[<-r.length];exact hl
 cases Y with
 | nil=>cases hu
 | cons u0 ur =>
  refine codeAny_call_function Z.depth (KX _ _ lk) rfl S.co S.gen rfl (PySem.W.codeRec_of KX a0) (hb _ _ _ _ ?_)
  refine zdg S.kind h0 (λy X=>p y (.tail _ X)) λenv he s1 x ht=>?_
  subst he
  refine⟨lim.keeps x.toInCall.keep,codeAny_func ?_⟩
  obtain⟨t,U,hq⟩:=m A outer s H j Q E (Z.deeper _) C
  have I:Inv (vR CX P w K R g N c a f d A outer s H E) [] (start N j) H s1:=YZ S Z.hd G hl r x
  refine X3 ht (wpAny_mono (U [] s1 (start N j) H _ I hq) (λfl s' B T=>?_) λe s' B T=>?_)
  .have fin:∀ {O:St} {H':Hp} {v:V} {u:Value},Inv (vR CX P w K R g N c a f d A outer s H E) [] O H' s'->yl v u->Q v H'->CE outer P w H s Q u s' :=
    λ{O H' v u} J rv q=>⟨v,H',J.os,J.bare,J.base,J.hok,rv,q⟩
   cases fl with
   | ret u =>
    obtain⟨v,O,H',J,rv,q⟩:=B
    exact⟨fin J rv q,T⟩
   | next =>
    obtain⟨O,H',J,q⟩:=B
    exact⟨fin (v:=V.non) (u:=Value.none) J rfl q,T⟩
   | brk =>
    obtain⟨_,_,_,q⟩:=B
    exact False.elim q
   | cont =>
    obtain⟨_,_,_,q⟩:=B
    exact False.elim q
  .exact X3 T (wpAny_mono B (λ_ _ z k=>⟨z,k⟩) λ_ _ z k=>⟨z,k⟩)
section
variable {X:Cx}{CX:CXT}{k:Nat}{f:Addr}{fd:FuncData}{ps:List Str}{sp:Sp}{E:XK}{x y z:Str}{p pos p1 p2 q1 q2:Pos}{j1 j2:Nat}{e:Expr}{es:List Expr}{t:TA}
theorem zgo {a:List (Addr × Obj)}{σ:St}{H:Hp}{s:Shared}{Q:VK}{c:List Value}{g:List V}(F:zfE X.prog X.w X.K X.mg X.base CX k f fd ps sp)(i:yL k X.A)(n:xf X.K fd ps [])(j:xB CX X E)
 (I:Inv X a σ H s) (r:zT g c) (h:sp g H Q E):wpAny (model X.prog X.w) X.A (call (.ref f) c) (λu d=>EP X a σ Q u d/\0 < d.toks) X.xe s:=by
 have o:c.length=ps.length:=by rw[<-r.length];exact F.len _ _ _ _ h
 have hb2:=n s c I.kIn (by rw[List.append_nil];exact o)
 rw[List.append_nil]at hb2
 refine wpAny_call (codeAny_mono (F.run X.A X.stack s H ⟨c,[]⟩ c g Q E i I.env0 hb2 r h) λr d b=>?_)
 obtain⟨b,l⟩:=b
 cases r with
 | error e=>exact j a σ H s e d I b
 | ok m =>
  cases m with
  | ret u=>exact⟨I.after b,l⟩
  | next=>exact False.elim b
  | brk=>exact False.elim b
  | cont=>exact False.elim b
noncomputable def zkm (sp:Sp)(E:XK)(t:TA)(y z:Str):TE:=fun σ H Q=>t σ H λa H1=>sp a H1 (λv H2=>∃ x,v=.str x/\x.length<=1048576/\Q (.str (Txt.replace x y z)) H2) E
theorem zhM (F:zfE X.prog X.w X.K X.mg X.base CX k f fd ps sp)(u:yL k X.A)(K:Gl X x)(N:X.mg x=some (.ref f))(o:W.keepIn X.K (.ref f)=true)(A:xf X.K fd ps [])(C:xB CX X E)(J:PA X (e::es) t)
 (j:(y == z)=false) (n:z.length<=14) (l:(x == ("__debug__":Str))=false:=by decide) (M:starEach (e::es) X.env=(false,eval e X.env)::starEach es X.env:=by rfl) (i:(backTo p1 (starEach es X.env)).any (·.1)=false:=by rfl)
 (c:attributeBase (.Call (.Name x p) (e::es) [] p1) "replace" X.env (eval (.Call (.Name x p) (e::es) [] p1) X.env)=eval (.Call (.Name x p) (e::es) [] p1) X.env:=by rfl)
 (g:((backTo pos (starEach [.Constant (.str y) j1 q1,.Constant (.str z) j2 q2] X.env)).all (λx=>!x.1)&&(backToKw pos (keywordEach [] X.env)).all (λx=>x.1.isSome)
  && decide (([.Constant (.str y) j1 q1,.Constant (.str z) j2 q2]:List Expr).length+([]:List Keyword).length+(if ([]:List Keyword).isEmpty then 0 else 1) < 30))=true:=by rfl)
 (b:(p2.endLine == pos.line)=true:=by rfl) :
 PE X (.Call (.Attribute (.Call (.Name x p) (e::es) [] p1) "replace" p2) [.Constant (.str y) j1 q1,.Constant (.str z) j2 q2] [] pos) (zkm sp E t y z):=by
 intro d s σ H Q I h
 refine wpAny_Call_method_late c g b rfl ?_
 refine wpAny_Call_Name_kw (wJ I K N ?_ l)
 refine W.callWith_K (h₀:=X.base) I.ok.mod.kin o (thn (J p1 d s σ H _ I h) λV R ⟨T,H1,I1,r,q⟩=>⟨I1.kIn,?_⟩) M i
 refine thn (zgo F u A C I1 r q) λv P G=>?_
 obtain⟨⟨O,H2,I2,w,a,rfl,L,B⟩,D⟩:=G
 obtain⟨U,rfl⟩:=w
 refine⟨"str","str.replace",PySem.F.plainAttrs_str,PySem.F.slot_str_replace,PySem.F.type_str_replace,typeIs_str _ _ _,(λ_ z=>by cases z),?_⟩
 refine Calls.callWith_builtin rfl (Calls.evalArgs_plain ?_)
 refine Calls.spliced_cons (wpAny_Constant_str (k:=j1) (pos:=q1) (Calls.spliced_cons (wpAny_Constant_str (k:=j2) (pos:=q2) (Calls.spliced_nil ?_))))
 refine SC.replaceW (Nat.ne_of_gt D) (Nat.succ_ne_zero _) (Nat.ne_of_lt (Nat.lt_succ_self _)) j L n λm S=>?_
 exact⟨.str _,H2,I2.tok _,⟨_,rfl⟩,B⟩
end
end L2
namespace Dl
open PySem L2
section
variable [KK]{X:Cx}{x y z:Str}{k m:Nat}{f:Addr}{fd:FuncData}{ps:List Str}{p:List D->Option D}{e:Expr}{es:List Expr}{fa:Ev->Option (List D)}
noncomputable def zho (m:Nat)(p:List D->Option D)(f:Ev->Option (List D))(y z:Str):Ev->Option D:=fun ρ=>(zp m p f ρ).bind λd=>match d with
 | .str a=>if a.length<=100000 then some (.str (Txt.replace a y z))else none
 | _=>none
theorem zhx {i b l C o w:Pos}{B u:Nat}(F:zfE X.prog X.w X.K X.mg X.base CX0 k f fd ps (spD m p))(R:yL k X.A)(T:Gl X x)(U:X.mg x=some (.ref f))(P:W.keepIn X.K (.ref f)=true)(O:xf X.K fd ps [])(A:AD X (e::es) fa)
 (G:∀ {t:TA},PA X (e::es) t->PE X (.Call (.Attribute (.Call (.Name x i) (e::es) [] l) "replace" C) [.Constant (.str y) B o,.Constant (.str z) u w] [] b) (zkm (spD m p) (λ_ _ _=>False) t y z)) :
 ED X (.Call (.Attribute (.Call (.Name x i) (e::es) [] l) "replace" C) [.Constant (.str y) B o,.Constant (.str z) u w] [] b) (zho m p fa y z):=by
 obtain⟨t,K,r⟩:=A
 refine⟨_,G K,fun σ ρ F0 H d Q s L e q=>?_⟩
 obtain⟨N,I,c⟩:=Option.bind_eq_some_iff.mp e
 obtain⟨n,M,h⟩:=Option.bind_eq_some_iff.mp I
 split at h <;> try cases h
 rename_i E
 cases N with
 | str a =>
  dsimp only at c
  split at c <;> cases c
  rename_i A
  refine r σ ρ F0 H n _ s L M λF1 H1 S j D=>?_
  refine⟨n,_,F1,E,j.fh,D,h,λF' H' v g J=>⟨a,J.str_inv,by omega,q F' H' _ (j.trans g) .str⟩⟩
 | _=>cases c
theorem zhg {P:Program}{w:World}{K:W.Frag}{o:Str->Option Value}{i:Heap}{x b:Str}{j:Stmt}{f:Addr}{fd:FuncData}{N:List Str}{x0:Str}{pr:List Str}{k:Nat}{g:SE->Ctl}(Fu:Fun K x b j f fd)(S:yf N (x0::pr) (zg j))(h0:(zg j).names.lookup x0=some .local)
 (D:∀ (c:Value) (A:Around) (outer:List Env) (s:Shared) (H:Hp) (E:XK),yL k (A.deeper (PyProof.Rows.envOfC b (zg j) s.heap.objs.size f c))->SDs (vR CX0 P w K o i N b (zg j) f c A outer s H E).nox (zU j) g) :
 zfE P w K o i CX0 (k+1) f fd (x0::pr) (spD (x0::pr).length (fnD N.length g)):=by
 obtain⟨O,U,kV,J,M,T,c,ct,C,rfl,L,m⟩:=Fu.ex
 refine zhR L m S h0 (λB H Q E h=>?_) λA outer s H B Q E y h=>?_
 .obtain⟨n,d,F,u,_,a,_⟩:=h
  rw[a.length];exact u
 .obtain⟨n,d,F,u,I,a,e,q⟩:=h
  obtain⟨t,p,r⟩:=(D c A outer s H E y).nox
  refine⟨t,p,r F H F H _ _ _ (Xt I a) ?_⟩
  unfold fnD at e
  cases l:g (n.map .v++List.replicate (N.length - n.length) .no) with
  | rt R=>rw[l]at e;cases e;exact λF' H' v g z=>q F' H' v g z
  | nx ρ=>rw[l]at e;cases e;exact λF' H' σ G=>q F' H' _ G.gr .non
  | bk ρ=>rw[l]at e;cases e
  | ct ρ=>rw[l]at e;cases e
  | no=>rw[l]at e;cases e
end
end Dl
namespace L2
open PySem PySem.Spec PyProof.Rows
theorem zfE.mono {P:Program}{w:World}{K:W.Frag}{b:Str->Option Value}{a:Heap}{CX:CXT}{j k:Nat}{f:Addr}{c:FuncData}{ps:List Str}{d:Sp}(F:zfE P w K b a CX j f c ps d)(h:j<=k) :
 zfE P w K b a CX k f c ps d:=⟨F.len,λA outer s H args g i Q E e=>F.run A outer s H args g i Q E (e.mono h)⟩
theorem zco {h₀:Heap}{k:Str}{P:Value->Prop}{a:Prop}:∀ {D:List (Str × KTD.Dat)},(∀ d,KTD.datumAt k D=some d->KTD.Opened h₀ P d)->(KTD.datumAt k D=none->a)->KTD.Each h₀ k P a D
 | [],_,g=>g rfl
 | (x,d)::D,h,g=>by
  show if decide (k=x)=true then KTD.Opened h₀ P d else KTD.Each h₀ k P a D
  by_cases e:k=x
  .rw[if_pos (decide_eq_true e)]
   exact h d (by show(if decide (k=x)=true then some d else _)=_;rw[if_pos (decide_eq_true e)])
  .have b:¬ (decide (k=x)=true):=by rw[decide_eq_false e];exact Bool.false_ne_true
   have c:KTD.datumAt k ((x,d)::D)=KTD.datumAt k D:=by
    show(if decide (k=x)=true then some d else KTD.datumAt k D)=_
    rw[if_neg b]
   rw[if_neg b]
   rw[c]at h g
   exact zco h g
section
variable {X:Cx}{a:Addr}{D:List (Str × KTD.Dat)}{nm:Str}{e1 e2:Expr}{p p2 pos:Pos}{t:TA}
noncomputable def zjw (D:List (Str × KTD.Dat))(t:TA):TE:=fun σ H Q=>t σ H λa H1=>∃ z y,a=[.str z,y]/\(∀ d,KTD.datumAt z D=some d->∃ i,d=.flat (.int i)/\Q (.int i) H1)/\(KTD.datumAt z D=none->Q y H1)
theorem X4 (T:∀ h:Heap,X.K.In h->KTD.TextTab h a D) (w:Gl X nm) (C:X.mg nm=some (.ref a)) (r:PA X [e1,e2] t) (j:(nm == ("__debug__":Str))=false:=by decide)
 (e:attributeBase (.Name nm p) "get" X.env (eval (.Name nm p) X.env)=eval (.Name nm p) X.env:=by rfl)
 (g:((backTo pos (starEach [e1,e2] X.env)).all (λx=>!x.1)&&(backToKw pos (keywordEach [] X.env)).all (λx=>x.1.isSome)
  && decide (([e1,e2]:List Expr).length+([]:List Keyword).length+(if ([]:List Keyword).isEmpty then 0 else 1) < 30))=true:=by rfl)
 (c:(p2.endLine == pos.line)=true:=by rfl) (E:starEach [e1,e2] X.env=(false,eval e1 X.env)::starEach [e2] X.env:=by rfl) (b:(backTo pos (starEach [e2] X.env)).any (·.1)=false:=by rfl) :
 PE X (.Call (.Attribute (.Name nm p) "get" p2) [e1,e2] [] pos) (zjw D t):=by
 intro f s σ H Q I h
 refine wpAny_Call_method_late e g c rfl (wJ I w C ?_ j)
 have T0:KTD.Here X.base s.heap a D:=⟨T _ I.mod.kin,I.bk⟩
 refine⟨"dict","dict.get",PySem.F.plainAttrs_dict,PySem.F.slot_dict_get,PySem.F.type_dict_get,T0.typeIs,T0.noDict,?_⟩
 have k:=r pos f s σ H _ I h
 rw[E]at k ⊢
 refine Calls.callWith_builtin (by show(false||(backTo pos (starEach [e2] X.env)).any (·.1))=false;rw[b] <;> rfl) (Calls.evalArgs_plain ?_)
 refine thn k λG F hh9=>?_
 obtain⟨J,H2,I2,B,z,y,n,m,o⟩:=hh9
 subst n
 obtain⟨u,v,rfl,⟨K,rfl⟩,l⟩:=B.two
 refine KTD.get2_text (h₀:=X.base) ⟨T _ I.mod.kin,I2.bk⟩ (zco (λd j=>?_) λA=>⟨y,H2,I2.tok _,l,o A⟩)
 obtain⟨i,rfl,q⟩:=m d j
 exact KTD.opened_int λt=>⟨.int i,H2,I2.tok _,⟨_,rfl⟩,q⟩
noncomputable def zgx:V->List V->Hp->VK->Prop:=λx b H Q=>∃ a,x=.str a/\b=[]/\(Txt.upper a).length<=100000/\Q (.str (Txt.upper a)) H
theorem zaQ:MtM X "str.upper" zgx:=by
 intro b s σ H x f v i Q I d c h
 obtain⟨a,rfl,rfl,g,q⟩:=h
 obtain⟨t,rfl⟩:=d
 cases c.zero
 refine SC.upper ?_ ⟨.str _,H,I.tok _,⟨_,rfl⟩,q⟩
 have e:100002<=sizeLine:=by rw[sizeLine_eq];decide
 unfold Builtin.Str.tooLong
 exact decide_eq_false (by omega)
end
end L2
namespace Dl
open PySem L2 PySem.Spec PyProof.Rows
variable [KK]{X:Cx}{a:Addr}{nm:Str}{b e1 e2:Expr}{p p2 p3 pos:Pos}{f:Ev->Option D}
noncomputable abbrev ze0:=List (Str × Int)
noncomputable def vi (t:ze0):List (Str × KTD.Dat):=t.map λq=>(q.1,.flat (.int q.2))
noncomputable def x9:ze0->Str->Option Int
 | [],_=>none
 | q::t,x=>if x=q.1 then some q.2 else x9 t x
omit [KK] in
theorem wK (x:Str):∀ t:ze0,KTD.datumAt x (vi t)=(x9 t x).map λn=>KTD.Dat.flat (.int n)
 | []=>rfl
 | q::t=>by
  show(if decide (x=q.1)=true then some (KTD.Dat.flat (.int q.2))else KTD.datumAt x (vi t))=(if x=q.1 then some q.2 else x9 t x).map _
  by_cases h:x=q.1
  .rw[if_pos (decide_eq_true h),if_pos h];rfl
  .rw[if_neg (by rw[decide_eq_false h];exact Bool.false_ne_true),if_neg h,wK x t]
noncomputable def zcU (t:ze0):D->Option D
 | .str x=>some (.bl (x9 t x).isSome)
 | _=>none
theorem W4 {t:ze0} (T:∀ h:Heap,X.K.In h->KTD.TextTab h a (vi t)) (l:Gl X nm) (o:X.mg nm=some (.ref a)) (m:ED X b f) (c:behindInMarks .In (.Name nm p)=false:=by with_unfolding_all rfl) (i:(nm == ("__debug__":Str))=false:=by decide) :
 TD X (.Compare b [.In] [.Name nm p] pos) (tOf (eUn (zcU t) f)):=by
 obtain⟨u,g,n⟩:=m
 refine⟨_,Vx (zfo T) g (ye (v:=.ref a) l o rfl i) c,zft fun σ ρ F H z Q s r e q=>?_⟩
 obtain⟨d,e1,e2⟩:=Option.bind_eq_some_iff.mp e
 refine n σ ρ F H d _ s r e1 λF1 H1 v k j=>?_
 cases d with
 | str x =>
  cases e2
  cases j.str_inv
  refine⟨x,rfl,rfl,?_⟩
  rw[<-KTD.isSome_datumAt,wK,Option.isSome_map]
  exact q F1 H1 _ k .bl
 | _=>cases e2
noncomputable def vT (t:ze0):List D->Option D
 | [.str x,d]=>match x9 t x with
  | some i=>some (.int i)
  | none=>some d
 | _=>none
noncomputable def zjB (g:List D->Option D)(f:Ev->Option (List D)):Ev->Option D:=fun ρ=>(f ρ).bind g
theorem wM {t:ze0}{f:Ev->Option (List D)}(T:∀ h:Heap,X.K.In h->KTD.TextTab h a (vi t))(w:AD X [e1,e2] f)
 (B:∀ {u:TA},PA X [e1,e2] u->PE X (.Call (.Attribute (.Name nm p) "get" p2) [e1,e2] [] pos) (zjw (vi t) u)):ED X (.Call (.Attribute (.Name nm p) "get" p2) [e1,e2] [] pos) (zjB (vT t) f):=by
 obtain⟨u,o,n⟩:=w
 refine⟨_,B o,fun σ ρ F H z Q s r e q=>?_⟩
 obtain⟨m,v,b⟩:=Option.bind_eq_some_iff.mp e
 refine n σ ρ F H m _ s r v λF1 H1 C j c=>?_
 unfold vT at b
 split at b
 .rename_i x d
  obtain⟨I,G,rfl,b1,c⟩:=c.cons_inv
  obtain⟨y,J,rfl,b2,c⟩:=c.cons_inv
  cases c.nil_inv
  cases b1.str_inv
  refine⟨x,y,rfl,λE k=>?_,λl=>?_⟩
  .rw[wK]at k
   obtain⟨i,A,rfl⟩:=Option.map_eq_some_iff.mp k
   rw[A]at b
   cases b
   exact⟨i,rfl,q F1 H1 _ j .int⟩
  .rw[wK]at l
   have g:x9 t x=none:=Option.map_eq_none_iff.mp l
   rw[g]at b
   cases b
   exact q F1 H1 _ j b2
 .cases b
noncomputable def upD:D->Option D
 | .str x=>if (Txt.upper x).length<=100000 then some (.str (Txt.upper x))else none
 | _=>none
theorem za8 (j:ED X b f) (o:∀ {c:TE},PE X b c->PE X (.Call (.Attribute b "upper" p) [] [] pos) (zmh X.K "str" zgx c)):ED X (.Call (.Attribute b "upper" p) [] [] pos) (eUn upD f):=by
 obtain⟨c,g,l⟩:=j
 refine⟨_,o g,fun σ ρ F H z Q s n e q=>?_⟩
 obtain⟨d,i,a⟩:=Option.bind_eq_some_iff.mp e
 refine l σ ρ F H d _ s n i λF1 H1 v m h=>?_
 unfold upD at a
 split at a
 .rename_i x
  split at a <;> cases a
  rename_i k
  cases h.str_inv
  exact⟨rfl,x,rfl,rfl,k,q F1 H1 _ m .str⟩
 .cases a
end Dl
namespace Dl
open PySem L2 PySem.Spec PyProof.Rows
section
variable [KK]{X:Cx}{a o e:Expr}{es:List Expr}{p apos pos:Pos}{f:Ev->Option D}{fa:Ev->Option (List D)}{m:Str}
structure DkC (K:W.Frag) (C:Addr):Prop where
 cl:Cls K C
 nW:wY K C "web"
 nH:wY K C "heap"
 nP:wY K C "past"
noncomputable def zlr:D->Option D
 | .obj w _ _=>some w
 | _=>none
noncomputable def zlD:D->Option D
 | .obj _ h _=>some h
 | _=>none
noncomputable def fldP:D->Option D
 | .obj _ _ a=>some (.lst a)
 | _=>none
theorem zdh (c:DkC X.K KK.dk) (h:ED X a f) (l:attributeBase a "web" X.env (eval a X.env)=eval a X.env:=by rfl):ED X (.Attribute a "web" pos) (eUn zlr f):=by
 obtain⟨t,p,r⟩:=h
 refine⟨_,Vp p l,fun σ ρ F H z Q s m e q=>?_⟩
 obtain⟨d,n,b⟩:=Option.bind_eq_some_iff.mp e
 refine r σ ρ F H d _ s m n λF1 H1 v g o=>?_
 cases d with
 | obj w h E =>
  cases b
  obtain⟨p,k,B,j,C,y,rfl,u,x,i,A,D⟩:=o.obj_inv
  exact⟨p,_,k,_,j,rfl,g.fh _ _ u,c.cl,c.nW,rfl,q F1 H1 _ g i⟩
 | _=>cases b
theorem VX (c:DkC X.K KK.dk) (h:ED X a f) (j:attributeBase a "heap" X.env (eval a X.env)=eval a X.env:=by rfl):ED X (.Attribute a "heap" pos) (eUn zlD f):=by
 obtain⟨t,p,r⟩:=h
 refine⟨_,Vp p j,fun σ ρ F H z Q s l e q=>?_⟩
 obtain⟨d,m,b⟩:=Option.bind_eq_some_iff.mp e
 refine r σ ρ F H d _ s l m λF1 H1 v g n=>?_
 cases d with
 | obj w h E =>
  cases b
  obtain⟨p,i,C,A,o,B,rfl,u,y,x,k,D⟩:=n.obj_inv
  exact⟨p,_,i,_,o,rfl,g.fh _ _ u,c.cl,c.nH,rfl,q F1 H1 _ g k⟩
 | _=>cases b
theorem zhe (c:DkC X.K KK.dk) (h:ED X a f) (k:attributeBase a "past" X.env (eval a X.env)=eval a X.env:=by rfl):ED X (.Attribute a "past" pos) (eUn fldP f):=by
 obtain⟨t,p,r⟩:=h
 refine⟨_,Vp p k,fun σ ρ F H z Q s l e q=>?_⟩
 obtain⟨d,m,b⟩:=Option.bind_eq_some_iff.mp e
 refine r σ ρ F H d _ s l m λF1 H1 v g o=>?_
 cases d with
 | obj w h E =>
  cases b
  obtain⟨p,j,n,A,D,B,rfl,x,i,y,C,u⟩:=o.obj_inv
  exact⟨p,_,j,_,.ref n,rfl,g.fh _ _ x,c.cl,c.nP,rfl,q F1 H1 _ g (At.lst i u)⟩
 | _=>cases b
noncomputable def zia (n:Nat)(p:List D->Option D)(b:Ev->Option D)(fa:Ev->Option (List D)):Ev->Option D:=fun ρ=>(b ρ).bind λd=>match d with
 | .obj w h c=>(fa ρ).bind λa=>if a.length+1=n then p (.obj w h c::a)else none
 | _=>none
noncomputable def xMet (n:Nat)(r:List D->Option Nat)(b:Ev->Option D)(fa:Ev->Option (List D)):Ev->Option Nat:=fun ρ=>(b ρ).bind λd=>match d with
 | .obj w h c=>(fa ρ).bind λa=>if a.length+1=n then r (.obj w h c::a)else none
 | _=>none
variable {k n:Nat}{g:Addr}{fd:FuncData}{ps:List Str}{q:List D->Option D}{r:List D->Option Nat}
theorem zdN {pl:Sem Bool}(c:Cls X.K KK.dk)(R:zdG X.K KK.dk m g)(F:xA X.prog X.w X.K X.mg X.base CX0 k g fd ps (spD n q))(D:yL k X.A)(M:xf X.K fd ps [])(I:ED X o f)(U:AD X (e::es) fa)
 (V:∀ u B q,(ZM u B q).lookup m=none:=by intros;rfl)
 (l:starEach (e::es) X.env=(false,eval e X.env)::starEach es X.env:=by rfl) (b:(backTo pos (starEach es X.env)).any (·.1)=false:=by rfl)
 (O:eval (.Call (.Attribute o m apos) (e::es) [] pos) X.env=(do
  let ov<-eval o X.env
  standAt apos.atName
  let (f,first)<-holding [ov] (getMethod ov m pl)
  callWith pos f first (backTo pos (starEach (e::es) X.env)) (backToKw pos (keywordEach [] X.env))):=by rfl) :
 ED X (.Call (.Attribute o m apos) (e::es) [] pos) (zia n q f fa):=by
 obtain⟨to,S,J⟩:=I
 obtain⟨t,L,E⟩:=U
 refine⟨_,zai (pl:=pl) S c R F D M .nil zbe L l b O,fun σ ρ F0 H d Q s y e h=>?_⟩
 obtain⟨A,P,x⟩:=Option.bind_eq_some_iff.mp e
 refine J σ ρ F0 H A _ s y P λF1 H1 v a z=>?_
 cases A with
 | obj w C j =>
  obtain⟨r,N,i⟩:=Option.bind_eq_some_iff.mp x
  split at i <;> try cases i
  rename_i W
  obtain⟨p,K,q',u,B,xs,rfl,Y,hq,Z,ah,al⟩:=z.obj_inv
  refine⟨p,K,_,rfl,a.fh _ _ Y,V _ _ _,?_⟩
  refine E σ ρ F1 H1 r _ a.fh (y.mono a.ff) N λF2 H2 vs g2 T=>?_
  exact⟨.obj w C j::r,d,F2,W,g2.fh,by rw[List.append_nil];exact .cons (z.mono g2.ff) T,i,λF' H' v g G=>h F' H' v ((a.trans g2).trans g) G⟩
 | _=>cases x
theorem zkj {E:XK}{B:Nat->Addr}{pl:Sem Bool}(c:Cls X.K KK.dk)(T:zdG X.K KK.dk m g)(F:xA X.prog X.w X.K X.mg X.base (Air X.prog X.w) k g fd ps (spX B n r))(V:xB (Air X.prog X.w) X E)(G:yL k X.A)(O:xf X.K fd ps [])(K:ED X o f)(Y:AD X (e::es) fa)
 (Z:∀ u C q,(ZM u C q).lookup m=none:=by intros;rfl)
 (i:starEach (e::es) X.env=(false,eval e X.env)::starEach es X.env:=by rfl) (b:(backTo pos (starEach es X.env)).any (·.1)=false:=by rfl)
 (R:eval (.Call (.Attribute o m apos) (e::es) [] pos) X.env=(do
  let ov<-eval o X.env
  standAt apos.atName
  let (f,first)<-holding [ov] (getMethod ov m pl)
  callWith pos f first (backTo pos (starEach (e::es) X.env)) (backToKw pos (keywordEach [] X.env))):=by rfl) :
 XE E B X (.Call (.Attribute o m apos) (e::es) [] pos) (xMet n r f fa):=by
 obtain⟨to,U,L⟩:=K
 obtain⟨t,N,J⟩:=Y
 refine⟨_,zai (pl:=pl) U c T F G O .nil V N i b R,fun σ ρ F0 H j Q s y e w=>?_⟩
 obtain⟨A,S,x⟩:=Option.bind_eq_some_iff.mp e
 refine L σ ρ F0 H A _ s y S λF1 H1 v a z=>?_
 cases A with
 | obj I D h =>
  obtain⟨l,P,d⟩:=Option.bind_eq_some_iff.mp x
  split at d <;> try cases d
  rename_i hl
  obtain⟨p,M,q',u,C,xs,rfl,hp,hq,aw,ah,al⟩:=z.obj_inv
  refine⟨p,M,_,rfl,a.fh _ _ hp,Z _ _ _,?_⟩
  refine J σ ρ F1 H1 l _ a.fh (y.mono a.ff) P λF2 H2 vs g2 W=>?_
  exact⟨.obj I D h::l,j,F2,hl,g2.fh,by rw[List.append_nil];exact .cons (z.mono g2.ff) W,d,w.grow (a.trans g2)⟩
 | _=>cases x
end
open Classical in
noncomputable def off (x q:Addr)(H:Hp):Hp:=λb=>if b=x\/b=q then none else H b
section
variable {x q:Addr}{F H F' H':Hp}
theorem Z8 {b:Addr}(c:b≠x)(a:b≠q):off x q H b=H b:=by
 unfold off
 rw[if_neg (λz=>z.elim c a)]
theorem xL {b:Addr}{o:HO}(h:off x q H b=some o):b≠x/\b≠q/\H b=some o:=by
 unfold off at h
 split at h
 .cases h
 .rename_i a
  exact⟨λz=>a (.inl z),λz=>a (.inr z),h⟩
theorem zlW:off x q H x=none:=by
 unfold off
 rw[if_pos (.inl rfl)]
theorem zl6:off x q H q=none:=by
 unfold off
 rw[if_pos (.inr rfl)]
theorem vv {o:HO}:off x q (upd H x o)=off x q H:=by
 funext b
 unfold off
 split
 .rfl
 .rename_i a
  rw[ze λz=>a (.inl z)]
theorem WU {o:HO}:off x q (upd H q o)=off x q H:=by
 funext b
 unfold off
 split
 .rfl
 .rename_i a
  rw[ze λz=>a (.inr z)]
theorem zD.offs (s:zD F H)(c:F x=none)(a:F q=none):zD F (off x q H):=λb o e=>by
 rw[Z8 (zd e c) (zd e a)]
 exact s b o e
theorem zD.on (s:zD F (off x q H)):zD F H:=λb o e=>(xL (s b o e)).2.2
theorem Gr.offs (g:Gr F H F' H')(k:F' x=none)(h:F' q=none):Gr F (off x q H) F' (off x q H'):=by
 refine⟨g.ff,zD.offs g.fh k h,λb o a f=>?_⟩
 obtain⟨c,i,e⟩:=xL f
 obtain⟨j,d⟩:=g.kp b o a e
 exact⟨j,by rw[Z8 c i];exact d⟩
end
structure Vt [KK] (F H:Hp) (x dx q:Addr) (w h:D) (ps:List D):Prop where
 ex:∃ vw vh xs,H x=some (.ins KK.dk dx (ZM vw vh q))/\H q=some (.lst xs)/\At F w vw/\At F h vh/\AtL F ps xs
 fx:F x=none
 fq:F q=none
section
variable [KK]{Fb Hb F H F' H':Hp}{ρ:SE}{σ:L2.St}{x dx q:Addr}{w h w' h':D}{ps:List D}
theorem Vt.grow (d:Vt F H x dx q w h ps)(g:Gr F H F' H'):Vt F' H' x dx q w h ps:=by
 obtain⟨c,i,j,m,l,k,e,f⟩:=d.ex
 have b:=g.kl (λ_ z=>by cases z) d.fx m
 have a:=g.kl (λ_ z=>by cases z) d.fq l
 exact⟨⟨c,i,j,b.2,a.2,k.mono g.ff,e.mono g.ff,f.mono g.ff⟩,b.1,a.1⟩
theorem Vt.ne (d:Vt F H x dx q w h ps):x≠q:=by
 obtain⟨c,e,f,b,a,_⟩:=d.ex
 exact ziW b a (λz=>by cases z)
theorem Rl.deed {i:Nat}{z:Option (Addr × Addr × Addr)}{k:List D}(r:Rl Fb Hb F H ρ σ)(e:ρ[i]?=some (.k w h ⟨z,ps⟩))(ex:σ[i]?=some (some (.ref x)))(d:Vt F H x dx q w h ps)(g:Gr F (off x q H) F' (off x q H'))(U:Vt F' H' x dx q w' h' k) :
 Rl Fb Hb F' H' (ρ.set i (.k w' h' ⟨z,k⟩)) σ:=by
 obtain⟨vw,vh,xs,hx,hq,a1,a2,a3⟩:=d.ex
 obtain⟨C,J,Q,G,R,b1,b2,b3⟩:=U.ex
 obtain⟨p,a5,q2,a0,a4,a6,f1,W,f3,f4,f5,f6,V,f8,f9⟩:=r.dk i w h _ e
 rw[ex]at f1
 cases f1
 rw[hx]at W
 cases W
 obtain⟨p3,o3,Z,X,e6,e7,_⟩:=r.ows i _ e rfl
 rw[ex]at Z
 cases Z
 have hi:i < ρ.length:=(List.getElem?_eq_some_iff.mp e).1
 have m:∀ {j:Nat} {s:Sl},i=j->(ρ.set i (.k w' h' ⟨z,k⟩))[j]?=some s->s=.k w' h' ⟨z,k⟩:=λ{j s} c h=>by
  subst c
  rw[List.getElem?_set_self hi]at h
  cases h
  rfl
 have f:∀ {j:Nat} {s:Sl},(ρ.set i (.k w' h' ⟨z,k⟩))[j]?=some s->s.isO=true->∃ s',ρ[j]?=some s'/\s'.isO=true:=λ{j s} h n=>by
  by_cases c:i=j
  .subst c;exact⟨_,e,rfl⟩
  .rw[List.getElem?_set_ne c]at h;exact⟨s,h,n⟩
 have P:∀ {j:Nat} {s:Sl} {a:Addr},i≠j->ρ[j]?=some s->s.isO=true->σ[j]?=some (some (.ref a))->a≠x/\a≠q:=λ{j s a} hne M n I=>by
  refine⟨λz=>?_,λz=>?_⟩
  .subst z;exact hne (r.dis i j a _ s e M rfl n ex I)
  .subst z;exact V j s M n I
 refine⟨⟨r.gr.ff.trans g.ff,zD.on g.fh,λb o e1 T=>?_⟩,λj d h=>?_,λj s h n=>?_,λj l a s t M I o1 o2 h3 h4=>?_,by simp[r.len],λj w2 I a7 h=>?_⟩
 .obtain⟨E,k2⟩:=r.gr.kp b o e1 T
  rcases E with E | ⟨E,k3⟩
  .have S:b≠x:=zd T X
   have O:b≠q:=zd T f3
   obtain⟨A,B⟩:=g.kp b o E (by rw[Z8 S O];exact k2)
   exact⟨A,(xL B).2.2⟩
  .have y:=g.ff _ _ k3
   exact⟨.inr ⟨E,y⟩,zD.on g.fh _ _ y⟩
 .by_cases c:i=j
  .cases m c h
  .rw[List.getElem?_set_ne c]at h
   obtain⟨v,A,B⟩:=r.vals j d h
   exact⟨v,A,B.mono g.ff⟩
 .by_cases c:i=j
  .cases m c h
   subst c
   exact⟨x,_,ex,X,U.fx,G,dx,C,J,q,rfl,b1,b2⟩
  .rw[List.getElem?_set_ne c]at h
   obtain⟨a,o,A,B,y3,y4,Y⟩:=r.ows j s h n
   obtain⟨S,O⟩:=P c h n A
   obtain⟨u1,u2⟩:=g.kl Y.ntup y3 (by rw[Z8 S O];exact y4)
   exact⟨a,o,A,B,u1,(xL u2).2.2,Y.mono g.ff⟩
 .obtain⟨K,L,u⟩:=f M o1
  obtain⟨s2,g2,N⟩:=f I o2
  exact r.dis j l a K s2 L g2 u N h3 h4
 .have c:i=j:=by
   obtain⟨K,L,_⟩:=f h rfl
   by_cases c:i=j
   .exact c
   .rw[List.getElem?_set_ne c]at h
    exact(f8 j _ h rfl).symm
  cases m c h
  subst c
  refine⟨x,dx,q,C,J,Q,ex,G,f3,U.fq,R,b3,λj s h n=>?_,λj s h hk=>?_,f9⟩
  .obtain⟨K,L,u⟩:=f h n
   exact V j K L u
  .by_cases c:i=j
   .exact c.symm
   .rw[List.getElem?_set_ne c]at h
    exact f8 j s h hk
theorem Rl.desk {i:Nat}{z:Option (Addr × Addr × Addr)}(r:Rl Fb Hb F H ρ σ)(e:ρ[i]?=some (.k w h ⟨z,ps⟩)):∃ x dx q,σ[i]?=some (some (.ref x))/\Vt F H x dx q w h ps/\∀ a,z=some a->a=(x,dx,q):=by
 obtain⟨p,dx,q,m,s,t,b,c,D,A,n,u,G,I,l⟩:=r.dk i w h _ e
 obtain⟨C,E,d,K,y,f,B,g,j,J,v,k,o⟩:=r.ows i _ e rfl
 rw[b]at d
 cases d
 rw[c]at f
 cases f
 cases v
 exact⟨p,dx,q,b,⟨⟨m,s,t,c,n,k,o,u⟩,y,A⟩,l⟩
theorem zcc {N:List Str}{c:List D}{l:List V}(s:zD F H)(d:Vt F H x dx q w h ps)(a:AtL F c l):Rl F (off x q H) F H (.k w h ⟨some (x,dx,q),ps⟩::(c.map .v++List.replicate (N.length - (c.length+1)) .no)) (L2.start N (.ref x::l)):=by
 have B:=a.length
 obtain⟨n,A,I,r,G,Q,S,K⟩:=d.ex
 have T:(L2.start N (.ref x::l))[0]?=some (some (.ref x)):=rfl
 have b:∀ (i:Nat) (t:Sl),(c.map Sl.v++List.replicate (N.length - (c.length+1)) Sl.no)[i]?=some t->t.isO=true->False:=λi t h f=>by
  by_cases g:i < c.length
  .rw[List.getElem?_append_left (by simpa using g),List.getElem?_map]at h
   cases e:c[i]? with
   | none=>rw[e]at h;cases h
   | some d=>rw[e]at h;cases h;cases f
  .rw[List.getElem?_append_right (by simpa using g),List.getElem?_replicate]at h
   split at h <;> cases h
   cases f
 refine⟨⟨zD.refl _,s,λp o L J=>⟨.inl L,(xL J).2.2⟩⟩,λi M h=>?_,λi t h f=>?_,λi j p t u v m O U Y X=>?_,?_,λi W m R h=>?_⟩
 .cases i with
  | zero=>cases h
  | succ i =>
   rw[List.getElem?_cons_succ]at h
   by_cases g:i < c.length
   .rw[List.getElem?_append_left (by simpa using g),List.getElem?_map]at h
    cases e:c[i]? with
    | none=>rw[e]at h;cases h
    | some M =>
     rw[e]at h
     cases h
     obtain⟨y,P,E⟩:=a.get e
     refine⟨y,?_,E⟩
     unfold L2.start
     rw[List.map_cons,List.cons_append,List.getElem?_cons_succ,List.getElem?_append_left (by simpa [B]using g),List.getElem?_map,P]
     rfl
   .rw[List.getElem?_append_right (by simpa using g),List.getElem?_replicate]at h
    split at h <;> cases h
 .cases i with
  | zero=>cases h;exact⟨x,_,rfl,zlW,d.fx,r,dx,n,A,q,rfl,Q,S⟩
  | succ i=>rw[List.getElem?_cons_succ]at h;exact(b i t h f).elim
 .cases i with
  | zero=>cases j with
   | zero=>rfl
   | succ j=>rw[List.getElem?_cons_succ]at m;exact(b j u m U).elim
  | succ i=>rw[List.getElem?_cons_succ]at v;exact(b i t v O).elim
 .unfold L2.start
  simp[B]
 .cases i with
  | zero =>
   cases h
   refine⟨x,dx,q,n,A,I,rfl,r,zl6,d.fq,G,K,λj s h f=>?_,λj s h C=>?_,λ_ z=>by cases z;rfl⟩
   .cases j with
    | zero=>intro z;cases z;exact d.ne rfl
    | succ j=>rw[List.getElem?_cons_succ]at h;exact(b j s h f).elim
   .cases j with
    | zero=>rfl
    | succ j =>
     rw[List.getElem?_cons_succ]at h
     refine(b j s h ?_).elim
     cases s with
     | k _ _ _=>rfl
     | _=>cases C
  | succ i=>rw[List.getElem?_cons_succ]at h;exact(b i _ h rfl).elim
end
section
variable [KK]{X:Cx}{a b o e:Expr}{es:List Expr}{p apos pos pos' pos2:Pos}{f:Ev->Option D}{fa:Ev->Option (List D)}{m:Str}
noncomputable def zb9 (i:Nat)(f:Ev->Option D):SE->Ctl:=fun ρ=>match vEv true f ρ,ρ[i]? with
 | some d,some (.k w h ⟨z,ps⟩)=>if decide (ps.length < sizeLine)=true then .nx (ρ.set i (.k w h ⟨z,ps++[d]⟩))else .no
 | _,_=>.no
theorem zhG {i:Nat}(c:DkC X.K KK.dk)(D:PE X a (Yl i))(O:ED X e f)
 (R:∀ {y:TE} {t:TA},PE X (.Attribute a "past" apos) y->PA X [e] t->PE X (.Call (.Attribute (.Attribute a "past" apos) "append" p) [e] [] pos') (tBM X.K "list" zaf y t)) (J:attributeBase a "past" X.env (eval a X.env)=eval a X.env:=by rfl)
 (s:swapsWith (.Call (.Attribute (.Attribute a "past" apos) "append" p) [e] [] pos') none pos.line X.env=pure false:=by rfl) (Q:starEach [e] X.env=(false,eval e X.env)::starEach [] X.env:=by rfl) :
 SD X (.Expr (.Call (.Attribute (.Attribute a "past" apos) "append" p) [e] [] pos') pos) (zb9 i f):=by
 obtain⟨t,M,P⟩:=O
 refine⟨_,Zs (R (Vp D J) (zn M z9 Q)) s,λFb Hb F H ρ σ E n k=>?_⟩
 unfold zb9 at k
 split at k
 .rename_i d w h z V K A
  split at k
  .rename_i N
   obtain⟨x,G,q,ex,u,_⟩:=n.desk A
   obtain⟨S,Y,I,L,B,U,W,T⟩:=u.ex
   refine⟨_,ex,x,_,G,_,.ref q,rfl,L,c.cl,c.nP,rfl,.inl ⟨rfl,I,SqL.of B⟩,?_⟩
   refine P.at n K λF' H' v g C=>?_
   have b:=u.grow g
   obtain⟨r,o,j,m,l,b1,b2,b3⟩:=b.ex
   refine⟨q,j,v,rfl,rfl,l,by rw[b3.length];exact of_decide_eq_true N,?_⟩
   refine k F' _ σ ((n.grow g).deed A ex b (H':=upd H' q (.lst (j++[v]))) ?_ ⟨⟨r,o,_,?_,zf,b1,b2,b3.snoc C⟩,b.fx,b.fq⟩)
   .rw[WU]
    exact .refl (zD.offs g.fh b.fx b.fq)
   .rw[ze b.ne]
    exact m
  .exact k.elim
 .exact k.elim
noncomputable def sFW (i:Nat)(f:Ev->Option D):SE->Ctl:=fun ρ=>match vEv true f ρ,ρ[i]? with
 | some d,some (.k _ h ps)=>.nx (ρ.set i (.k d h ps))
 | _,_=>.no
noncomputable def sFH (i:Nat)(f:Ev->Option D):SE->Ctl:=fun ρ=>match vEv true f ρ,ρ[i]? with
 | some d,some (.k w _ ps)=>.nx (ρ.set i (.k w d ps))
 | _,_=>.no
theorem zjo {i:Nat} (c:DkC X.K KK.dk) (s:PE X a (Yl i)) (I:ED X e f) (y:swapsWith e (some (.Attribute a "web" pos')) pos.line X.env=pure false:=by rfl):SD X (.Assign [.Attribute a "web" pos'] e pos) (sFW i f):=by
 obtain⟨t,D,J⟩:=I
 refine⟨_,Vg s D y,λFb Hb F H ρ σ E j k=>?_⟩
 unfold sFW at k
 split at k
 .rename_i d w h l B n
  obtain⟨z,M⟩:=l
  refine J.at j B λF' H' v g r=>?_
  obtain⟨x,m,q,ex,b,_⟩:=(j.grow g).desk n
  obtain⟨K,o,u,C,p,L,G,A⟩:=b.ex
  refine⟨_,ex,x,_,m,_,rfl,C,c.cl,c.nW,by show 3 < 1000;decide,?_⟩
  refine k F' _ σ ((j.grow g).deed n ex b (H':=upd H' x (.ins KK.dk m (ZM v o q))) ?_ ⟨⟨v,o,u,zf,?_,r,G,A⟩,b.fx,b.fq⟩)
  .rw[vv]
   exact .refl (zD.offs g.fh b.fx b.fq)
  .rw[ze (Ne.symm b.ne)]
   exact p
 .exact k.elim
theorem zkl {i:Nat} (c:DkC X.K KK.dk) (s:PE X a (Yl i)) (I:ED X e f) (y:swapsWith e (some (.Attribute a "heap" pos')) pos.line X.env=pure false:=by rfl):SD X (.Assign [.Attribute a "heap" pos'] e pos) (sFH i f):=by
 obtain⟨t,G,J⟩:=I
 refine⟨_,Vg s G y,λFb Hb F H ρ σ E j k=>?_⟩
 unfold sFH at k
 split at k
 .rename_i d w h l B o
  obtain⟨z,M⟩:=l
  refine J.at j B λF' H' v g r=>?_
  obtain⟨x,n,q,ex,b,_⟩:=(j.grow g).desk o
  obtain⟨m,L,u,D,p,C,K,A⟩:=b.ex
  refine⟨_,ex,x,_,n,_,rfl,D,c.cl,c.nH,by show 3 < 1000;decide,?_⟩
  refine k F' _ σ ((j.grow g).deed o ex b (H':=upd H' x (.ins KK.dk n (ZM m v q))) ?_ ⟨⟨m,v,u,zf,?_,C,r,A⟩,b.fx,b.fq⟩)
  .rw[vv]
   exact .refl (zD.offs g.fh b.fx b.fq)
  .rw[ze (Ne.symm b.ne)]
   exact p
 .exact k.elim
noncomputable def zhp (i j:Nat):SE->Ctl:=fun ρ=>match ρ[i]? with
 | some (.k w h ⟨z,ps⟩)=>(match ps.getLast? with
  | some d=>.nx ((ρ.set i (.k w h ⟨z,ps.dropLast⟩)).set j (.v d))
  | none=>.no)
 | _=>.no
theorem zhT {i j:Nat} {x:Str} (c:DkC X.K KK.dk) (v:X.N.Nodup) (M:X.N[j]?=some x) (G:Loc X.env.scope x) (r:PE X a (Yl i)) (u:attributeBase a "past" X.env (eval a X.env)=eval a X.env:=by rfl)
 (O:∀ {m:TE},PE X (.Attribute a "past" apos) m->PE X (.Call (.Attribute (.Attribute a "past" apos) "pop" p) [] [] pos2) (zmh X.K "list" zke m)) (N:swapsWith (.Call (.Attribute (.Attribute a "past" apos) "pop" p) [] [] pos2) (some (.Name x pos')) pos.line X.env=pure false:=by rfl)
 (J:X.fn x=true\/X.env.scope.names.lookup x=some .local:=by first | exact .inl rfl | exact .inr rfl | assumption):SD X (.Assign [.Name x pos'] (.Call (.Attribute (.Attribute a "past" apos) "pop" p) [] [] pos2) pos) (zhp i j):=by
 refine⟨_,ww v M G (O (Vp r u)) N J,λFb Hb F H ρ σ E f k=>?_⟩
 unfold zhp at k
 split at k
 .rename_i w h z Q n
  split at k
  .rename_i d B
   obtain⟨es,rfl⟩:=List.getLast?_eq_some_iff.mp B
   rw[List.dropLast_concat]at k
   obtain⟨D,t,q,ex,b,_⟩:=f.desk n
   obtain⟨s,K,P,e,l,C,I,A⟩:=b.ex
   obtain⟨g,y,rfl,L,o⟩:=A.unsnoc
   refine⟨_,ex,D,_,t,_,.ref q,rfl,e,c.cl,c.nP,rfl,.inl ⟨rfl,_,SqL.of l⟩,q,g,y,rfl,rfl,l,?_⟩
   refine k F _ _ ((f.deed n ex b (H':=upd H q (.lst g)) ?_ ⟨⟨s,K,g,?_,zf,C,I,L⟩,b.fx,b.fq⟩).set o)
   .rw[WU]
    exact .refl (zD.offs f.gr.fh b.fx b.fq)
   .rw[ze b.ne]
    exact e
  .exact k.elim
 .exact k.elim
noncomputable abbrev KF:=D->D->List D->List D->Option (D × D × List D)
noncomputable abbrev KZ:=Option (Addr × Addr × Addr)->D->D->List D->List D->Option (D × D × Pst)
noncomputable def zls (n:Nat)(R:KZ)(j:D):Sp:=λi H Q _=>∃ x b q g F w h f c d e a,i=.ref x::g/\zD F H/\Vt F H x b q w h f/\AtL F c g/\c.length+1=n/\R (some (x,b,q)) w h f c=some (d,e,⟨some (x,b,q),a⟩) /\
 ∀ F' H' v,Gr F (off x q H) F' (off x q H')->Vt F' H' x b q d e a->At F' j v->Q v H'
noncomputable def spK (n:Nat)(R:KF)(j:D):Sp:=λi H Q _=>∃ x d q g F w h f b c e a,i=.ref x::g/\zD F H/\Vt F H x d q w h f/\AtL F b g/\b.length+1=n/\R w h f b=some (c,e,a) /\
 ∀ F' H' v,Gr F (off x q H) F' (off x q H')->Vt F' H' x d q c e a->At F' j v->Q v H'
theorem zmu {P:Program}{w:World}{K:W.Frag}{g:Str->Option Value}{b:Heap}{f:Addr}{j:FuncData}{ps:List Str}{k n:Nat}{CX:CXT}{R:KZ}{R':KF}{i:D}(F:xA P w K g b CX k f j ps (zls n R i))(h:∀ z w h ps d c e a,R' w h ps d=some (c,e,a)->R z w h ps d=some (c,e,⟨z,a⟩)):xA P w K g b CX k f j ps (spK n R' i) :=
 F.imp λA H Q E ⟨x,p,q,l,F',w,e,ps,d,c,s,a,u,v,t,r,m,o,y⟩=>⟨x,p,q,l,F',w,e,ps,d,c,s,a,u,v,t,r,m,h _ _ _ _ _ _ _ _ o,y⟩
noncomputable def ziY (n:Nat)(g:SE->Ctl):KZ:=λz w h b a=>match g (.k w h ⟨z,b⟩::(a.map .v++List.replicate (n - (a.length+1)) .no)) with
 | .nx ρ=>(match (ρ:SE)[0]? with
  | some (Sl.k w' h' p')=>some (w',h',p')
  | _=>none)
 | _=>none
noncomputable def SDk (X:Cx)(a:List Stmt)(g:SE->Ctl)(c:V):Prop:=∃ t,PSs X a t/\∀ (Fb Hb F H:Hp) (ρ:SE) (σ:L2.St) (E:Wg),Rl Fb Hb F H ρ σ->(match g ρ with
 | .nx b=>∀ F' H' d,Rl Fb Hb F' H' b d->E.rt c H'
 | _=>False)->t E σ H
theorem zhn {x:Str}{j:Nat}:SDk X [.Return (some (.Constant (.str x) j pos')) pos] zC (.str x) :=
 ⟨_,vb (Z6 zj),λFb Hb F H ρ σ E a k=>k F H σ a⟩
theorem YE {f:Stmt}{a:List Stmt}{g h:SE->Ctl}{c:V}(j:SD X f g)(l:SDk X a h c):SDk X (f::a) (zG g h) c:=by
 obtain⟨t,p,r⟩:=j
 obtain⟨u,n,o⟩:=l
 refine⟨_,yK p n,λFb Hb F H ρ σ E m k=>?_⟩
 refine r Fb Hb F H ρ σ { E with nx:=u E } m ?_
 unfold zG at k
 cases e:g ρ with
 | nx i =>
  rw[e]at k
  exact λF' H' q b=>o Fb Hb F' H' i q E b k
 | rt d=>rw[e]at k;exact k.elim
 | bk d=>rw[e]at k;exact k.elim
 | ct d=>rw[e]at k;exact k.elim
 | no=>rw[e]at k;exact k.elim
section
variable {P:Program}{w:World}{K:W.Frag}{mg:Str->Option Value}{base:Heap}{x qual:Str}{st:Stmt}{f:Addr}{fd:FuncData}{N ps:List Str}{k:Nat}{g:SE->Ctl}
theorem zgr {n:Nat}{R:KZ}{c:D}{a:List V}{H:Hp}{Q:VK}{E:XK}(h:zls n R c a H Q E):a.length=n:=by
 obtain⟨x,k,q,r,F,w,g,ps,i,f,o,d,rfl,l,p,e,b,j,m⟩:=h
 rw[List.length_cons,e.length]
 exact b
theorem zgB {Fb Hb F H F' H':Hp}{t:L2.St}{f:SE}{x i q:Addr}{g h:D}{a:List D}(c:Rl F (off x q H) F' H' f t)(e:f[0]?=some (.k g h ⟨some (x,i,q),a⟩)):Gr F (off x q H) F' (off x q H')/\Vt F' H' x i q g h a:=by
 obtain⟨u,s,v,ex,d,l⟩:=c.desk e
 cases l _ rfl
 refine⟨⟨c.gr.ff,zD.offs c.gr.fh d.fx d.fq,λb o k j=>?_⟩,d⟩
 obtain⟨p,m⟩:=c.gr.kp b o k j
 obtain⟨n,r,_⟩:=xL j
 exact⟨p,by rw[Z8 n r];exact m⟩
theorem zdy (Fu:Fun K x qual st f fd)(S:yf N ps (zg st))
 (u:∀ (a:Value) (A:Around) (outer:List Env) (s:Shared) (H:Hp) (E:XK),yL k (A.deeper (PyProof.Rows.envOfC qual (zg st) s.heap.objs.size f a))->SDs (vR CX0 P w K mg base N qual (zg st) f a A outer s H E).nox (zU st) g) :
 xA P w K mg base CX0 (k+1) f fd ps (zls ps.length (ziY N.length g) .non):=by
 refine Fu.ok S (λl H Q E h=>zgr h) λa A outer s H l Q E j h=>?_
 obtain⟨x,o,q,U,F,w,C,ps,c,I,M,m,rfl,D,n,G,T,e,i⟩:=h
 obtain⟨t,p,r⟩:=u a A outer s H E j
 refine⟨t,p,r F (off x q H) F H _ _ _ (zcc D n G) ?_⟩
 unfold ziY at e
 cases b:g (.k w C ⟨some (x,o,q),ps⟩::(c.map .v++List.replicate (N.length - (c.length+1)) .no)) with
 | nx ρ =>
  rw[b]at e
  dsimp only at e
  split at e
  .rename_i L R J v
   cases e
   intro F' H' O y
   obtain⟨B,z⟩:=zgB (Fb:=F) (Hb:=H) y v
   exact i F' H' _ B z .non
  .cases e
 | rt d=>rw[b]at e;cases e
 | bk ρ=>rw[b]at e;cases e
 | ct ρ=>rw[b]at e;cases e
 | no=>rw[b]at e;cases e
theorem zhA {y:Str}(Fu:Fun K x qual st f fd)(S:yf N ps (zg st))
 (u:∀ (a:Value) (A:Around) (outer:List Env) (s:Shared) (H:Hp) (E:XK),yL k (A.deeper (PyProof.Rows.envOfC qual (zg st) s.heap.objs.size f a))->SDk (vR CX0 P w K mg base N qual (zg st) f a A outer s H E).nox (zU st) g (.str y)) :
 xA P w K mg base CX0 (k+1) f fd ps (zls ps.length (ziY N.length g) (.str y)):=by
 refine Fu.ok S (λl H Q E h=>zgr h) λa A outer s H l Q E j h=>?_
 obtain⟨x,o,q,V,F,w,D,ps,c,J,O,m,rfl,G,n,I,U,e,i⟩:=h
 obtain⟨t,p,r⟩:=u a A outer s H E j
 refine⟨t,p,r F (off x q H) F H _ _ _ (zcc G n I) ?_⟩
 unfold ziY at e
 cases b:g (.k w D ⟨some (x,o,q),ps⟩::(c.map .v++List.replicate (N.length - (c.length+1)) .no)) with
 | nx ρ =>
  rw[b]at e
  dsimp only at e
  split at e
  .rename_i M T L v
   cases e
   intro F' H' R z
   obtain⟨C,B⟩:=zgB (Fb:=F) (Hb:=H) z v
   exact i F' H' _ C B .str
  .cases e
 | rt d=>rw[b]at e;cases e
 | bk ρ=>rw[b]at e;cases e
 | ct ρ=>rw[b]at e;cases e
 | no=>rw[b]at e;cases e
end
noncomputable def KE (X:Cx)(e:Expr)(f:SE->Option (D × SE)):Prop:=∃ t,PE X e t/\∀ (Fb Hb F H:Hp) (ρ:SE) (σ:L2.St) (Q:VK) (d:D) (a:SE),Rl Fb Hb F H ρ σ->f ρ=some (d,a)->(∀ F' H' v,zD F F'->Rl Fb Hb F' H' a σ->At F' d v->Q v H')->t σ H Q
noncomputable def kDo (i n:Nat)(R:KF)(b:D)(fa:Ev->Option (List D)):SE->Option (D × SE):=fun ρ=>match ρ[i]? with
 | some (.k w h ⟨z,ps⟩)=>(fa (visG ρ)).bind λa=>if zeV a=true/\a.length+1=n then (R w h ps a).map λr=>(b,ρ.set i (.k r.1 r.2.1 ⟨z,r.2.2⟩))else none
 | _=>none
theorem zgU {i n:Nat}{R:KF}{y:D}{C:Addr}{t:TA}{E:XK}(B:C=KK.dk)(V:∀ l A q,(ZM l A q).lookup m=none)(G:RA t fa)(Fb Hb F H:Hp)(ρ:SE)(σ:L2.St)(Q:VK)(d:D)(u:SE)(b:Rl Fb Hb F H ρ σ)(h:kDo i n R y fa ρ=some (d,u))
 (k:∀ F' H' v,zD F F'->Rl Fb Hb F' H' u σ->At F' d v->Q v H'):ziQ C m (spK n R y) [] E (Yl i) t σ H Q:=by
 subst B
 unfold kDo at h
 split at h
 .rename_i w S z Y s
  obtain⟨j,L,e⟩:=Option.bind_eq_some_iff.mp h
  split at e <;> try cases e
  rename_i p
  obtain⟨⟨K,M,f⟩,X,W⟩:=Option.map_eq_some_iff.mp e
  cases W
  obtain⟨x,r,q,ex,o,_⟩:=b.desk s
  obtain⟨l,A,xs,T,Z,_⟩:=o.ex
  refine⟨_,ex,x,r,_,rfl,T,V _ _ _,?_⟩
  refine G σ _ _ H j _ b.gh b.visG L λF1 H1 J N P=>?_
  obtain⟨c,U⟩:=b.back N
  have a:=o.grow c
  refine⟨x,r,q,J,_,w,S,Y,j,K,M,f,by rw[List.append_nil],c.fh,a,P.flat U p.1,p.2,X,λF' H' v g O I=>?_⟩
  exact k F' H' v (c.ff.trans g.ff) ((b.grow c).deed s ex a g O) I
 .cases h
section
variable {k n i:Nat}{g:Addr}{fd:FuncData}{ps:List Str}{R:KF}{d0:D}
theorem Zo {pl:Sem Bool}(c:Cls X.K KK.dk)(h:zdG X.K KK.dk m g)(F:xA X.prog X.w X.K X.mg X.base CX0 k g fd ps (spK n R d0))(j:yL k X.A)(w:xf X.K fd ps [])(p:PE X o (Yl i))(s:AD X (e::es) fa)
 (x:∀ r u q,(ZM r u q).lookup m=none:=by intros;rfl)
 (b:starEach (e::es) X.env=(false,eval e X.env)::starEach es X.env:=by rfl) (a:(backTo pos (starEach es X.env)).any (·.1)=false:=by rfl)
 (d:eval (.Call (.Attribute o m apos) (e::es) [] pos) X.env=(do
  let ov<-eval o X.env
  standAt apos.atName
  let (f,first)<-holding [ov] (getMethod ov m pl)
  callWith pos f first (backTo pos (starEach (e::es) X.env)) (backToKw pos (keywordEach [] X.env))):=by rfl) :
 KE X (.Call (.Attribute o m apos) (e::es) [] pos) (kDo i n R d0 fa):=by
 obtain⟨t,v,l⟩:=s
 exact⟨_,zai (E:=λ_ _ _=>False) (pl:=pl) p c h F j w .nil zbe v b a d,zgU rfl x l⟩
theorem zjV:RA zdj (λ_=>some []):=fun σ ρ F H a Q s b e q=>by
 cases e
 exact q F H [] (.refl s) .nil
theorem zht {pl:Sem Bool}(c:Cls X.K KK.dk)(p:zdG X.K KK.dk m g)(F:xA X.prog X.w X.K X.mg X.base CX0 k g fd ps (spK n R d0))(e:yL k X.A)(j:xf X.K fd ps [])(b:PE X o (Yl i))
 (l:∀ d h q,(ZM d h q).lookup m=none:=by intros;rfl)
 (a:eval (.Call (.Attribute o m apos) [] [] pos) X.env=(do
  let ov<-eval o X.env
  standAt apos.atName
  let (f,first)<-holding [ov] (getMethod ov m pl)
  callWith pos f first (backTo pos (starEach [] X.env)) (backToKw pos (keywordEach [] X.env))):=by rfl) :
 KE X (.Call (.Attribute o m apos) [] [] pos) (kDo i n R d0 (λ_=>some [])) :=
 ⟨_,ze2 (E:=λ_ _ _=>False) (pl:=pl) b c p F e j .nil zbe a,zgU rfl l zjV⟩
end
noncomputable def kEd (f:Ev->Option D):SE->Option (D × SE):=fun ρ=>(vEv true f ρ).map λd=>(d,ρ)
theorem zkT (h:ED X e f):KE X e (kEd f):=by
 obtain⟨t,p,r⟩:=h
 refine⟨t,p,λFb Hb F H ρ σ Q d j a e k=>?_⟩
 obtain⟨l,b,i⟩:=Option.map_eq_some_iff.mp e
 cases i
 exact r.at a b λF' H' v g c=>k F' H' v g.ff (a.grow g) c
noncomputable def zmg (g:D->D->Option D)(f h:SE->Option (D × SE)):SE->Option (D × SE):=fun ρ=>(f ρ).bind λx=>(h x.2).bind λy=>if noL x.1=true/\noL y.1=true then (g x.1 y.1).bind λz=>if noL z=true then some (z,y.2)else none else none
theorem zjO {j:CmpOp}{r:R2}{g:D->D->Option D}{f h:SE->Option (D × SE)}(u:OpR X (compareOp j) r)(M:OpD r g)(O:behindInMarks j b=false)(K:KE X a f)(x:KE X b h):KE X (.Compare a [j] [b] pos) (zmg g f h):=by
 obtain⟨S,w,t⟩:=K
 obtain⟨U,E,N⟩:=x
 refine⟨_,V4 u w E O,λFb Hb F H ρ σ Q d T y e k=>?_⟩
 obtain⟨⟨o,q⟩,C,e⟩:=Option.bind_eq_some_iff.mp e
 obtain⟨⟨m,R⟩,n,e⟩:=Option.bind_eq_some_iff.mp e
 dsimp only at n e
 split at e <;> try cases e
 rename_i V
 obtain⟨z,A,e⟩:=Option.bind_eq_some_iff.mp e
 split at e <;> try cases e
 rename_i P
 refine t Fb Hb F H ρ σ _ o q y C λF1 H1 I s i G=>?_
 refine N Fb Hb F1 H1 q σ _ m _ i n λF2 H2 L l c J=>?_
 exact M F2 H2 I L o m d Q c.gr.fh (G.mono l) J A λF3 H3 v p B=>k F3 H3 v ((s.trans l).trans p.ff) (c.grow p) B
noncomputable def zlH (f h:SE->Option (D × SE)):SE->Option (D × SE):=fun ρ=>(f ρ).bind λx=>(asB x.1).bind λc=>if c=true then h x.2 else some (.bl false,x.2)
theorem zjK {rest:List Expr}{f h:SE->Option (D × SE)}(y:KE X a f)(p:KE X (.BoolOp .And (b::rest) pos) h):KE X (.BoolOp .And (a::b::rest) pos) (zlH f h):=by
 obtain⟨A,o,n⟩:=y
 obtain⟨C,u,z⟩:=p
 refine⟨_,zgG o u,λFb Hb F H ρ σ Q d t r e k=>?_⟩
 obtain⟨⟨B,l⟩,s,e⟩:=Option.bind_eq_some_iff.mp e
 obtain⟨c,q,e⟩:=Option.bind_eq_some_iff.mp e
 cases vC q
 refine n Fb Hb F H ρ σ _ _ l r s λF1 H1 E j g w=>⟨c,w.bl_inv,?_⟩
 cases c with
 | true =>
  rw[if_pos rfl]at e ⊢
  exact z Fb Hb F1 H1 l σ _ d t g e λF2 H2 v m i x=>k F2 H2 v (j.trans m) i x
 | false =>
  rw[if_neg Bool.false_ne_true]at e ⊢
  cases e
  exact k F1 H1 _ j g .bl
theorem zjp {op}{f:SE->Option (D × SE)}(ha:KE X a f):KE X (.BoolOp op [a] pos) f:=let ⟨_,pa,ra⟩:=ha;⟨_,zgJ pa,ra⟩
noncomputable def sKx (f:SE->Option (D × SE)):SE->Ctl:=fun ρ=>match f ρ with
 | some (_,ρ')=>.nx ρ'
 | none=>.no
theorem Vw {f:SE->Option (D × SE)}(g:KE X e f)(i:swapsWith e none pos.line X.env=pure false:=by rfl):SD X (.Expr e pos) (sKx f):=by
 obtain⟨t,p,r⟩:=g
 refine⟨_,Zs p i,λFb Hb F H ρ σ E c k=>?_⟩
 unfold sKx at k
 split at k
 .rename_i d b h
  exact r Fb Hb F H ρ σ _ d b c h λF' H' v _ a _=>k F' H' σ a
 .exact k.elim
noncomputable def sKr (f:SE->Option (D × SE)):SE->Ctl:=fun ρ=>match f ρ with
 | some (d,_)=>.rt d
 | none=>.no
theorem zmr {f:SE->Option (D × SE)}(i:KE X e f):SD X (.Return (some e) pos) (sKr f):=by
 obtain⟨t,p,r⟩:=i
 refine⟨_,Z6 p,λFb Hb F H ρ σ E g k=>?_⟩
 unfold sKr at k
 split at k
 .rename_i d b h
  exact r Fb Hb F H ρ σ _ d b g h λF' H' v _ a c=>k F' H' v a.gr c
 .exact k.elim
end
section
variable [KK]{X:Cx}{e1 e2 e3:Expr}{a1 a2 a3:Expr}{p1 p2 p3 pos pos1 pos2 pos3 pos':Pos}
noncomputable def w0:D:=.tup [.int 1,.tup []]
noncomputable def h0:D:=.tup [.int 0]
noncomputable def spI:Sp:=λb H Q _=>∃ x a F,b=[.ref x]/\zD F H/\F x=none/\H x=some (.ins KK.dk a [])/\∀ F' H' q,H q=none->Gr F (off x q H) F' (off x q H')->Vt F' H' x a q w0 h0 []->Q .non H'
noncomputable def SI (X:Cx) (a:List Stmt):Prop:=∃ b d c,PSs X a (zlg (zlt X.K (Yl 0) b "web") (zlg (zlt X.K (Yl 0) d "heap") (zlt X.K (Yl 0) c "past")))/\RE b (λ_=>some w0)/\RE d (λ_=>some h0)/\RF c (λ_=>some [])
theorem zlL {b c:Ev->Option D}{f:Ev->Option (List D)}(u:ED X e1 b)(k:ED X e2 c)(v:FL X e3 f)(b1:PE X a1 (Yl 0))(b2:PE X a2 (Yl 0))(b3:PE X a3 (Yl 0))(n:∀ ρ,b ρ=some w0)(g2:∀ ρ,c ρ=some h0)(m:∀ ρ,f ρ=some [])
 (h:swapsWith e1 (some (.Attribute a1 "web" p1)) pos1.line X.env=pure false:=by rfl) (g:swapsWith e2 (some (.Attribute a2 "heap" p2)) pos2.line X.env=pure false:=by rfl) (p:swapsWith e3 (some (.Attribute a3 "past" p3)) pos3.line X.env=pure false:=by rfl) :
 SI X [.Assign [.Attribute a1 "web" p1] e1 pos1,.Assign [.Attribute a2 "heap" p2] e2 pos2,.Assign [.Attribute a3 "past" p3] e3 pos3]:=by
 obtain⟨j,i,q⟩:=u
 obtain⟨t,w,x⟩:=k
 obtain⟨l,r,o⟩:=v
 refine⟨j,t,l,yK (Vg b1 i h) (yK (Vg b2 w g) (vb (Vg b3 r p))),fun σ ρ F H d Q s a e=>?_,fun σ ρ F H d Q s a e=>?_,fun σ ρ F H d Q s a e=>?_⟩
 .exact q σ ρ F H d Q s a ((n ρ).trans e)
 .exact x σ ρ F H d Q s a ((g2 ρ).trans e)
 .exact o σ ρ F H d Q s a ((m ρ).trans e)
theorem kx {F H F' H':Hp}{x b:Addr}{a:List (Str × V)}(g:Gr F H F' H')(d:F x=none)(c:H x=some (.ins KK.dk b a)):F' x=none/\H' x=some (.ins KK.dk b a):=g.kl (λ_ z=>by cases z) d c
theorem zkz {P:Program} {w:World} {K:PySem.W.Frag} {R:Str->Option Value} {j:Heap} {nm a:Str} {r:Stmt} {f:Addr} {W:FuncData} {k:Nat} (Fu:Fun K nm a r f W) (S:yf ["self"] ["self"] (zg r)) (c:DkC K KK.dk)
 (Z:∀ (g:Value) (A:Around) (outer:List Env) (s:Shared) (H:Hp) (E:XK),yL k (A.deeper (PyProof.Rows.envOfC a (zg r) s.heap.objs.size f g))->SI (vR CX0 P w K R j ["self"] a (zg r) f g A outer s H E).nox (zU r)) :
 xA P w K R j CX0 (k+1) f W ["self"] spI:=by
 refine Fu.ok S (λvs H Q E h=>?_) λg A outer s H vs Q E hr h=>?_
 .obtain⟨x,n,F,rfl,_⟩:=h
  rfl
 obtain⟨x,n,F,rfl,sm,fx,hx,kk⟩:=h
 obtain⟨t1,t2,t3,p,r1,r2,r3⟩:=Z g A outer s H E hr
 refine⟨_,p,?_⟩
 have D:∀ (G:Hp) (σ:L2.St),VAt G [] σ:=λG σ i d e=>by simp at e
 refine r1 _ [] F H w0 _ sm (D _ _) rfl λF1 H1 L t b1=>?_
 obtain⟨l,C⟩:=kx t fx hx
 refine⟨_,rfl,x,_,n,[],rfl,C,c.cl,c.nW,by decide,?_⟩
 have Y:zD F1 (upd H1 x (.ins KK.dk n (XF "web" L []))):=λb o e=>by
  rw[ze (zd e l)]
  exact t.fh b o e
 refine r2 _ [] F1 _ h0 _ Y (D _ _) rfl λF2 H2 V g2 b2=>?_
 obtain⟨m,N⟩:=kx g2 l zf
 refine⟨_,rfl,x,_,n,_,rfl,N,c.cl,c.nH,by show 1 < 1000;decide,?_⟩
 have X:zD F2 (upd H2 x (.ins KK.dk n (XF "heap" V (XF "web" L [])))):=λb o e=>by
  rw[ze (zd e m)]
  exact g2.fh b o e
 refine r3 _ [] F2 _ [] _ X (D _ _) rfl λF3 H3 q xs B y O I al=>?_
 obtain⟨v,J⟩:=kx B m zf
 refine⟨_,rfl,x,_,n,_,rfl,J,c.cl,c.nP,by show 2 < 1000;decide,?_⟩
 have M:q≠x:=λz=>by
  rw[z,zf]at y
  cases y
 have U:H2 q=none:=by rw[ze M]at y;exact y
 have u:=WP g2 U
 have T:H1 q=none:=by rw[ze M]at u;exact u
 have q0:=WP t T
 have z2:F2 q=none:=g2.fh.free U
 have z1:F1 q=none:=t.fh.free T
 have G1:=Gr.offs t l z1
 have G2:=Gr.offs g2 m z2
 have G3:=Gr.offs B v O
 rw[vv]at G2 G3
 refine kk F3 _ q q0 ?_ ⟨⟨L,V,xs,zf,?_,b1.mono (g2.ff.trans B.ff),b2.mono B.ff,al⟩,v,O⟩
 .rw[vv]
  exact(G1.trans G2).trans G3
 .rw[ze M]
  exact I
noncomputable def ziU (i:Nat):SE->Ctl:=fun ρ=>if (ρ.set i .no).all (λs=>!s.isK)=true then .nx (ρ.set i (.k w0 h0 ⟨none,[]⟩))else .no
theorem Rl.newK {Fb Hb F H F' H':Hp}{ρ:SE}{σ:L2.St}{i:Nat}{x p q:Addr}{w h:D}(r:Rl Fb Hb F H ρ σ)(nk:(ρ.set i .no).all (λs=>!s.isK)=true)(J:H x=none)(h2:H p=none)(L:H q=none)(a0:p≠x)(hq:q≠p)
 (g:Gr F (off x q (upd (upd H p (.own x)) x (.ins KK.dk p []))) F' (off x q H')) (d:Vt F' H' x p q w h []):Rl Fb Hb F' H' (ρ.set i (.k w h ⟨none,[]⟩)) (σ.set i (some (.ref x))):=by
 obtain⟨M,U,xs,O,K,a1,a2,a3⟩:=d.ex
 have E:∀ {b:Addr} {o:HO},H b=some o->off x q (upd (upd H p (.own x)) x (.ins KK.dk p [])) b=some o:=λ{b o} e=>by
  have S:=zd e J
  have n2:=zd e h2
  have n3:=zd e L
  rw[Z8 S n3,ze S,ze n2]
  exact e
 have R:∀ {j:Nat} {s:Sl},j≠i->ρ[j]?=some s->s.isK=false:=λ{j s} c e=>by
  have:=List.all_eq_true.mp nk s (List.mem_of_getElem? (i:=j) (by rw[List.getElem?_set_ne (Ne.symm c)];exact e))
  cases G:s.isK with
  | false=>rfl
  | true=>rw[G]at this;cases this
 have k:∀ {s:Sl},(ρ.set i (.k w h ⟨none,[]⟩))[i]?=some s->i < ρ.length/\s=.k w h ⟨none,[]⟩:=λ{s} h=>by
  rw[List.getElem?_set]at h
  simp only[if_true]at h
  split at h
  .rename_i m
   cases h
   exact⟨m,rfl⟩
  .cases h
 have f:i < ρ.length->(σ.set i (some (V.ref x)))[i]?=some (some (.ref x)):=λm=>by
  rw[List.getElem?_set]
  simp[<-r.len,m]
 have n:∀ {j:Nat} {s:Sl} {a:Addr},ρ[j]?=some s->s.isO=true->σ[j]?=some (some (.ref a))->a≠x/\a≠q:=λ{j s a} e1 e2 e3=>by
  obtain⟨a',o,T,_,_,P,_⟩:=r.ows j s e1 e2
  rw[e3]at T
  cases T
  exact⟨zd P J,zd P L⟩
 refine⟨⟨r.gr.ff.trans g.ff,zD.on g.fh,λb o e1 e2=>?_⟩,λj d' h=>?_,λj s h I=>?_,λj l a s t e1 e2 N W e3 u=>?_,by simp[r.len],λj w2 a4 a5 h=>?_⟩
 .obtain⟨C,k2⟩:=r.gr.kp b o e1 e2
  rcases C with C | ⟨C,k3⟩
  .obtain⟨B,A⟩:=g.kp b o C (E k2)
   exact⟨B,(xL A).2.2⟩
  .have y:=g.ff _ _ k3
   exact⟨.inr ⟨C,y⟩,zD.on g.fh _ _ y⟩
 .by_cases c:i=j
  .subst c
   cases (k h).2
  .rw[List.getElem?_set_ne c]at h ⊢
   obtain⟨v,B,A⟩:=r.vals j d' h
   exact⟨v,B,A.mono g.ff⟩
 .by_cases c:i=j
  .subst c
   obtain⟨m,rfl⟩:=k h
   exact⟨x,_,f m,r.notbase J,d.fx,O,p,M,U,q,rfl,a1,a2⟩
  .rw[List.getElem?_set_ne c]at h ⊢
   obtain⟨a,o,B,A,Y,y4,Q⟩:=r.ows j s h I
   obtain⟨Z,X⟩:=g.kl Q.ntup Y (E y4)
   exact⟨a,o,B,A,Z,(xL X).2.2,Q.mono g.ff⟩
 .by_cases c:i=j
  .subst c
   by_cases m:i=l
   .exact m
   .obtain⟨z,_⟩:=k e1
    rw[f z]at e3
    cases e3
    rw[List.getElem?_set_ne m]at e2 u
    exact absurd rfl (n e2 W u).1
  .by_cases m:i=l
   .subst m
    obtain⟨z,_⟩:=k e2
    rw[f z]at u
    cases u
    rw[List.getElem?_set_ne c]at e1 e3
    exact absurd rfl (n e1 N e3).1
   .rw[List.getElem?_set_ne c]at e1 e3
    rw[List.getElem?_set_ne m]at e2 u
    exact r.dis j l a s t e1 e2 N W e3 u
 .by_cases c:i=j
  .subst c
   obtain⟨m,e⟩:=k h
   cases e
   refine⟨x,p,q,M,U,xs,f m,O,r.notbase L,d.fq,K,a3,λj s h I=>?_,λj s h G=>?_,λ_ z=>by cases z⟩
   .by_cases c:i=j
    .subst c
     rw[f m]
     intro z
     cases z
     exact d.ne rfl
    .rw[List.getElem?_set_ne c]at h ⊢
     intro z
     exact(n h I z).2 rfl
   .by_cases c:i=j
    .exact c.symm
    .rw[List.getElem?_set_ne c]at h
     rw[R (Ne.symm c) h]at G
     cases G
  .rw[List.getElem?_set_ne c]at h
   have:=R (Ne.symm c) h
   cases this
theorem zg7 {i k:Nat} {x h:Str} {f:Addr} {v:FuncData} {s pos2:Pos} (M:Mk X.K KK.dk f) (F:xA X.prog X.w X.K X.mg X.base CX0 k f v ["self"] spI) (D:yL (k+1) X.A) (K:Gl X h) (L:X.mg h=some (.ref KK.dk)) (w:xf X.K v ["self"] [])
 (y:X.N.Nodup) (J:X.N[i]?=some x) (A:Loc X.env.scope x) (C:swapsWith (.Call (.Name h s) [] [] pos2) (some (.Name x pos')) pos.line X.env=pure false:=by rfl)
 (B:X.fn x=true\/X.env.scope.names.lookup x=some .local:=by first | exact .inl rfl | exact .inr rfl | assumption) (r:(h == ("__debug__":Str))=false:=by decide):SD X (.Assign [.Name x pos'] (.Call (.Name h s) [] [] pos2) pos) (ziU i):=by
 refine⟨_,ww y J A (zfR (E:=λ_ _ _=>False) M F D K L w .nil zbe r) C B,λFb Hb F H ρ σ E p l=>?_⟩
 unfold ziU at l
 split at l
 .rename_i G
  intro a j n u m
  have e1:zD F (upd (upd H j (.own a)) a (.ins KK.dk j [])):=λb o e=>by
   have z:=p.gr.fh b o e
   rw[ze (zd z n),ze (zd z u)]
   exact z
  refine⟨a,j,F,rfl,e1,p.gr.fh.free n,zf,λF' H' q c g d=>⟨rfl,?_⟩⟩
  have I:q≠a:=λz=>by rw[z,zf]at c;cases c
  rw[ze I]at c
  have t:q≠j:=λz=>by rw[z,zf]at c;cases c
  rw[ze t]at c
  exact l F' H' _ (p.newK G n u c m t g d)
 .exact l.elim
end
section
variable [KK]{X:Cx}{a b o e:Expr}{es:List Expr}{p apos pos pos' pos2:Pos}{f:Ev->Option D}{fa:Ev->Option (List D)}{m:Str}
noncomputable abbrev KV:=D->D->List D->List D->Option (D × D × D × List D)
noncomputable def RK (t:TE)(f:SE->Option (D × SE)):Prop:=∀ (Fb Hb F H:Hp) (ρ:SE) (σ:L2.St) (Q:VK) (d:D) (a:SE),Rl Fb Hb F H ρ σ->f ρ=some (d,a)->(∀ F' H' v,zD F F'->Rl Fb Hb F' H' a σ->At F' d v->Q v H')->t σ H Q
noncomputable def KT (X:Cx)(e:Expr)(f:SE->Option (D × SE)):Prop:=∃ t,PT X e (zbT t)/\RK t f
end
end Dl
namespace Dl
open PySem L2
structure Row where
 x:Str
 ps:List Str
 ex:List Str
 st:Stmt
noncomputable abbrev Row.N (r:Row):List Str:=r.ps++r.ex
noncomputable def Row.scB (r:Row):Bool:=decide ((zg r.st).kind=.function/\(zg r.st).isCoroutine=false/\(zg r.st).isGenerator=false/\r.N.Nodup/\(∀ x∈r.ps,(zg r.st).names.lookup x=some .local\/(zg r.st).names.lookup x=some .cell)/\∀ y∈(zg r.st).names,y.2≠.free)
theorem Row.sc {r:Row}(h:r.scB=true):yf r.N r.ps (zg r.st):=by
 obtain⟨a,b,c,d,e,f⟩:=of_decide_eq_true h
 exact⟨a,b,c,d,List.take_left' rfl,e,f⟩
theorem zaY {α:Type}{p:α->Prop}{l:List α}{d:α}(h:∀ x∈l,p x)(a:p d)(i:Nat):p (l.getD i d):=by
 rw[List.getD_eq_getElem?_getD]
 cases e:l[i]? with
 | none=>exact a
 | some y=>exact h y (List.mem_of_getElem? e)
noncomputable def Dx (K:W.Frag)(d:Str->Option Value)(b:List (Str × Addr))(r:Row):Prop:=∃ f a,Def K d r.x r.st r.ps f a/\∀ c,b.lookup r.x=some c->a.code=.ref c
structure KR (b:Bool):Prop where
 h:b=true
structure UR {α:Type} (a b:α):Prop where
 h:a=b
theorem nd_b {l:List Str}(h:decide l.Nodup=true):l.Nodup:=of_decide_eq_true h
section
variable [KK]{X:Cx}{x:Str}{elt iter c:Expr}{tp:Pos}{scope:Scope}{cl:List (Str × Addr)}{pos:Pos}{fi:Ev->Option (List D)}{ft:Ev->Option Bool}{fe:Ev->Option D}{rn dn:List (Str × NameKind)}{cn N:List Str}
theorem zme (f:KR (decide (x::X.N).Nodup))(d:X.calm=true)(l:ID X (.Name x tp) iter fi)(j:(relabel scope X.env).names=rn)(g:X.env.scope.names=dn)(k:X.N=N)(h:UR (closureFor scope X.env) (pure cl))(e:scope.kind=.function)(b:cl.map Prod.fst=cn)(c:KR (wL scope.names rn dn N X.N cn))(m:∀ p∈cl,X.env.cells.lookup p.1=some p.2)
 (a:∀ s₀ H₀ ex pn,Loc (YD X [x] X.N scope cl s₀ H₀ ex pn).env.scope x/\(YD X [x] X.N scope cl s₀ H₀ ex pn).env.scope.names.lookup x=some .local) (n:∀ s₀ H₀ ex pn,ED (YD X [x] X.N scope cl s₀ H₀ ex pn) elt fe)
 (o:∀ x,foldedSetIterable iter X.env x=pure x):FL X (.ListComp elt [⟨.Name x tp,iter,[],0⟩] scope pos) (fLC fi b1 yB fe) :=
 zcu (L:=[x]) (M:=X.N) d (Zz j g k h.h e b c.h m) l gs1 rb1 (λ_ _ _ _=>xh (i:=0) (nd_b f.h) rfl (a _ _ _ _).1 (.inr (a _ _ _ _).2)) n o
theorem zmq (g:KR (decide (x::X.N).Nodup))(e:X.calm=true)(n:ID X (.Name x tp) iter fi)(l:(relabel scope X.env).names=rn)(h:X.env.scope.names=dn)(m:X.N=N)(j:UR (closureFor scope X.env) (pure cl))(f:scope.kind=.function)(b:cl.map Prod.fst=cn)(d:KR (wL scope.names rn dn N X.N cn))(o:∀ p∈cl,X.env.cells.lookup p.1=some p.2)
 (a:∀ s₀ H₀ ex pn,Loc (YD X [x] X.N scope cl s₀ H₀ ex pn).env.scope x/\(YD X [x] X.N scope cl s₀ H₀ ex pn).env.scope.names.lookup x=some .local) (k:∀ s₀ H₀ ex pn,TD (YD X [x] X.N scope cl s₀ H₀ ex pn) c ft) (q:∀ s₀ H₀ ex pn,ED (YD X [x] X.N scope cl s₀ H₀ ex pn) elt fe)
 (r:∀ x,foldedSetIterable iter X.env x=pure x):FL X (.ListComp elt [⟨.Name x tp,iter,[c],0⟩] scope pos) (fLC fi b1 ft fe) :=
 zkX (L:=[x]) (M:=X.N) e (Zz l h m j.h f b d.h o) n gs1 rb1 (λ_ _ _ _=>xh (i:=0) (nd_b g.h) rfl (a _ _ _ _).1 (.inr (a _ _ _ _).2)) k q r
end
theorem td_b [KK]{X:Cx}{op:BoolOp}{es:List Expr}{pos:Pos}{f:Ev->Option Bool}(h:WD X (.BoolOp op es pos) f):TD X (.BoolOp op es pos) f:=zi1 h
theorem ze4 [KK]{X:Cx}{P:Program}{w:World}{K:W.Frag}{mg:Str->Option Value}{base:Heap}{x:Str}{j k m:Nat}{f:Addr}{fd:FuncData}{ps:List Str}{st:Stmt}{p:List D->Option D}{e:Expr}{es:List Expr}{pp pos:Pos}{fa:Ev->Option (List D)}(F:xA P w K mg base CX0 j f fd ps (spD m p))(hr:yL k X.A)(hj:j<=k)(d:Def K mg x st ps f fd)(hX:X.prog=P/\X.w=w/\X.K=K/\X.mg=mg/\X.base=base)(hg:Gl X x)
 (ha:AD X (e::es) fa) (hdb:(x == ("__debug__":Str))=false) (he:starEach (e::es) X.env=(false,eval e X.env)::starEach es X.env) (hpl:(backTo pos (starEach es X.env)).any (·.1)=false) :
 ED X (.Call (.Name x pp) (e::es) [] pos) (zp m p fa):=by
 obtain⟨rfl,rfl,rfl,rfl,rfl⟩:=hX
 exact zM F hr hg d ha hj hdb he hpl
theorem Dx_cons {K:W.Frag}{b:Str->Option Value}{a:List (Str × Addr)}{r:Row}{c:List Row}(h:Dx K b a r)(t:∀ r∈c,Dx K b a r):∀ d∈r::c,Dx K b a d:=List.forall_mem_cons.mpr ⟨h,t⟩
theorem Z_cons {K:W.Frag}{x:Str}{l:List Str}(h:W.nsIn K mainGlobals x=some none)(t:∀ y∈l,W.nsIn K mainGlobals y=some none):∀ y∈x::l,W.nsIn K mainGlobals y=some none:=List.forall_mem_cons.mpr ⟨h,t⟩
theorem mkX {K:W.Frag}{h:Heap}{s:Str->Option Value}{g:List (Str × Addr)}{x:Str}{d:Stmt}{q ex:List Str}{f:Addr}{w kV dc m j ct:Value}{u i:Option Addr}{v:Array (Option Value)}(X:K.In h)(G:h.Ns mainGlobals s)(a:W.nsIn K mainGlobals x=some (some (.ref f)))
 (l:K.lookup f=some ⟨w,u,.func (W.fnOf x x (xb d) (zU d) (zg d) .none kV dc m i j ct),v⟩) (c:W.codeIn K j x=true) (k:W.keepIn K (.ref f)=true)
 (b:∀ (kV o m:Value) (i:Option Addr) (p ct:Value) (n:List Value),n.length=q.length->bindArgs (W.fnOf x x (xb d) (zU d) (zg d) .none kV o m i p ct) ⟨n,[]⟩=pure (q.zip n)) (e:g.lookup x=none\/∃ c,g.lookup x=some c/\j=.ref c):Dx K s g ⟨x,q,ex,d⟩ :=
 ⟨f,W.fnOf x x (xb d) (zU d) (zg d) .none kV dc m i j ct,⟨Xb l c k,(Xb l c k).binds b,W.mg_of X G a⟩,λc h=>by
  rcases e with e | ⟨t,e,r⟩
  .rw[show g.lookup x=none from e]at h;cases h
  .rw[show g.lookup x=some t from e]at h;cases h;exact r⟩
theorem zda {K:W.Frag}{x q y:Str}{c:Stmt}{f:Addr}{g:FuncData}{s:Shared}{v:Value}(F:Fun K x q c f g)(h:∀ (kV a e:Value) (d:Option Addr) (b ct:Value),bindArgs (W.fnOf x q (xb c) (zU c) (zg c) .none kV a e d b ct) ⟨[v],[]⟩=pure [(y,v)]):BindsTo s g ⟨[v],[]⟩ [(y,v)]:=by
 obtain⟨k,j,kV,a,e,d,b,ct,i,rfl,_,_⟩:=F.ex
 exact .of_eq (h _ _ _ _ _ _)
end Dl
namespace Mz
open PySem L2 Dl
noncomputable def Zw:ze0:=[("web",1),("row",1),("ring",1),("cube",1),("full",1),("star",1),("tie",2),("cut",2),("put",2),("step",2),("back",0)]
noncomputable def zS:ze0:=[("heap",0),("ties",0),("steps",0),("far",2),("most",1),("reached",0),("need",1),("shown",0)]
noncomputable def top (i:Nat):Stmt:=PySem.Challenge.pw_twoforone_k95_rows_that_are_none.main.body.getD i (.Pass ⟨0,0,0,0⟩)
noncomputable def rows:List Row:=[⟨"is_whole",["thing"],[],top 18⟩,
 ⟨"is_whole_within",["thing","least","most"],[],top 19⟩,
 ⟨"is_place_count",["thing"],[],top 22⟩,
 ⟨"is_place",["many","thing"],[],top 23⟩,
 ⟨"are_counts",["many","thing"],[],top 24⟩,
 ⟨"is_pair",["many","thing"],[],top 26⟩,
 ⟨"are_ties",["many","thing"],["at","tie"],top 27⟩,
 ⟨"is_web",["thing"],[],top 28⟩,
 ⟨"must_be_web",["thing"],[],top 29⟩,
 ⟨"must_be_place",["web","thing"],[],top 30⟩,
 ⟨"tie_between",["one","other"],[],top 31⟩,
 ⟨"web_of",["many","things"],["told","at","thing","tie"],top 32⟩,
 ⟨"are_stones",["web","thing"],[],top 39⟩,
 ⟨"must_be_heap",["web","thing"],[],top 40⟩,
 ⟨"written",["word","numbers"],[],top 72⟩,
 ⟨"shown",["web","heap"],["ties"],top 73⟩,
 ⟨"number_written",["word"],[],top 74⟩,
 ⟨"parsed",["row"],["words","numbers","wanted"],top 78⟩,
 ⟨"bare",["web"],[],top 79⟩,
 ⟨"tied",["web","one","other"],[],top 80⟩,
 ⟨"put",["web","heap","place","stones"],["more"],top 82⟩,
 ⟨"after",["web","heap","word","numbers"],[],top 84⟩,
 ⟨"answer",["web","heap","word","numbers"],[],top 87⟩,
 ⟨"_law_kinds",["e"],["found"],top 90⟩,
 ⟨"_law_cell_at",["script","k"],[],top 91⟩,
 ⟨"_law_pairs",["many"],["found","a"],top 92⟩,
 ⟨"_law_stir",["cell","k"],["number"],top 93⟩,
 ⟨"_law_web_by",["many","cell"],["ties","k","tie"],top 94⟩,
 ⟨"_law_joined_by",["many","cell"],["ties","k","tie"],top 95⟩,
 ⟨"_law_bad",["number"],["word","other","two","some"],top 96⟩,
 ⟨"_law_refused",["desk","row"],["e"],top 97⟩,
 ⟨"law",["script"],["desk","many","a","b","before","cell"],top 98⟩]
noncomputable def Rw (i:Nat):Row:=rows.getD i ⟨"law",["script"],["desk","many","a","b","before","cell"],top 98⟩
theorem sc (i:Nat):yf (Rw i).N (Rw i).ps (zg (Rw i).st):=Row.sc (zaY (p:=λr:Row=>r.scB=true) (by decide +kernel) (by decide +kernel) i)
noncomputable abbrev zR:Stmt:=zaS (top 88) 0
theorem Yn:yf ["self"] ["self"] (zg zR):=⟨rfl,rfl,rfl,by decide +kernel,rfl,by decide +kernel,by decide +kernel⟩
noncomputable abbrev yQ:Stmt:=zaS (top 88) 1
theorem yi:yf ["self","row","told","word"] ["self","row"] (zg yQ):=⟨rfl,rfl,rfl,by decide +kernel,rfl,by decide +kernel,by decide +kernel⟩
noncomputable abbrev yk:Stmt:=zaS (top 88) 2
theorem Xi:yf ["self","state"] ["self","state"] (zg yk):=⟨rfl,rfl,rfl,by decide +kernel,rfl,by decide +kernel,by decide +kernel⟩
noncomputable abbrev zW:Stmt:=zaS (top 88) 3
theorem wH:yf ["self","state"] ["self"] (zg zW):=⟨rfl,rfl,rfl,by decide +kernel,rfl,by decide +kernel,by decide +kernel⟩
structure Adr where
 f:Nat->Addr
 e:Nat->FuncData
 s_DEEDS:Addr
 s_QUESTIONS:Addr
 dk:Addr
 f_Desk___init__:Addr
 e_Desk___init__:FuncData
 f_Desk_say:Addr
 e_Desk_say:FuncData
 f_Desk_go_on:Addr
 e_Desk_go_on:FuncData
 f_Desk_go_back:Addr
 e_Desk_go_back:FuncData
 t_MOST_PLACES:Tok
 t_MOST_STONES:Tok
 t_MOST_FIGURES:Tok
 x_NoWeb:Addr
 x_NoKind:Addr
 x_NoHeap:Addr
 x_NoPlace:Addr
 x_NoNumber:Addr
 x_NoTally:Addr
 x_NotTree:Addr
 x_NotJoined:Addr
 x_NoWeights:Addr
 x_NoRow:Addr
 x_NoSteps:Addr
 x_NoText:Addr
 x_TooGreat:Addr
 x_StoneError:Addr
noncomputable def zlx (a:Adr):List Addr:=[a.x_NoWeb,a.x_NoKind,a.x_NoHeap,a.x_NoPlace,a.x_NoNumber,a.x_NoTally,a.x_NotTree,a.x_NotJoined,a.x_NoWeights,a.x_NoRow,a.x_NoSteps,a.x_NoText,a.x_TooGreat]
noncomputable def clT (a:Adr)(j:Nat):Addr:=(zlx a).getD (j % 16) 0
theorem hclT (a:Adr)(j:Nat):clT a j=clT a (j % 16):=by unfold clT;rw[Nat.mod_mod]
noncomputable def zs:List Str:=["ValueError","all","bool","enumerate","int","isinstance","len","list","max","min","range","sorted","str","sum","tuple"]
structure Txt (P:Program) (w:World) (K:W.Frag) (mg:Str->Option Value) (base:Heap) (ad:Adr):Prop where
 d:∀ i,Def K mg (Rw i).x (Rw i).st (Rw i).ps (ad.f i) (ad.e i)
 z:∀ x∈zs,mg x=none
 g_DEEDS:mg "DEEDS"=some (Value.ref ad.s_DEEDS)
 b_DEEDS:∀ h:Heap,K.In h->PyProof.Rows.KTD.TextTab h ad.s_DEEDS (vi Zw)
 g_QUESTIONS:mg "QUESTIONS"=some (Value.ref ad.s_QUESTIONS)
 b_QUESTIONS:∀ h:Heap,K.In h->PyProof.Rows.KTD.TextTab h ad.s_QUESTIONS (vi zS)
 g_Desk:mg "Desk"=some (Value.ref ad.dk)
 dkc:DkC K ad.dk
 mkd:Mk K ad.dk ad.f_Desk___init__
 mf_Desk___init__:Fun K "__init__" "Desk.__init__" zR ad.f_Desk___init__ ad.e_Desk___init__
 mb_Desk___init__:xf K ad.e_Desk___init__ ["self"] []
 mf_Desk_say:Fun K "say" "Desk.say" yQ ad.f_Desk_say ad.e_Desk_say
 mb_Desk_say:xf K ad.e_Desk_say ["self","row"] []
 mm_Desk_say:zdG K ad.dk "say" ad.f_Desk_say
 mf_Desk_go_on:Fun K "go_on" "Desk.go_on" yk ad.f_Desk_go_on ad.e_Desk_go_on
 mb_Desk_go_on:xf K ad.e_Desk_go_on ["self","state"] []
 mm_Desk_go_on:zdG K ad.dk "go_on" ad.f_Desk_go_on
 mf_Desk_go_back:Fun K "go_back" "Desk.go_back" zW ad.f_Desk_go_back ad.e_Desk_go_back
 mb_Desk_go_back:xf K ad.e_Desk_go_back ["self"] []
 mm_Desk_go_back:zdG K ad.dk "go_back" ad.f_Desk_go_back
 g_MOST_PLACES:mg "MOST_PLACES"=some (Value.int 8 ad.t_MOST_PLACES)
 g_MOST_STONES:mg "MOST_STONES"=some (Value.int 300 ad.t_MOST_STONES)
 g_MOST_FIGURES:mg "MOST_FIGURES"=some (Value.int 3 ad.t_MOST_FIGURES)
 g_NoWeb:mg "NoWeb"=some (Value.ref ad.x_NoWeb)
 g_NoKind:mg "NoKind"=some (Value.ref ad.x_NoKind)
 g_NoHeap:mg "NoHeap"=some (Value.ref ad.x_NoHeap)
 g_NoPlace:mg "NoPlace"=some (Value.ref ad.x_NoPlace)
 g_NoNumber:mg "NoNumber"=some (Value.ref ad.x_NoNumber)
 g_NoTally:mg "NoTally"=some (Value.ref ad.x_NoTally)
 g_NotTree:mg "NotTree"=some (Value.ref ad.x_NotTree)
 g_NotJoined:mg "NotJoined"=some (Value.ref ad.x_NotJoined)
 g_NoWeights:mg "NoWeights"=some (Value.ref ad.x_NoWeights)
 g_NoRow:mg "NoRow"=some (Value.ref ad.x_NoRow)
 g_NoSteps:mg "NoSteps"=some (Value.ref ad.x_NoSteps)
 g_NoText:mg "NoText"=some (Value.ref ad.x_NoText)
 g_TooGreat:mg "TooGreat"=some (Value.ref ad.x_TooGreat)
 g_StoneError:mg "StoneError"=some (Value.ref ad.x_StoneError)
 c_NoRow:W.excIn K ad.x_NoRow bmV "ValueError.__new__"=true
 y_NoRow:za5 K (zlx ad) ad.x_StoneError ad.x_NoRow 9=true
theorem zl4:(["number","word","numbers"]:List Str).Nodup:=by decide +kernel
theorem zlG:(["tie","web","heap","ties"]:List Str).Nodup:=by decide +kernel
theorem zlQ:(["sign","word"]:List Str).Nodup:=by decide +kernel
theorem zkV:(["part","row","words","numbers","wanted"]:List Str).Nodup:=by decide +kernel
theorem Txt.at {P:Program}{w:World}{K:W.Frag}{c:Str->Option Value}{a:Heap}{b:Adr}(T:Txt P w K c a b){i:Nat}{x:Str}(h:(Rw i).x=x):Def K c x (Rw i).st (Rw i).ps (b.f i) (b.e i):=h ▸ T.d i
noncomputable abbrev Txt.Pr {P:Program}{w:World}{K:W.Frag}{c:Str->Option Value}{a:Heap}{b:Adr}(_:Txt P w K c a b)(i k n:Nat)(p:List D->Option D):Prop:=xA P w K c a CX0 k (b.f i) (b.e i) (Rw i).ps (@spD ⟨K,b.dk⟩ n p)
theorem Txt.go {P:Program}{w:World}{K:W.Frag}{d:Str->Option Value}{a:Heap}{b:Adr}(T:Txt P w K d a b){i k:Nat}{g:SE->Ctl}(h:∀ (c:Value) (A:Around) (outer:List Env) (s:Shared) (H:Hp) (E:XK),yL k (A.deeper (PyProof.Rows.envOfC (Rw i).x (zg (Rw i).st) s.heap.objs.size (b.f i) c))->@SDs ⟨K,b.dk⟩ (vR CX0 P w K d a (Rw i).N (Rw i).x (zg (Rw i).st) (b.f i) c A outer s H E).nox (zU (Rw i).st) g):T.Pr i (k+1) (Rw i).ps.length (fnD (Rw i).N.length g) :=
 letI:KK:=⟨K,b.dk⟩
 Xk (N:=(Rw i).N) (ps:=(Rw i).ps) (T.d i).fn (sc i) (g:=g) h
noncomputable abbrev Txt.Px {P:Program}{w:World}{K:W.Frag}{c:Str->Option Value}{a:Heap}{b:Adr}(_:Txt P w K c a b)(i k n:Nat)(p:List D->Option Nat):Prop:=xA P w K c a (Air P w) k (b.f i) (b.e i) (Rw i).ps (@spX ⟨K,b.dk⟩ (clT b) n p)
local macro_rules | `(tactic| walk_at "c")=>`(tactic| first
  | rfl
  | assumption
  | decide
  | exact (sc _).nd
  | exact ⟨rfl,rfl,rfl,rfl,rfl⟩
  | exact Or.inl rfl
  | exact Or.inr rfl
  | exact Or.inr (Or.inl rfl)
  | exact Or.inr (Or.inr rfl)
  | exact Txt.at ‹_› rfl
  | exact Txt.z ‹_› _ (by decide)
  | exact yx _
  | exact PassesOwn.never
  | exact Z9
  | exact yL.mono ‹_› (by omega)
  | exact fun _=>rfl
  | exact fun _ _=>rfl
  | exact ⟨Or.inl rfl,rfl⟩
  | omega
  | exact x5
  | exact all_cons rfl x5
  | exact all_cons rfl (all_cons rfl x5)
  | exact all_cons rfl (all_cons rfl (all_cons rfl x5))
  | exact vl (v:=.ty "bool") rfl (Txt.z ‹_› _ (by decide)) zeq rfl
  | exact vl (v:=.ty "int") rfl (Txt.z ‹_› _ (by decide)) zcg rfl
  | exact vl (v:=.ty "tuple") rfl (Txt.z ‹_› _ (by decide)) zbd rfl
  | exact W2 PySem.F.plainAttrs_list PySem.F.slot_list_append PySem.F.type_list_append Wk ‹_› ‹_›
  | exact yL.units0 ‹_›
  | with_unfolding_all rfl
  | kernel_rfl)
local macro_rules | `(tactic| walk_at "s")=>`(tactic| repeat' first
  | ((with_reducible show @Eq _ _ _);first | rfl | exact Txt.z ‹_› _ (by decide) | assumption | exact zgM | exact zeq | exact Vm | exact zcg | exact Xg | exact zjT | exact zjR | exact zk8 | exact zbd | decide | exact yx _ | with_unfolding_all rfl | kernel_rfl)
  | ((with_reducible show ED _ _ _);first | (with_reducible first | apply edv | exact zw zr | apply xP | apply zE | apply Y0 | apply Z0 | exact zf4 zbw | apply zkv | apply zkD | apply vJ | exact zk zj | apply zk6 | apply Xj | apply zk1 | apply YB | apply zk0 | apply zj4 | apply zhX | (apply ze4;· assumption) | apply wl) | apply yH xJ Wb | apply xT XM zcp | apply W8 zbm W7 | apply W8 zlO xu | apply W8 XB xu | apply yH (WH ?_) zdo | apply yH (zcF ?_) zin | apply yH (zct ?_) ze6 | apply yH (zcn ?_) zfN | refine zfa XB XB xu xu ?_ ?_ ?_ (fun a b c=>zeF XB XB a b c) | exact zw (ye (v:=.int 8) rfl (Txt.g_MOST_PLACES ‹_›) ⟨_,rfl⟩) | exact zw (ye (v:=.int 300) rfl (Txt.g_MOST_STONES ‹_›) ⟨_,rfl⟩))
  | ((with_reducible show AD _ _ _);first | (with_reducible first | apply zb | exact zm))
  | ((with_reducible show SDs _ _ _);first | (with_reducible first | apply zg0 | apply zeA | apply zl | apply zH | exact yj | apply zg0 | apply zeA | apply yh))
  | ((with_reducible show SD _ _ _);first | (with_reducible first | apply wf | apply wo | apply VY | apply yN | apply zjx | apply zk5 | apply ziM | apply zh2 | apply zd8 | apply zeU | apply zfk | apply Yx))
  | ((with_reducible show WD _ _ _);first | (with_reducible first | apply zcQ | apply Vc | apply zgK | apply zca))
  | ((with_reducible show TD _ _ _);first | (with_reducible first | apply YL | apply td_b) | apply yr (xW ?_) yV | apply yr zbm W7 | apply yr zjX xu | apply yr zmv xu | apply yr (zky ?_) zif | apply yr (zkQ ?_) zhV | with_reducible apply ZZ)
  | ((with_reducible show BD _ _ _);first | (with_reducible first | apply XG | apply zgw))
  | ((with_reducible show PG _ _ _);first | (with_reducible first | apply xh))
  | ((with_reducible show BDs _ _ _);first | (with_reducible first | apply Xx | apply zcN))
  | ((with_reducible show FL _ _ _);first | (with_reducible first | apply xz | apply zh3 | apply zev | apply zbs | apply zme | apply zmq))
  | ((with_reducible show ID _ _ _ _);first | (with_reducible first | apply Zu | apply zdV | apply ziC))
  | ((with_reducible show OD _ _ _);first | (with_reducible first | apply Zg | apply VQ))
  | ((with_reducible show PE _ _ _);first | (with_reducible first | apply pv))
  | ((with_reducible apply KR.mk);kernel_rfl)
  | ((with_reducible apply UR.mk);with_unfolding_all rfl)
  | with_reducible intro s₀ H₀ ex pn
  | walk_at "c")
local macro_rules | `(tactic| walk_at "p")=>`(tactic| (letI:KK:=⟨‹W.Frag›,Adr.dk ‹Adr›⟩;refine Txt.go ‹_› fun _ _ _ _ _ _ hr=>?_;apply zl <;> walk_at "s"))
local macro_rules | `(tactic| walk_at "q")=>`(tactic| (letI:KK:=⟨‹W.Frag›,Adr.dk ‹Adr›⟩;refine Txt.go ‹_› fun _ _ _ _ _ _ hr=>?_;apply zH <;> walk_at "s"))
noncomputable def vo:D->Bool
 | .int _=>true
 | _=>false
noncomputable def z5 (d:D)(b a:Int):Bool:=match d with
 | .int i=>decide (b<=i)&&decide (i<=a)
 | _=>false
section
variable {P:Program}{w:World}{K:W.Frag}{mg:Str->Option Value}{base:Heap}{ad:Adr}
noncomputable def zQ:List D->Option D
 | [d]=>if noS d=true then some (.bl (vo d))else none
 | _=>none
noncomputable abbrev zbR :=
 (yM (Zy (eUn (xD .int) (zc 0)) (za4 (eUn (xD .bool) (zc 0)))))
noncomputable def zbf:=fnD 1 zbR
theorem zkK {α:Type}{b:List α}(h:b.length=1):∃ a,b=[a]:=by match b,h with | [a],_=>exact⟨a,rfl⟩
theorem zdr {α:Type}{c:List α}(h:c.length=2):∃ a b,c=[a,b]:=by match c,h with | [a,b],_=>exact⟨a,b,rfl⟩
theorem len3 {α:Type}{d:List α}(h:d.length=3):∃ a b c,d=[a,b,c]:=by match d,h with | [a,b,c],_=>exact⟨a,b,c,rfl⟩
theorem ifS {c:Bool}{x y:D}(h:(if c=true then some x else none)=some y):c=true/\x=y:=by
 split at h
 .cases h
  exact⟨by assumption,rfl⟩
 .cases h
theorem zar:∀ b d,b.length=1->zQ b=some d->zbf b=some d:=by
 intro b d c h
 obtain⟨a,rfl⟩:=zkK c
 obtain⟨e,rfl⟩:=ifS h
 cases a <;> first | rfl | cases e
theorem Y7 (T:Txt P w K mg base ad):T.Pr 0 1 1 zQ:=by
 letI:KK:=⟨K,ad.dk⟩
 refine xx ?_ zar
 walk_at "q"
noncomputable abbrev yR :=
 (yM (Zy (zp 1 zQ (za (zc 0) zo)) (yY leD leD (zc 1) (zc 0) (zc 2))))
noncomputable def xZ:=fnD 3 yR
noncomputable def zz:List D->Option D
 | [d,.int lo,.int hi]=>if noS d=true then some (.bl (z5 d lo hi))else none
 | _=>none
theorem XI {a:D}{b d:Int}(f:noS a=true)(hw:vo a=false):xZ [a,.int b,.int d]=some (.bl false):=by
 have e:zQ [a]=some (.bl false):=by
  show(if noS a=true then some (D.bl (vo a))else none)=_
  rw[if_pos f,hw]
 refine ZC (ρ:=[.v a,.v (.int b),.v (.int d)]) rfl ?_
 unfold yR
 refine vM (yd ?_) rfl
 show(((zQ [a]).bind asB).bind λc=>if c=true then _ else some (D.bl false))=_
 rw[e]
 rfl
theorem vA:∀ f d,f.length=3->zz f=some d->xZ f=some d:=by
 intro f d l h
 obtain⟨a,b,c,rfl⟩:=len3 l
 cases b <;> try cases h
 cases c <;> try cases h
 rename_i g j
 obtain⟨e,rfl⟩:=ifS h
 cases a with
 | scr _=>cases e
 | obj _ _ _=>cases e
 | int i =>
  refine ZC (ρ:=[.v (.int i),.v (.int g),.v (.int j)]) rfl ?_
  unfold yR
  refine vM (yd ?_) rfl
  show(if decide (g<=i)=true then some (D.bl (decide (i<=j)))else some (.bl false))=some (.bl (decide (g<=i)&&decide (i<=j)))
  cases decide (g<=i) <;> rfl
 | tup k=>exact XI e rfl
 | lst k=>exact XI e rfl
 | dct z t n m=>exact XI e rfl
 | non=>rfl
 | bl _=>rfl
 | str _=>rfl
theorem xF (T:Txt P w K mg base ad):T.Pr 1 2 3 zz:=by
 letI:KK:=⟨K,ad.dk⟩
 have G_is_whole:=Y7 T
 refine xx ?_ vA
 walk_at "q"
noncomputable abbrev wh :=
 (yM (zp 3 zz (za (zc 0) (za (eC (.int 1)) (za (eC (.int 8)) zo)))))
noncomputable def xm:=fnD 1 wh
noncomputable def zF:List D->Option D
 | [d]=>if noS d=true then some (.bl (z5 d 1 8))else none
 | _=>none
theorem vY:∀ b d,b.length=1->zF b=some d->xm b=some d:=by
 intro b d c h
 obtain⟨a,rfl⟩:=zkK c
 have e:xm [a]=zz [a,.int 1,.int 8]:=by
  cases f:zz [a,.int 1,.int 8] <;> simp[xm,wh,fnD,zG,yM,Yr,sIf,xw,ZG,sNo,zC,zbU,Wf,XU,zbX,zbW,vEv,visF,visG,Sl.f,Sl.g,zc,eC,zh,Zy,eOr,za4,eIf,eUn,Vu,wT,yy,zO,za,zo,zp,eFn,fFn,tOf,xN,Zi,yu,asB,asI,yo,VW,vL,yE,xg,Wc,wD,ltD,leD,gtD,geD,WA,yp,xa,zV,y8,zbY,xn,ixD,Zm,xD,isT,eSl,wv,x6,yY,xE,iOf,ZD,xS,Vs,We,Yc,xo,Yj,fLC,yB,yO,wC,xr,Wd,xO,Vr,b1,b2,f]
 rw[e]
 exact h
theorem xY (T:Txt P w K mg base ad):T.Pr 2 3 1 zF:=by
 letI:KK:=⟨K,ad.dk⟩
 have G_is_whole_within:=xF T
 refine xx ?_ vY
 walk_at "q"
noncomputable abbrev Xd :=
 (yM (zp 3 zz (za (zc 1) (za (eC (.int 0)) (za (zh VW (zc 0) (eC (.int 1))) zo)))))
noncomputable def vX:=fnD 2 Xd
noncomputable def ya:List D->Option D
 | [.int m,d]=>if noS d=true then some (.bl (z5 d 0 (m - 1)))else none
 | _=>none
theorem VO:∀ c d,c.length=2->ya c=some d->vX c=some d:=by
 intro c d f h
 obtain⟨a,b,rfl⟩:=zdr f
 cases a <;> try cases h
 rename_i m
 have e:vX [.int m,b]=zz [b,.int 0,.int (m - 1)]:=by
  cases g:zz [b,.int 0,.int (m - 1)] <;> simp[vX,Xd,fnD,zG,yM,Yr,sIf,xw,ZG,sNo,zC,zbU,Wf,XU,zbX,zbW,vEv,visF,visG,Sl.f,Sl.g,zc,eC,zh,Zy,eOr,za4,eIf,eUn,Vu,wT,yy,zO,za,zo,zp,eFn,fFn,tOf,xN,Zi,yu,asB,asI,yo,VW,vL,yE,xg,Wc,wD,ltD,leD,gtD,geD,WA,yp,xa,zV,y8,zbY,xn,ixD,Zm,xD,isT,eSl,wv,x6,yY,xE,iOf,ZD,xS,Vs,We,Yc,xo,Yj,fLC,yB,yO,wC,xr,Wd,xO,Vr,b1,b2,g]
 rw[e]
 exact h
theorem YO (T:Txt P w K mg base ad):T.Pr 3 3 2 ya:=by
 letI:KK:=⟨K,ad.dk⟩
 have G_is_whole_within:=xF T
 refine xx ?_ VO
 walk_at "q"
theorem VI {m i:Int}:z5 (.int i) 0 (m - 1)=inR m i:=rfl
theorem zh6 {d:D}{b a:Int}(h:∀ i,d≠.int i):z5 d b a=false:=by
 cases d <;> first | rfl | exact absurd rfl (h _)
theorem Wp {d:D}{b a:Int}(h:z5 d b a=true):∃ i,d=.int i:=by
 cases d with
 | int i=>exact⟨i,rfl⟩
 | _=>cases h
noncomputable abbrev Wx :=
 (zG (sIf (Zi (yu (tOf (eUn (xD .tuple) (zc 1)))) (tOf (zh neD (eFn Zm (za (zc 1) zo)) (eC (.int 2))))) (yM (eC (.bl false))) zC)
  (yM (Zy (zp 2 ya (za (zc 0) (za (zh ixD (zc 1) (eC (.int 0))) zo))) (Zy (zp 2 ya (za (zc 0) (za (zh ixD (zc 1) (eC (.int 1))) zo))) (zh neD (zh ixD (zc 1) (eC (.int 0))) (zh ixD (zc 1) (eC (.int 1))))))))
noncomputable def zck:=fnD 2 Wx
noncomputable def yJ:List D->Option D
 | [.int m,d]=>if noS d=true then some (.bl (y9 m d))else none
 | _=>none
theorem zfP {m:Int}{x y:D}(h:z5 x 0 (m - 1)=false):y9 m (.tup [x,y])=false:=by
 cases x with
 | int i =>
  cases y with
  | int j =>
   show(inR m i&&inR m j&&!decide (i=j))=false
   rw[show inR m i=false from h]
   rfl
  | _=>rfl
 | _=>rfl
theorem zeX {m:Int}{x y:D}(h:z5 y 0 (m - 1)=false):y9 m (.tup [x,y])=false:=by
 cases x with
 | int i =>
  cases y with
  | int j =>
   show(inR m i&&inR m j&&!decide (i=j))=false
   rw[show inR m j=false from h,Bool.and_false]
   rfl
  | _=>rfl
 | _=>rfl
theorem zbg:∀ f d,f.length=2->yJ f=some d->zck f=some d:=by
 intro f d g h
 obtain⟨a,b,rfl⟩:=zdr g
 cases a <;> try cases h
 rename_i m
 obtain⟨l,rfl⟩:=ifS h
 clear h
 cases b with
 | tup k =>
  refine ZC (ρ:=[.v (.int m),.v (.tup k)]) rfl ?_
  unfold Wx
  by_cases g:k.length=2
  .obtain⟨x,y,rfl⟩:=zdr g
   have v:noS x=true:=wd (ds:=[x,y]) (i:=0) l rfl
   have u:noS y=true:=wd (ds:=[x,y]) (i:=1) l rfl
   have r:ya [.int m,x]=some (.bl (z5 x 0 (m - 1))):=by
    show(if noS x=true then some (D.bl (z5 x 0 (m - 1)))else none)=_
    rw[if_pos v]
   have s:ya [.int m,y]=some (.bl (z5 y 0 (m - 1))):=by
    show(if noS y=true then some (D.bl (z5 y 0 (m - 1)))else none)=_
    rw[if_pos u]
   refine zx (ρ':=[.v (.int m),.v (.tup [x,y])]) rfl (vM (yd ?_) rfl)
   show(((ya [.int m,x]).bind asB).bind λc=>if c=true then (((ya [.int m,y]).bind asB).bind λc=>if c=true then neD x y else some (D.bl false))else some (D.bl false))=_
   rw[r,s]
   cases n:z5 x 0 (m - 1) with
   | false=>rw[zfP n];rfl
   | true =>
    cases p:z5 y 0 (m - 1) with
    | false=>rw[zeX p];rfl
    | true =>
     obtain⟨i,rfl⟩:=Wp n
     obtain⟨j,rfl⟩:=Wp p
     show some (D.bl (!decide (i=j)))=some (.bl (inR m i&&inR m j&&!decide (i=j)))
     rw[show inR m i=true from n,show inR m j=true from p]
     rfl
  .have e:y9 m (.tup k)=false:=by
    unfold y9 w6
    split
    .rename_i t q
     split at q
     .rename_i o
      injection o with o
      rw[o]at g
      exact absurd rfl g
     .cases q
    .rfl
   rw[e]
   refine wn (zdE (c:=true) ?_ (λ_=>vM rfl rfl) λz=>by cases z)
   show some (!decide ((k.length:Int)=2))=_
   rw[decide_eq_false (show ¬ (k.length:Int)=2 from λh=>g (Int.ofNat.inj h))]
   rfl
 | scr _=>cases l
 | obj _ _ _=>cases l
 | _=>rfl
theorem Xa (T:Txt P w K mg base ad):T.Pr 5 4 2 yJ:=by
 letI:KK:=⟨K,ad.dk⟩
 have G_is_place:=YO T
 refine xx ?_ zbg
 walk_at "p"
noncomputable def W3 (ds:List D):Nat->Option Tie
 | 0=>none
 | k+1=>(ds[k]?).bind w6
noncomputable abbrev Yh :=
 (zG (sIf (Zi (yu (tOf (zp 2 yJ (za (zc 0) (za (zc 3) zo))))) (tOf (zh gtD (zh ixD (zc 3) (eC (.int 0))) (zh ixD (zc 3) (eC (.int 1)))))) (yM (eC (.bl false))) zC)
  (sIf (xN (tOf (zh gtD (zc 2) (eC (.int 0)))) (tOf (zh leT (zc 3) (zh ixD (zc 1) (zh VW (zc 2) (eC (.int 1))))))) (yM (eC (.bl false))) zC))
noncomputable abbrev vN :=
 (zG (sIf (yu (tOf (eUn (xD .tuple) (zc 1)))) (yM (eC (.bl false))) zC)
  (zG (ZD (xo (za (zc 1) zo)) (Wd 2 (xO (xr 2) (xO (xr 3) Vr))) Yh)
  (yM (eC (.bl true)))))
noncomputable def zbL:=fnD 4 vN
noncomputable def xU:List D->Option D
 | [.int m,d]=>if noS d=true then some (.bl (wO m d))else none
 | _=>none
theorem ZJ {m:Int}{d:D}(h:y9 m d=true):∃ t,d=zi t:=by
 unfold y9 at h
 split at h
 .rename_i t a
  exact⟨t,YT a⟩
 .cases h
theorem VD:∀ v d,v.length=2->xU v=some d->zbL v=some d:=by
 intro v d K h
 obtain⟨a,b,rfl⟩:=zdr K
 cases a <;> try cases h
 rename_i m
 obtain⟨H,rfl⟩:=ifS h
 clear h K
 cases b with
 | scr _=>cases H
 | obj _ _ _=>cases H
 | tup f =>
  refine ZC (g:=vN) rfl ?_
  unfold vN
  refine zx rfl ?_
  refine wn (zeu (ds:=YK 0 f) (λi ρ=>∃ F G,ρ=[.v (.int m),.v (.tup f),F,G]/\z3 m none f=z3 m (W3 f i) (f.drop i)/\∀ k,i=k+1->∃ p,f[k]?=some (zi p)) rfl
   ⟨.no,.no,rfl,rfl,λk e=>by cases e⟩ ?_ ?_)
  .rintro i d ρ J ⟨F,G,rfl,B,I⟩
   rw[wI]at J
   obtain⟨u,r,rfl⟩:=Option.map_eq_some_iff.mp J
   rw[Nat.zero_add]
   refine⟨_,rfl,?_⟩
   have q:f.drop i=u::f.drop (i+1):=by
    obtain⟨M,L⟩:=List.getElem?_eq_some_iff.mp r
    rw[List.drop_eq_getElem_cons M,L]
   have x:noS u=true:=wd H r
   unfold Yh
   cases o:y9 m u with
   | false =>
    have E:yJ [.int m,u]=some (.bl false):=by
     show(if noS u=true then some (D.bl (y9 m u))else none)=_
     rw[if_pos x,o]
    refine wn (zdE (c:=true) (show(((yJ [.int m,u]).bind asB).map (!·)).bind (λc=>if c=true then some true else _)=_ by rw[E];rfl) (λ_=>vM rfl ?_) (λz=>by cases z))
    have e:z3 m none f=false:=by
     rw[B,q]
     unfold z3
     split
     .rw[o];rfl
     .rfl
    show D.bl false=.bl (z3 m none f)
    rw[e]
   | true =>
    obtain⟨t,rfl⟩:=ZJ o
    have E:yJ [.int m,zi t]=some (.bl true):=by
     show(if noS (zi t)=true then some (D.bl (y9 m (zi t)))else none)=_
     rw[if_pos x,o]
    have l:z3 m none f=(!decide (t.2 < t.1)&&Ww (W3 f i) t&&z3 m (some t) (f.drop (i+1))):=by
     rw[B,q]
     conv=>lhs;unfold z3
     rw[ws,o]
     rfl
    have n:W3 f (i+1)=some t:=by
     show(f[i]?).bind w6=some t
     rw[r]
     rfl
    refine wn (zdE (c:=decide (t.2 < t.1)) (show(((yJ [.int m,zi t]).bind asB).map (!·)).bind (λc=>if c=true then some true else some (decide (t.2 < t.1)))=_ by rw[E];rfl) (λc=>vM rfl ?_) (λc=>VB rfl ?_))
    .show D.bl false=.bl (z3 m none f)
     rw[l,c]
     rfl
    .cases i with
     | zero =>
      refine zdE (c:=false) rfl (λz=>by cases z) (λ_=>VB rfl ?_)
      refine⟨_,_,rfl,?_,λk e=>?_⟩
      .rw[n,l,c]
       rfl
      .cases e
       exact⟨t,r⟩
     | succ j =>
      obtain⟨p,A⟩:=I j rfl
      have s:W3 f (j+1)=some p:=by
       show(f[j]?).bind w6=some p
       rw[A]
       rfl
      rw[s]at l
      have N:atI f ((((j+1:Nat):Int)) - 1)=some (zi p):=by
       rw[show(((j+1:Nat):Int)) - 1=(j:Nat)from Int.add_sub_cancel (j:Int) 1]
       exact zdQ A
      have w:Ww (some p) t=!leP t p:=rfl
      refine zdE (c:=leP t p) ?_ (λC=>vM rfl ?_) (λC=>VB rfl ?_)
      .have z:decide ((0:Int) < ((j+1:Nat):Int))=true:=decide_eq_true (Int.natCast_pos.mpr (Nat.succ_pos j))
       show((some (decide ((0:Int) < ((j+1:Nat):Int)))).bind λc=>if c=true then (((atI f (((j+1:Nat):Int) - 1)).bind λy=>leT (zi t) y).bind asB)else some false)=_
       rw[z,N]
       rfl
      .show D.bl false=.bl (z3 m none f)
       rw[l,w,C,c]
       rfl
      .refine⟨_,_,rfl,?_,λO e=>?_⟩
       .rw[n,l,w,C,c]
        rfl
       .cases e
        exact⟨t,r⟩
  .rintro ρ ⟨F,G,rfl,B,I⟩
   refine vM rfl ?_
   show D.bl true=.bl (z3 m none f)
   rw[B,xH,List.drop_length]
   cases W3 f f.length <;> rfl
 | _=>rfl
theorem VH (T:Txt P w K mg base ad):T.Pr 6 5 2 xU:=by
 letI:KK:=⟨K,ad.dk⟩
 have G_is_pair:=Xa T
 refine xx ?_ VD
 walk_at "p"
noncomputable abbrev Yy :=
 (zG (sIf (Zi (yu (tOf (eUn (xD .tuple) (zc 0)))) (tOf (zh neD (eFn Zm (za (zc 0) zo)) (eC (.int 2))))) (yM (eC (.bl false))) zC)
  (yM (Zy (zp 1 zF (za (zh ixD (zc 0) (eC (.int 0))) zo)) (zp 2 xU (za (zh ixD (zc 0) (eC (.int 0))) (za (zh ixD (zc 0) (eC (.int 1))) zo))))))
noncomputable def YG:=fnD 1 Yy
noncomputable def vy:List D->Option D
 | [d]=>if noS d=true then some (.bl (wZ d))else none
 | _=>none
theorem zch {x y:D}:wZ (.tup [x,y])=(z5 x 1 8&&match x with | .int m=>wO m y | _=>false):=by
 cases x <;> rfl
theorem zdX:∀ b d,b.length=1->vy b=some d->YG b=some d:=by
 intro b d c h
 obtain⟨a,rfl⟩:=zkK c
 obtain⟨g,rfl⟩:=ifS h
 clear h c
 cases a with
 | scr _=>cases g
 | obj _ _ _=>cases g
 | tup k =>
  by_cases c:k.length=2
  .obtain⟨x,y,rfl⟩:=zdr c
   have r:noS x=true:=wd (ds:=[x,y]) (i:=0) g rfl
   have p:noS y=true:=wd (ds:=[x,y]) (i:=1) g rfl
   have f:zF [x]=some (.bl (z5 x 1 8)):=by simp[zF,r]
   rw[zch]
   by_cases n:∃ i,x=.int i
   .obtain⟨i,rfl⟩:=n
    have o:xU [.int i,y]=some (.bl (wO i y)):=by simp[xU,p]
    cases s:z5 (.int i) 1 8 <;> rw[s]at f <;> simp[YG,Yy,fnD,zG,yM,Yr,sIf,xw,ZG,sNo,zC,zbU,Wf,XU,zbX,zbW,vEv,visF,visG,Sl.f,Sl.g,zc,eC,zh,Zy,eOr,za4,eIf,eUn,Vu,wT,yy,zO,za,zo,zp,eFn,fFn,tOf,xN,Zi,yu,asB,asI,yo,VW,vL,yE,xg,Wc,wD,ltD,leD,gtD,geD,WA,yp,xa,zV,y8,zbY,xn,ixD,Zm,xD,isT,eSl,wv,x6,yY,xE,iOf,ZD,xS,Vs,We,Yc,xo,Yj,fLC,yB,yO,wC,xr,Wd,xO,Vr,b1,b2,f,o,atI,ixN]
   .have t:z5 x 1 8=false:=zh6 λj q=>n ⟨j,q⟩
    rw[t]at f ⊢
    simp[YG,Yy,fnD,zG,yM,Yr,sIf,xw,ZG,sNo,zC,zbU,Wf,XU,zbX,zbW,vEv,visF,visG,Sl.f,Sl.g,zc,eC,zh,Zy,eOr,za4,eIf,eUn,Vu,wT,yy,zO,za,zo,zp,eFn,fFn,tOf,xN,Zi,yu,asB,asI,yo,VW,vL,yE,xg,Wc,wD,ltD,leD,gtD,geD,WA,yp,xa,zV,y8,zbY,xn,ixD,Zm,xD,isT,eSl,wv,x6,yY,xE,iOf,ZD,xS,Vs,We,Yc,xo,Yj,fLC,yB,yO,wC,xr,Wd,xO,Vr,b1,b2,f,atI,ixN]
  .have e:wZ (.tup k)=false:=ziz λm l h _=>by
    unfold z0 at h
    injection h with h
    rw[h]at c
    exact c rfl
   rw[e]
   have:¬ (k.length:Int)=2:=by omega
   simp[YG,Yy,fnD,zG,yM,Yr,sIf,xw,ZG,sNo,zC,zbU,Wf,XU,zbX,zbW,vEv,visF,visG,Sl.f,Sl.g,zc,eC,zh,Zy,eOr,za4,eIf,eUn,Vu,wT,yy,zO,za,zo,zp,eFn,fFn,tOf,xN,Zi,yu,asB,asI,yo,VW,vL,yE,xg,Wc,wD,ltD,leD,gtD,geD,WA,yp,xa,zV,y8,zbY,xn,ixD,Zm,xD,isT,eSl,wv,x6,yY,xE,iOf,ZD,xS,Vs,We,Yc,xo,Yj,fLC,yB,yO,wC,xr,Wd,xO,Vr,b1,b2,this]
 | _=>rfl
theorem zc6 (T:Txt P w K mg base ad):T.Pr 7 6 1 vy:=by
 letI:KK:=⟨K,ad.dk⟩
 have G_is_place_count:=xY T
 have G_are_ties:=VH T
 refine xx ?_ zdX
 walk_at "p"
theorem ziy (m:Int)(a:List Tie):noS (z0 m a)=true:=by
 have:∀ a:List Tie,zeB (a.map zi)=true:=by
  intro a
  induction a with
  | nil=>rfl
  | cons t a b=>show(noS (zi t)&&zeB (a.map zi))=true;rw[b];rfl
 show(noS (.int m)&&(noS (.tup (a.map zi))&&true))=true
 rw[show noS (.tup (a.map zi))=zeB (a.map zi)from rfl,this a]
 rfl
noncomputable abbrev vx :=
 (sIf (yu (tOf (zp 1 vy (za (zc 0) zo)))) sNo zC)
noncomputable def vz:=fnD 1 vx
noncomputable def yC:List D->Option D
 | [d]=>if wZ d=true then some .non else none
 | _=>none
theorem ZL:∀ b d,b.length=1->yC b=some d->vz b=some d:=by
 intro b d f h
 obtain⟨a,rfl⟩:=zkK f
 obtain⟨hw,rfl⟩:=ifS h
 obtain⟨m,c,rfl,_⟩:=(v0 a).mp hw
 have e:vy [z0 m c]=some (.bl true):=by simp[vy,ziy m c,hw]
 simp[vz,vx,fnD,zG,yM,Yr,sIf,xw,ZG,sNo,zC,zbU,Wf,XU,zbX,zbW,vEv,visF,visG,Sl.f,Sl.g,zc,eC,zh,Zy,eOr,za4,eIf,eUn,Vu,wT,yy,zO,za,zo,zp,eFn,fFn,tOf,xN,Zi,yu,asB,asI,yo,VW,vL,yE,xg,Wc,wD,ltD,leD,gtD,geD,WA,yp,xa,zV,y8,zbY,xn,ixD,Zm,xD,isT,eSl,wv,x6,yY,xE,iOf,ZD,xS,Vs,We,Yc,xo,Yj,fLC,yB,yO,wC,xr,Wd,xO,Vr,b1,b2,e]
theorem ZP (T:Txt P w K mg base ad):T.Pr 8 7 1 yC:=by
 letI:KK:=⟨K,ad.dk⟩
 have G_is_web:=zc6 T
 refine xx ?_ ZL
 walk_at "q"
noncomputable def yI:D->Bool
 | .int i=>decide (0<=i)
 | _=>false
noncomputable def zms:D->Int
 | .int i=>i
 | _=>0
noncomputable def yG (m:Int):D->Bool
 | .tup a=>decide ((a.length:Int)=m)&&a.all yI
 | _=>false
theorem ze1 {α:Type}(f:α->Bool)(l:List α):ziZ [.lst (l.map λx=>.bl (f x))]=some (.bl (l.all f)):=by
 have:ziN (l.map λx=>D.bl (f x))=some (l.map f):=by
  have:=ze3 (l.map f)
  rwa[List.map_map]at this
 show((ziN (l.map λx=>D.bl (f x))).bind λa=>some (D.bl (a.all id)))=_
 rw[this]
 show some (D.bl ((l.map f).all id))=_
 rw[List.all_map]
 rfl
theorem zaj {a:List D}(h:a.all yI=true):∃ ns:List Int,a=ns.map .int/\∀ n∈ns,0<=n:=by
 induction a with
 | nil=>exact⟨[],rfl,by simp⟩
 | cons d a e =>
  rw[List.all_cons,Bool.and_eq_true]at h
  obtain⟨ns,rfl,c⟩:=e h.2
  cases d with
  | int i=>exact⟨i::ns,rfl,λn b=>by
   rcases List.mem_cons.mp b with rfl | b
   .exact of_decide_eq_true h.1
   .exact c n b⟩
  | _=>exact absurd h.1 Bool.false_ne_true
theorem zdR {ns:List Int}(h:∀ n∈ns,0<=n):(ns.map D.int).all yI=true:=by
 rw[List.all_map,List.all_eq_true]
 exact λn a=>decide_eq_true (h n a)
theorem zem (ns:List Int):zlR [.tup (ns.map .int)]=some (.int ns.sum):=by
 show((ziH (ns.map .int)).bind λns=>some (D.int ns.sum))=_
 rw[zfh]
 rfl
noncomputable abbrev xM :=
 (zG (sIf (Zi (yu (tOf (eUn (xD .tuple) (zc 1)))) (tOf (zh neD (eFn Zm (za (zc 1) zo)) (zc 0)))) (yM (eC (.bl false))) zC)
  (yM (eFn ziZ (za (yy (fLC (iOf (zc 1)) b1 yB (Zy (zp 1 zQ (za (zc 0) zo)) (zh geD (zc 0) (eC (.int 0)))))) zo))))
noncomputable def Yb:=fnD 2 xM
noncomputable def y1:List D->Option D
 | [.int m,d]=>if (noS d&&decide (m<=1000))=true then some (.bl (yG m d))else none
 | _=>none
theorem zkZ {d:D}(a:noS d=true):((zQ [d]).bind asB).bind (λc=>if c=true then geD d (.int 0)else some (.bl false))=some (.bl (yI d)):=by
 cases d with
 | scr _=>cases a
 | obj _ _ _=>cases a
 | tup _=>simp[zQ,a,vo,asB,yI]
 | lst _=>simp[zQ,a,vo,asB,yI]
 | _=>rfl
theorem XH:∀ n d,n.length=2->y1 n=some d->Yb n=some d:=by
 intro n d k h
 obtain⟨a,b,rfl⟩:=zdr k
 cases a <;> try cases h
 rename_i m
 obtain⟨l,rfl⟩:=ifS h
 clear h k
 rw[Bool.and_eq_true,decide_eq_true_eq]at l
 obtain⟨l,q⟩:=l
 cases b with
 | scr _=>cases l
 | obj _ _ _=>cases l
 | tup g =>
  by_cases k:(g.length:Int)=m
  .have e:fLC (iOf (zc 1)) b1 yB (Zy (zp 1 zQ (za (zc 0) zo)) (zh geD (zc 0) (eC (.int 0)))) [some (.int m),some (.tup g)]=some (g.map λd=>.bl (yI d)):=by
    unfold fLC
    show(if lim g.length=true then _ else none)=_
    rw[if_pos (v1 (by omega))]
    have:=YN (b:=b1) (t:=yB) (f:=Zy (zp 1 zQ (za (zc 0) zo)) (zh geD (zc 0) (eC (.int 0)))) (ρ:=[some (.int m),some (.tup g)]) id (λd=>.bl (yI d)) g
     (λd o=>⟨[some d],rfl,rfl,zkZ (by obtain⟨j,p,rfl⟩:=List.getElem_of_mem o;exact wd (i:=j) l (by simp[p]))⟩)
    rwa[List.map_id]at this
   show fnD 2 xM _=_
   refine ZC rfl ?_
   unfold xM
   refine wn (zdE (c:=false) (by simp[fnD,zG,yM,Yr,sIf,xw,ZG,sNo,zC,zbU,Wf,XU,zbX,zbW,vEv,visF,visG,Sl.f,Sl.g,zc,eC,zh,Zy,eOr,za4,eIf,eUn,Vu,wT,yy,zO,za,zo,zp,eFn,fFn,tOf,xN,Zi,yu,asB,asI,yo,VW,vL,yE,xg,Wc,wD,ltD,leD,gtD,geD,WA,yp,xa,zV,y8,zbY,xn,ixD,Zm,xD,isT,eSl,wv,x6,yY,xE,iOf,ZD,xS,Vs,We,Yc,xo,Yj,fLC,yB,yO,wC,xr,Wd,xO,Vr,b1,b2,k]) (λz=>by cases z) λ_=>VB rfl (vM (d:=.bl (g.all yI)) ?_ ?_))
   .show(match (((fLC (iOf (zc 1)) b1 yB (Zy (zp 1 zQ (za (zc 0) zo)) (zh geD (zc 0) (eC (.int 0)))) [some (.int m),some (.tup g)]).map D.lst).bind λd=>(some []:Option (List D)).map (d::·)).bind ziZ with | some d=>Ctl.rt d | none=>Ctl.no)=_
    rw[e]
    show(match ziZ [.lst (g.map λd=>.bl (yI d))]with | some d=>Ctl.rt d | none=>Ctl.no)=_
    rw[ze1]
   .show D.bl (g.all yI)=.bl (decide ((g.length:Int)=m)&&g.all yI)
    rw[decide_eq_true k,Bool.true_and]
  .have e:yG m (.tup g)=false:=by
    show(decide ((g.length:Int)=m)&&g.all yI)=false
    rw[decide_eq_false k,Bool.false_and]
   rw[e]
   simp[Yb,xM,fnD,zG,yM,Yr,sIf,xw,ZG,sNo,zC,zbU,Wf,XU,zbX,zbW,vEv,visF,visG,Sl.f,Sl.g,zc,eC,zh,Zy,eOr,za4,eIf,eUn,Vu,wT,yy,zO,za,zo,zp,eFn,fFn,tOf,xN,Zi,yu,asB,asI,yo,VW,vL,yE,xg,Wc,wD,ltD,leD,gtD,geD,WA,yp,xa,zV,y8,zbY,xn,ixD,Zm,xD,isT,eSl,wv,x6,yY,xE,iOf,ZD,xS,Vs,We,Yc,xo,Yj,fLC,yB,yO,wC,xr,Wd,xO,Vr,b1,b2,k]
 | _=>rfl
theorem X1 (T:Txt P w K mg base ad):T.Pr 4 2 2 y1:=by
 letI:KK:=⟨K,ad.dk⟩
 have G_is_whole:=Y7 T
 refine xx ?_ XH
 walk_at "p"
noncomputable def wz (m:Int):D->Bool
 | .tup a=>yG m (.tup a)&&decide ((a.map zms).sum<=300)
 | _=>false
theorem ZS (ns:List Int):(ns.map D.int).map zms=ns:=by rw[List.map_map];exact(List.map_congr_left λ_ _=>rfl).trans (List.map_id _)
noncomputable abbrev wF :=
 (yM (Zy (zp 2 y1 (za (zh ixD (zc 0) (eC (.int 0))) (za (zc 1) zo))) (zh leD (eFn zlR (za (zc 1) zo)) (eC (.int 300)))))
noncomputable def wA:=fnD 2 wF
noncomputable def zZ:List D->Option D
 | [.tup [.int m,_],d]=>if (noS d&&decide (m<=1000))=true then some (.bl (wz m d))else none
 | _=>none
theorem Xr:∀ g d,g.length=2->zZ g=some d->wA g=some d:=by
 intro g d l h
 obtain⟨a,b,rfl⟩:=zdr l
 unfold zZ at h
 split at h
 .rename_i m t p e
  injection e with e1 e2
  injection e2 with e2 _
  subst e1 e2
  obtain⟨n,rfl⟩:=ifS h
  have f:y1 [.int m,b]=some (.bl (yG m b)):=by simp only[y1];rw[if_pos n]
  cases c:yG m b with
  | false =>
   rw[c]at f
   have i:wz m b=false:=by
    cases b <;> try rfl
    show(yG m _&&_)=false
    rw[c]
    rfl
   rw[i]
   simp[wA,wF,fnD,zG,yM,Yr,sIf,xw,ZG,sNo,zC,zbU,Wf,XU,zbX,zbW,vEv,visF,visG,Sl.f,Sl.g,zc,eC,zh,Zy,eOr,za4,eIf,eUn,Vu,wT,yy,zO,za,zo,zp,eFn,fFn,tOf,xN,Zi,yu,asB,asI,yo,VW,vL,yE,xg,Wc,wD,ltD,leD,gtD,geD,WA,yp,xa,zV,y8,zbY,xn,ixD,Zm,xD,isT,eSl,wv,x6,yY,xE,iOf,ZD,xS,Vs,We,Yc,xo,Yj,fLC,yB,yO,wC,xr,Wd,xO,Vr,b1,b2,f,atI,ixN]
  | true =>
   rw[c]at f
   cases b with
   | tup j =>
    have o:j.all yI=true:=by
     unfold yG at c
     rw[Bool.and_eq_true]at c
     exact c.2
    obtain⟨ns,rfl,k⟩:=zaj o
    have i:wz m (.tup (ns.map .int))=decide (ns.sum<=300):=by
     show(yG m _&&decide (((ns.map D.int).map zms).sum<=300))=_
     rw[c,ZS,Bool.true_and]
    rw[i]
    simp[wA,wF,fnD,zG,yM,Yr,sIf,xw,ZG,sNo,zC,zbU,Wf,XU,zbX,zbW,vEv,visF,visG,Sl.f,Sl.g,zc,eC,zh,Zy,eOr,za4,eIf,eUn,Vu,wT,yy,zO,za,zo,zp,eFn,fFn,tOf,xN,Zi,yu,asB,asI,yo,VW,vL,yE,xg,Wc,wD,ltD,leD,gtD,geD,WA,yp,xa,zV,y8,zbY,xn,ixD,Zm,xD,isT,eSl,wv,x6,yY,xE,iOf,ZD,xS,Vs,We,Yc,xo,Yj,fLC,yB,yO,wC,xr,Wd,xO,Vr,b1,b2,f,zem,atI,ixN]
   | _=>cases c
 .cases h
theorem vp (T:Txt P w K mg base ad):T.Pr 12 3 2 zZ:=by
 letI:KK:=⟨K,ad.dk⟩
 have G_are_counts:=X1 T
 refine xx ?_ Xr
 walk_at "q"
noncomputable abbrev w1 :=
 (sIf (yu (tOf (zp 2 zZ (za (zc 0) (za (zc 1) zo))))) sNo zC)
noncomputable def w4:=fnD 2 w1
noncomputable def yt:List D->Option D
 | [.tup [.int m,_],d]=>if (noS d&&decide (m<=1000)&&wz m d)=true then some .non else none
 | _=>none
theorem Zf:∀ c d,c.length=2->yt c=some d->w4 c=some d:=by
 intro c d i h
 obtain⟨a,b,rfl⟩:=zdr i
 unfold yt at h
 split at h
 .rename_i m t j e
  injection e with e1 e2
  injection e2 with e2 _
  subst e1 e2
  obtain⟨f,rfl⟩:=ifS h
  rw[Bool.and_eq_true]at f
  have g:zZ [.tup [.int m,t],b]=some (.bl true):=by simp only[zZ];rw[if_pos f.1,f.2]
  simp[w4,w1,fnD,zG,yM,Yr,sIf,xw,ZG,sNo,zC,zbU,Wf,XU,zbX,zbW,vEv,visF,visG,Sl.f,Sl.g,zc,eC,zh,Zy,eOr,za4,eIf,eUn,Vu,wT,yy,zO,za,zo,zp,eFn,fFn,tOf,xN,Zi,yu,asB,asI,yo,VW,vL,yE,xg,Wc,wD,ltD,leD,gtD,geD,WA,yp,xa,zV,y8,zbY,xn,ixD,Zm,xD,isT,eSl,wv,x6,yY,xE,iOf,ZD,xS,Vs,We,Yc,xo,Yj,fLC,yB,yO,wC,xr,Wd,xO,Vr,b1,b2,g]
 .cases h
theorem Zr (T:Txt P w K mg base ad):T.Pr 13 4 2 yt:=by
 letI:KK:=⟨K,ad.dk⟩
 have G_are_stones:=vp T
 refine xx ?_ Zf
 walk_at "q"
theorem WL {m:Int}{a:List Tie}(h:wr m a):decide (m<=1000)=true:=decide_eq_true (by have:=h.hi;omega)
noncomputable def Ya (a b:Int):Tie:=(if b < a then b else a,if b > a then b else a)
noncomputable abbrev wE :=
 (sIf (yu (tOf (zp 2 ya (za (zh ixD (zc 0) (eC (.int 0))) (za (zc 1) zo))))) sNo zC)
noncomputable def wq:=fnD 2 wE
noncomputable def zL:List D->Option D
 | [.tup [.int m,_],.int p]=>if (decide (0<=p)&&decide (p<=m - 1))=true then some .non else none
 | _=>none
theorem Yp:∀ f d,f.length=2->zL f=some d->wq f=some d:=by
 intro f d i h
 obtain⟨a,b,rfl⟩:=zdr i
 unfold zL at h
 split at h
 .rename_i m t c e
  injection e with e1 e2
  injection e2 with e2 _
  subst e1 e2
  obtain⟨j,rfl⟩:=ifS h
  have g:ya [.int m,.int c]=some (.bl true):=by
   show(if noS (.int c)=true then some (D.bl (z5 (.int c) 0 (m - 1)))else none)=_
   rw[if_pos (show noS (.int c)=true from rfl),VI]
   unfold inR
   rw[j]
  simp[wq,wE,fnD,zG,yM,Yr,sIf,xw,ZG,sNo,zC,zbU,Wf,XU,zbX,zbW,vEv,visF,visG,Sl.f,Sl.g,zc,eC,zh,Zy,eOr,za4,eIf,eUn,Vu,wT,yy,zO,za,zo,zp,eFn,fFn,tOf,xN,Zi,yu,asB,asI,yo,VW,vL,yE,xg,Wc,wD,ltD,leD,gtD,geD,WA,yp,xa,zV,y8,zbY,xn,ixD,Zm,xD,isT,eSl,wv,x6,yY,xE,iOf,ZD,xS,Vs,We,Yc,xo,Yj,fLC,yB,yO,wC,xr,Wd,xO,Vr,b1,b2,g,atI,ixN]
 .cases h
theorem wg (T:Txt P w K mg base ad):T.Pr 9 4 2 zL:=by
 letI:KK:=⟨K,ad.dk⟩
 have G_is_place:=YO T
 refine xx ?_ Yp
 walk_at "q"
theorem vW {m:Int}{b:List Tie}{p:Int}(a:0<=p/\p < m):zL [z0 m b,.int p]=some .non:=by
 show(if (decide (0<=p)&&decide (p<=m - 1))=true then some D.non else none)=_
 rw[decide_eq_true a.1,decide_eq_true (by omega)]
 rfl
noncomputable abbrev X8 :=
 (yM (wT (za (eFn zkx (za (zc 0) (za (zc 1) zo))) (za (eFn zjh (za (zc 0) (za (zc 1) zo))) zo))))
noncomputable def XJ:=fnD 2 X8
noncomputable def xq:List D->Option D
 | [.int a,.int b]=>some (zi (Ya a b))
 | _=>none
theorem ZE:∀ c d,c.length=2->xq c=some d->XJ c=some d:=by
 intro c d e h
 obtain⟨a,b,rfl⟩:=zdr e
 cases a <;> try cases h
 cases b <;> try cases h
 rfl
theorem ZR (T:Txt P w K mg base ad):T.Pr 10 1 2 xq:=by
 letI:KK:=⟨K,ad.dk⟩
 refine xx ?_ ZE
 walk_at "q"
end
theorem zjS {m:Nat}{g:SE->Ctl}{ds:List D}{R:D->Prop}{ρ:SE}(e:ds.map .v++List.replicate (m - ds.length) .no=ρ)(q:(g ρ).w (λ_=>R .non) noP noP R):∃ d,fnD m g ds=some d/\R d:=by
 unfold fnD
 rw[e]
 cases a:g ρ with
 | nx b=>rw[a]at q;exact⟨_,rfl,q.nxi⟩
 | rt c=>rw[a]at q;exact⟨_,rfl,q.rti⟩
 | bk _=>rw[a]at q;exact q.bki.elim
 | ct _=>rw[a]at q;exact q.cti.elim
 | no=>rw[a]at q;exact q.noi.elim
section
variable {P:Program}{w:World}{K:W.Frag}{mg:Str->Option Value}{base:Heap}{ad:Adr}
noncomputable abbrev Zp :=
 (zG (xw false 2 (zh xg (zh vL (zh zP (zh zP (zh xg (zc 0) (eC (.int 2147483647))) (zh vL (eC (.int 977)) (zc 1))) (eC (.int 1))) (eC (.int 48271))) (eC (.int 2147483647))))
  (zG (xw false 2 (zh xg (zh vL (zc 2) (zc 2)) (eC (.int 2147483629))))
  (zG (xw false 2 (zh xg (zh vL (zh zP (zc 2) (zh vL (eC (.int 40692)) (zh zP (zc 1) (eC (.int 3))))) (eC (.int 69621))) (eC (.int 2147483647))))
  (yM (zh yE (zc 2) (eC (.int 8)))))))
noncomputable def VJ:=fnD 3 Zp
noncomputable def z6:List D->Option D
 | [.int c,.int k]=>some (.int (zdq c k))
 | _=>none
theorem V1 {i j:Int}(b:-(2 ^ 64) < i)(a:i < 2 ^ 64):Za i j=true:=decide_eq_true (.inl ⟨b,a⟩)
theorem zcq {i j:Int}(b:-(2 ^ 64) < j)(a:j < 2 ^ 64):Za i j=true:=decide_eq_true (.inr ⟨b,a⟩)
theorem YJ {i j:Int}(h:Za i j=true):vL (.int i) (.int j)=some (.int (i*j)):=by
 show(if Za i j=true then _ else none)=_
 rw[if_pos h]
theorem xl {i j:Int}(h:0 < j):xg (.int i) (.int j)=some (.int (i % j)):=by
 show(if decide (0 < j)=true then _ else none)=_
 rw[if_pos (decide_eq_true h)]
theorem XV {i j:Int}(h:0 < j)(a:j < 1606938044258990275541962092341162602522202993782792835301376):yE (.int i) (.int j)=some (.int (i / j)):=by
 show(if decide (0 < j/\j < 1606938044258990275541962092341162602522202993782792835301376)=true then _ else none)=_
 rw[if_pos (decide_eq_true ⟨h,a⟩)]
theorem W5:∀ e d,e.length=2->z6 e=some d->VJ e=some d:=by
 intro e d r h
 obtain⟨a,b,rfl⟩:=zdr r
 cases a <;> try cases h
 cases b <;> try cases h
 rename_i c k
 have l:=Int.emod_nonneg ((c % 2147483647+977*k+1)*48271) (show(2147483647:Int)≠0 by decide)
 have m:=Int.emod_lt_of_pos ((c % 2147483647+977*k+1)*48271) (show(0:Int) < 2147483647 by decide)
 have q:Za 977 k=true:=V1 (by decide) (by decide)
 have o:Za (c % 2147483647+977*k+1) 48271=true:=zcq (by decide) (by decide)
 obtain⟨x,f⟩:∃ x,(c % 2147483647+977*k+1)*48271 % 2147483647=x:=⟨_,rfl⟩
 rw[f]at l m
 have p:Za x x=true:=V1 (Int.lt_of_lt_of_le (by decide) l) (Int.lt_trans m (by decide))
 have s:Za 40692 (k+3)=true:=V1 (by decide) (by decide)
 have n:∀ x,Za x 69621=true:=λx=>zcq (by decide) (by decide)
 obtain⟨y,j⟩:∃ y,x*x % 2147483629=y:=⟨_,rfl⟩
 obtain⟨z,i⟩:∃ z,(y+40692*(k+3))*69621 % 2147483647=z:=⟨_,rfl⟩
 have g:zdq c k=z / 8:=by
  show((((c % 2147483647+977*k+1)*48271 % 2147483647)*((c % 2147483647+977*k+1)*48271 % 2147483647) % 2147483629+40692*(k+3))*69621 % 2147483647 / 8)=_
  rw[f,j,i]
 rw[g]
 refine ZC (ρ:=[.v (.int c),.v (.int k),.no]) rfl ?_
 unfold Zp
 refine zx (ρ':=[.v (.int c),.v (.int k),.v (.int x)]) (vd ?_) ?_
 .show(((((xg (.int c) (.int 2147483647)).bind λa=>(vL (.int 977) (.int k)).bind λb=>zP a b).bind λa=>zP a (.int 1)).bind λa=>vL a (.int 48271)).bind λa=>xg a (.int 2147483647))=_
  rw[xl (by decide),YJ q]
  show((vL (.int (c % 2147483647+977*k+1)) (.int 48271)).bind λa=>xg a (.int 2147483647))=_
  rw[YJ o,<- f]
  exact xl (by decide)
 refine zx (ρ':=[.v (.int c),.v (.int k),.v (.int y)]) (vd ?_) ?_
 .show((vL (.int x) (.int x)).bind λa=>xg a (.int 2147483629))=_
  rw[YJ p,<- j]
  exact xl (by decide)
 refine zx (ρ':=[.v (.int c),.v (.int k),.v (.int z)]) (vd ?_) ?_
 .show((((vL (.int 40692) (.int (k+3))).bind λb=>zP (.int y) b).bind λa=>vL a (.int 69621)).bind λa=>xg a (.int 2147483647))=_
  rw[YJ s]
  show((vL (.int (y+40692*(k+3))) (.int 69621)).bind λa=>xg a (.int 2147483647))=_
  rw[YJ (n _),<- i]
  exact xl (by decide)
 exact vM (yd (show yE (.int z) (.int 8)=_ from XV (by decide) (by decide))) rfl
theorem wx (T:Txt P w K mg base ad):T.Pr 26 1 2 z6:=by
 letI:KK:=⟨K,ad.dk⟩
 refine xx ?_ W5
 walk_at "p"
theorem zbi {i j:Int}(d:0<=i)(c:i<=1000)(a:0<=j)(b:j<=1000):Yc [.int i,.int j]=some (Ze i (j - i).toNat):=by
 show(if zeC i=true/\zeC j=true then some (Ze i (j - i).toNat)else none)=_
 rw[if_pos ⟨z4.mpr ⟨by(clear b a c;omega),by(clear b a;omega)⟩,z4.mpr ⟨by omega,by omega⟩⟩]
theorem zbG {j:Int}(a:0<=j)(b:j<=1000000):We [.int j]=some (Ze 0 j.toNat):=by
 show(if zeC j=true then some (Ze 0 j.toNat)else none)=_
 rw[if_pos (z4.mpr ⟨by omega,by omega⟩)]
theorem Xf {m:Int}{ns:List Int}(c:(ns.length:Int)=m)(a:∀ n∈ns,0<=n)(b:ns.sum<=300):wz m (.tup (ns.map .int))=true:=by
 unfold wz yG
 rw[Bool.and_eq_true,Bool.and_eq_true,decide_eq_true_eq,decide_eq_true_eq,ZS,List.length_map]
 exact⟨⟨c,zdR a⟩,b⟩
theorem zaW (ns:List Int):noS (.tup (ns.map .int))=true:=by
 show zeB (ns.map .int)=true
 induction ns with
 | nil=>rfl
 | cons n ns a=>show(noS (.int n)&&zeB (ns.map .int))=true;rw[a];rfl
noncomputable def vAt (ns:List Int)(i:Int):Int:=ns.getD i.toNat 0
theorem zlC {ns:List Int}{i:Int}(h0:0<=i)(b:i < ns.length):atI (ns.map D.int) i=some (.int (vAt ns i)):=by
 unfold vAt
 obtain⟨k,a⟩:∃ k:Nat,i=k:=⟨i.toNat,by omega⟩
 subst a
 refine zdQ ?_
 rw[Int.toNat_natCast,List.getElem?_map,List.getElem?_eq_getElem (by omega),List.getD_eq_getElem?_getD,List.getElem?_eq_getElem (by omega)]
 rfl
noncomputable abbrev wX :=
 (xw false 1 (zh zP (zc 1) (yy (fLC (Vs Yc (za (zh zP (zc 2) (eC (.int 1))) (za (zc 0) zo))) b1 yB (wT (za (zc 3) (za (zc 0) zo)))))))
noncomputable abbrev v8 :=
 (zG (xw false 1 (yy (zO zo)))
  (zG (xS We (za (zc 0) zo) (xr 2) wX)
  (yM (zc 1))))
noncomputable def WE:=fnD 3 v8
noncomputable def y6:List D->Option D
 | [.int n]=>if decide (0<=n/\n<=8)=true then some (.lst ((yD n.toNat).map zi))else none
 | _=>none
theorem XT:∀ b d,b.length=1->y6 b=some d->WE b=some d:=by
 intro b d p h
 obtain⟨a,rfl⟩:=zkK p
 cases a <;> try cases h
 rename_i n
 obtain⟨m,rfl⟩:=ifS h
 have m:0<=n/\n<=8:=of_decide_eq_true m
 clear h p
 obtain⟨k,f⟩:∃ k:Nat,n.toNat=k:=⟨_,rfl⟩
 have g:k<=8:=by omega
 have u:n=(k:Int):=by omega
 rw[f]
 have t:We [.int n]=some (Ze 0 k):=by rw[zbG m.1 (by omega),f]
 clear f
 refine ZC (ρ:=[.v (.int n),.no,.no]) rfl ?_
 unfold v8
 have q:xw false 1 (yy (zO zo)) [.v (.int n),.no,.no]=.nx [.v (.int n),.v (.lst []),.no]:=rfl
 refine zx q (wn (zgA (lo:=0) (c:=k) (λi ρ=>∃ l,ρ=[.v (.int n),.v (.lst ((yT k i).map zi)),l]) t ⟨.no,rfl⟩ ?_ ?_))
 .rintro i ρ v ⟨l,rfl⟩
  refine⟨_,rfl,?_⟩
  obtain⟨x,o⟩:∃ x:Int,(0:Int)+(i:Int)=x:=⟨_,rfl⟩
  rw[o]
  unfold wX
  refine VB (ρ':=[.v (.int n),.v (.lst ((yT k (i+1)).map zi)),.v (.int x)]) (vd (d:=.lst ((yT k (i+1)).map zi)) ?_) ⟨_,rfl⟩
  have e:fLC (Vs Yc (za (zh zP (zc 2) (eC (.int 1))) (za (zc 0) zo))) b1 yB (wT (za (zc 3) (za (zc 0) zo))) [some (.int n),some (.lst ((yT k i).map zi)),some (.int x)]=some ((zao i (k - (i+1))).map zi):=by
   have r:Yc [.int (x+1),.int n]=some (Ze (x+1) (k - (i+1))):=by
    rw[zbi (by omega) (by omega) (by omega) (by omega)]
    have s:(n - (x+1)).toNat=k - (i+1):=by omega
    rw[s]
   unfold fLC
   show(Yc [.int (x+1),.int n]).bind _=_
   rw[r]
   show(if lim (Ze (x+1) (k - (i+1))).length=true then _ else none)=_
   rw[if_pos (v1 (by rw[Vz];omega))]
   unfold zao
   rw[List.map_map]
   refine YN (λj:Nat=>D.int (x+1+(j:Int))) _ (List.range (k - (i+1))) λj _=>⟨[some (.int (x+1+(j:Int)))],rfl,rfl,?_⟩
   show some (D.tup [.int x,.int (x+1+(j:Int))])=some (D.tup [.int (i:Int),.int ((i:Int)+1+(j:Int))])
   rw[<-o,Int.zero_add]
  show(((fLC (Vs Yc (za (zh zP (zc 2) (eC (.int 1))) (za (zc 0) zo))) b1 yB (wT (za (zc 3) (za (zc 0) zo))) [some (.int n),some (.lst ((yT k i).map zi)),some (.int x)]).map D.lst).bind λy=>zP (.lst ((yT k i).map zi)) y)=_
  rw[e]
  show zP (.lst ((yT k i).map zi)) (.lst ((zao i (k - (i+1))).map zi))=_
  rw[vH (by rw[List.length_map,List.length_map,v7];have:=zbu k g i;omega),Yg,List.map_append]
 .rintro ρ ⟨l,rfl⟩
  refine vM rfl ?_
  rw[zcf]
theorem XD (T:Txt P w K mg base ad):T.Pr 25 1 1 y6:=by
 letI:KK:=⟨K,ad.dk⟩
 refine xx ?_ XT
 walk_at "p"
noncomputable abbrev xy :=
 (zG (sIf (xN (tOf (zh we (zh xg (zc 1) (eC (.int 2))) (eC (.int 0)))) (tOf (zh we (zh xg (zh zi4 (zh yE (zc 1) (eC (.int 2))) (zc 3)) (eC (.int 2))) (eC (.int 1))))) (XU false 2 (zc 4)) zC)
  (sIf (xN (tOf (zh we (zh xg (zc 1) (eC (.int 2))) (eC (.int 1)))) (tOf (zh ltD (zh xg (zp 2 z6 (za (zc 1) (za (zc 3) zo))) (eC (.int 5))) (zh zP (eC (.int 2)) (zh xg (zh yE (zc 1) (eC (.int 2))) (eC (.int 2))))))) (XU false 2 (zc 4)) zC))
noncomputable abbrev wa :=
 (zG (Wf 2 (zO zo))
  (zG (ZD (xo (za (zp 1 y6 (za (zc 0) zo)) zo)) (Wd 2 (xO (xr 3) (xO (xr 4) Vr))) xy)
  (sFz 2 (yM (wT (za (zc 0) (za (eFn yO (za (zc 2) zo)) zo)))))))
noncomputable def xt:=fnD 5 wa
theorem zh4 {a k:Int}(h:0<=k):zi4 (.int a) (.int k)=some (.int (a / 2 ^ k.toNat)):=by
 show(if decide (0<=k)=true then some (D.int (a / 2 ^ k.toNat))else none)=_
 rw[if_pos (decide_eq_true h)]
theorem zja {ρ:Ev}{c x:Int}(j:ρ[1]?=some (some (.int c)))(m:ρ[3]?=some (some (.int x)))(i:0<=x) :
 (∃ b,xN (tOf (zh we (zh xg (zc 1) (eC (.int 2))) (eC (.int 0)))) (tOf (zh we (zh xg (zh zi4 (zh yE (zc 1) (eC (.int 2))) (zc 3)) (eC (.int 2))) (eC (.int 1)))) ρ=some (decide (c % 2=0)&&b)) /\
 ∃ b,xN (tOf (zh we (zh xg (zc 1) (eC (.int 2))) (eC (.int 1)))) (tOf (zh ltD (zh xg (zp 2 z6 (za (zc 1) (za (zc 3) zo))) (eC (.int 5))) (zh zP (eC (.int 2)) (zh xg (zh yE (zc 1) (eC (.int 2))) (eC (.int 2)))))) ρ=some (decide (c % 2=1)&&b):=by
 have d:zc 1 ρ=some (.int c):=by unfold zc;rw[j];rfl
 have g:zc 3 ρ=some (.int x):=by unfold zc;rw[m];rfl
 have f:yE (.int c) (.int 2)=some (.int (c / 2)):=XV (by decide) (by decide)
 have h:∀ k:Int,tOf (zh we (zh xg (zc 1) (eC (.int 2))) (eC (.int k))) ρ=some (decide (c % 2=k)):=λk=>by
  show(((zc 1 ρ).bind λa=>xg a (.int 2)).bind λy=>we y (.int k)).bind asB=_
  rw[d,Option.bind_some,xl (by decide)]
  rfl
 constructor
 .refine⟨decide (c / 2 / 2 ^ x.toNat % 2=1),?_⟩
  have e:tOf (zh we (zh xg (zh zi4 (zh yE (zc 1) (eC (.int 2))) (zc 3)) (eC (.int 2))) (eC (.int 1))) ρ=some (decide (c / 2 / 2 ^ x.toNat % 2=1)):=by
   show(((((zc 1 ρ).bind λa=>yE a (.int 2)).bind λa=>(zc 3 ρ).bind λb=>zi4 a b).bind λa=>xg a (.int 2)).bind λy=>we y (.int 1)).bind asB=_
   rw[d,g,Option.bind_some,f,Option.bind_some,Option.bind_some,zh4 i,Option.bind_some,xl (by decide)]
   rfl
  unfold xN
  rw[h,Option.bind_some,e]
  cases decide (c % 2=0) <;> rfl
 .refine⟨decide (zdq c x % 5 < 2+c / 2 % 2),?_⟩
  have l:zp 2 z6 (za (zc 1) (za (zc 3) zo)) ρ=some (.int (zdq c x)):=by
   unfold zp za
   rw[d,g]
   rfl
  have e:tOf (zh ltD (zh xg (zp 2 z6 (za (zc 1) (za (zc 3) zo))) (eC (.int 5))) (zh zP (eC (.int 2)) (zh xg (zh yE (zc 1) (eC (.int 2))) (eC (.int 2))))) ρ=some (decide (zdq c x % 5 < 2+c / 2 % 2)):=by
   show((((zp 2 z6 (za (zc 1) (za (zc 3) zo)) ρ).bind λa=>xg a (.int 5)).bind λa=>((((zc 1 ρ).bind λa=>yE a (.int 2)).bind λa=>xg a (.int 2)).bind λy=>zP (.int 2) y).bind λb=>ltD a b)).bind asB=_
   rw[l,d,Option.bind_some,Option.bind_some,xl (by decide),f,Option.bind_some,Option.bind_some,xl (by decide)]
   rfl
  unfold xN
  rw[h,Option.bind_some,e]
  cases decide (c % 2=1) <;> rfl
theorem zl2 {n c x:Int}{a:List Tie}{t:Tie}{N B C:SE->Prop}{R:D->Prop}(g:0<=x)(p:(a.map zi).length<=1000)
 (o:N [.v (.int n),.v (.int c),.o (a.map zi),.v (.int x),.v (zi t)]) (b:N [.v (.int n),.v (.int c),.o ((a++[t]).map zi),.v (.int x),.v (zi t)]) :
 (xy [.v (.int n),.v (.int c),.o (a.map zi),.v (.int x),.v (zi t)]).w N B C R:=by
 rw[List.map_append]at b
 unfold xy
 obtain⟨⟨b1,j⟩,b2,q⟩:=zja (ρ:=visG [.v (.int n),.v (.int c),.o (a.map zi),.v (.int x),.v (zi t)]) (c:=c) (x:=x) rfl rfl g
 obtain⟨_,b3,r⟩:=zja (ρ:=visG [.v (.int n),.v (.int c),.o (a.map zi++[zi t]),.v (.int x),.v (zi t)]) (c:=c) (x:=x) rfl rfl g
 have e:=zg2 (m:=false) (i:=2) (f:=zc 4) (ρ:=[.v (.int n),.v (.int c),.o (a.map zi),.v (.int x),.v (zi t)]) (ds:=a.map zi) (d:=zi t) rfl rfl p
 refine wn (zdE j (λk=>VB e ?_) (λ_=>VB rfl (zdE q (λ_=>VB e b) (λ_=>VB rfl o))))
 refine zdE r (λh=>?_) (λ_=>VB rfl b)
 have h0:c % 2=0:=of_decide_eq_true (Bool.and_eq_true_iff.mp k).1
 have l:c % 2=1:=of_decide_eq_true (Bool.and_eq_true_iff.mp h).1
 exact absurd (h0.symm.trans l) (by decide)
theorem zdd {n c:Int}(s:1<=n)(v:n<=8):∃ a,xt [.int n,.int c]=some (z0 n a)/\a.Sublist (yD n.toNat):=by
 have key:=zjS (m:=5) (g:=wa) (ds:=[.int n,.int c]) (R:=λd=>∃ a:List Tie,d=z0 n a/\a.Sublist (yD n.toNat)) rfl ?_
 .obtain⟨d,e,a,rfl,f⟩:=key
  exact⟨a,e,f⟩
 unfold wa
 refine zx rfl ?_
 have q:y6 [.int n]=some (.lst ((yD n.toNat).map zi)):=by
  show(if decide (0<=n/\n<=8)=true then some (D.lst ((yD n.toNat).map zi))else none)=_
  rw[if_pos (decide_eq_true ⟨by omega,by omega⟩)]
 have r:=(YQ n.toNat (by omega)).2.2
 refine wn (zeu (ds:=YK 0 ((yD n.toNat).map zi)) (λi ρ=>∃ a j k,ρ=[.v (.int n),.v (.int c),.o (a.map zi),j,k]/\a.Sublist ((yD n.toNat).take i)) ?_ ⟨[],.no,.no,rfl,List.nil_sublist _⟩ ?_ ?_)
 .show((y6 [.int n]).bind λd=>(some []:Option (List D)).map (d::·)).bind _=_
  rw[q]
  rfl
 .rintro i d ρ o ⟨a,j,k,rfl,f⟩
  rw[wI]at o
  obtain⟨u,h,rfl⟩:=Option.map_eq_some_iff.mp o
  rw[List.getElem?_map]at h
  obtain⟨t,l,rfl⟩:=Option.map_eq_some_iff.mp h
  rw[Nat.zero_add]
  have b:(yD n.toNat).take (i+1)=(yD n.toNat).take i++[t]:=by rw[List.take_succ,l];rfl
  have p:a.length<=28:=Nat.le_trans f.length_le (Nat.le_trans (List.length_take_le _ _) (by have:=(List.getElem?_eq_some_iff.mp l).1;omega))
  refine⟨_,rfl,zl2 (Int.natCast_nonneg i) (by rw[List.length_map];omega) ⟨a,_,_,rfl,?_⟩ ⟨a++[t],_,_,rfl,?_⟩⟩
  .rw[b];exact f.trans (List.sublist_append_left _ _)
  .rw[b];exact f.append (List.Sublist.refl _)
 .rintro ρ ⟨a,j,k,rfl,f⟩
  exact w_fz rfl (vM rfl ⟨a,rfl,f.trans (List.take_sublist _ _)⟩)
theorem ZO (T:Txt P w K mg base ad):T.Pr 27 2 2 xt:=by
 have G__law_pairs:=XD T
 have G__law_stir:=wx T
 walk_at "p"
theorem zgg {a:SE->Option Nat}{g:SE->Ctl}{h:Nat->Option D}{ρ:SE}{j:Nat}{d:D}(e:a ρ=some j)(b:h j=some d):zj8 a g h ρ=.rt d:=by
 unfold zj8
 rw[e]
 show(match h j with | some d=>Ctl.rt d | none=>.no)=_
 rw[b]
theorem zlh {b:D->SE->Option SE}{h:SE->Option Nat}{g:SE->Ctl}{j:Nat}(I:Nat->SE->Prop):∀ (i n:Nat) (a:List D) (ρ:SE),I n ρ->i < a.length ->
 (∀ k d ρ,k < i->a[k]?=some d->I (n+k) ρ->∃ c e,b d ρ=some c/\h c=none/\g c=.nx e/\I (n+k+1) e)->(∀ d ρ,a[i]?=some d->I (n+i) ρ->∃ c,b d ρ=some c/\h c=some j)->V9 b h g a ρ=some j:=by
 intro i
 induction i with
 | zero =>
  intro n a ρ h0 o _ l
  cases a with
  | nil=>cases o
  | cons d a =>
   obtain⟨c,p,r⟩:=l d ρ rfl h0
   unfold V9
   rw[p]
   show(match h c with | some j=>some j | none=>_)=_
   rw[r]
 | succ i t =>
  intro n a ρ h0 o f l
  cases a with
  | nil=>cases o
  | cons d a =>
   obtain⟨c,e,p,r,v,u⟩:=f 0 d ρ (Nat.succ_pos _) rfl h0
   unfold V9
   rw[p]
   show(match h c with | some j=>some j | none=>_)=_
   rw[r]
   show(match g c with | .nx e=>V9 b h g a e | .ct e=>V9 b h g a e | _=>none)=_
   rw[v]
   refine t (n+1) a e u (Nat.lt_of_succ_lt_succ o) (λk d ρ s q m=>?_) λd ρ q m=>?_
   .rw[show n+1+k=n+(k+1) by omega]at m ⊢
    exact f (k+1) d ρ (Nat.succ_lt_succ s) q m
   .rw[show n+1+i=n+(i+1) by omega]at m
    exact l d ρ q m
theorem zcT {t:Ev->Option Bool}{g:SE->Ctl}{ρ:SE}(e:t (visG ρ)=some false):sIf t g zC ρ=.nx ρ:=by
 unfold sIf
 rw[e]
 rfl
theorem V5 {g h:SE->Ctl}{ρ ρ':SE}{c:Ctl}(e:g ρ=.nx ρ')(a:h ρ'=c):zG g h ρ=c:=by
 unfold zG
 rw[e]
 exact a
noncomputable def kP (t:Tie):List Key:=[.inl t.1,.inl t.2]
theorem zle {s t:Tie}(h:kP s=kP t):s=t:=by
 unfold kP at h
 obtain⟨b,a⟩:=List.cons.inj h
 obtain⟨a,_⟩:=List.cons.inj a
 exact Prod.ext (Sum.inl.inj b) (Sum.inl.inj a)
theorem zcv (t:Tie):∀ a:List Tie,(Yu (a.map kP) (a.map λ_=>D.bl true) (kP t)).isSome=decide (t∈a):=by
 intro a
 induction a with
 | nil=>rfl
 | cons k a b =>
  rw[List.map_cons,List.map_cons]
  unfold Yu
  by_cases h:kP k=kP t
  .rw[if_pos h]
   rw[zle h]
   exact(decide_eq_true List.mem_cons_self).symm
  .rw[if_neg h,b]
   have:(t∈k::a)↔t∈a:=⟨λz=>(List.mem_cons.mp z).elim (λe=>absurd (by rw[e]) h) id,List.mem_cons_of_mem _⟩
   exact(decide_eq_decide.mpr this).symm
theorem zhJ {t:Tie}{a:List Tie}{z:Bool}:zlF false (zi t) (.dct z true (a.map kP) (a.map λ_=>D.bl true))=some (.bl (decide (t∈a))):=by
 show some (D.bl (false != (Yu (a.map kP) (a.map λ_=>D.bl true) (kP t)).isSome))=_
 rw[zcv]
 cases decide (t∈a) <;> rfl
structure zmi (m:Int) (s:Tie):Prop where
 a:0<=s.1/\s.1 < m
 b:0<=s.2/\s.2 < m
 ne:s.1≠s.2
theorem zfL {m:Int}{s:Tie}(h:zmi m s):yJ [.int m,zi s]=some (.bl true):=by
 have e:(inR m s.1&&inR m s.2&&!decide (s.1=s.2))=true:=by
  obtain⟨⟨a,b⟩,⟨c,d⟩,e⟩:=h
  unfold inR
  simp only[Bool.and_eq_true,decide_eq_true_eq,Bool.not_eq_true',decide_eq_false_iff_not]
  omega
 show some (D.bl (inR m s.1&&inR m s.2&&!decide (s.1=s.2)))=_
 rw[e]
noncomputable def Yi (m:Int)(L:D)(a:List Tie)(b d c:Sl):SE:=[.v (.int m),.v L,.m true (a.map kP) (a.map λ_=>.bl true),b,d,c]
theorem zjE {s:Tie}{ρ:Ev}(h:zc 4 ρ=some (zi s)):zp 2 xq (za (zh ixD (zc 4) (eC (.int 0))) (za (zh ixD (zc 4) (eC (.int 1))) zo)) ρ=some (zi (Ya s.1 s.2)) :=
 zJ (ds:=[.int s.1,.int s.2]) (zy (zt (x:=zi s) (y:=.int 0) h rfl rfl) (zy (zt (x:=zi s) (y:=.int 1) h rfl rfl) yF)) rfl
theorem zcm {m:Int}{L:D}{a:List Tie}{b c:Sl}{t:Tie}(g:t∉a)(h:a.length < 1000):zci false 2 (zc 5) (eC (.bl true)) (Yi m L a b c (.v (zi t)))=.nx (Yi m L (a++[t]) b c (.v (zi t))):=by
 have f:(Yu (a.map kP) (a.map λ_=>D.bl true) (kP t)).isSome=false:=by rw[zcv];exact decide_eq_false g
 have e:zi0 (Yi m L a b c (.v (zi t))) 2 (zi t) (.bl true)=some (Yi m L (a++[t]) b c (.v (zi t))):=by
  unfold zi0
  show(zgW true (zi t)).bind _=_
  show(if decide ((a.map kP).length < sizeLine)=true then _ else none)=_
  rw[if_pos (decide_eq_true (by rw[List.length_map];exact wB (Nat.le_of_lt h)))]
  show some (_:SE)=_
  unfold zc4 zcO Yi
  rw[show(Yu (a.map kP) (a.map λ_=>D.bl true) [Sum.inl t.1,Sum.inl t.2]).isSome=false from f]
  simp only[List.map_append]
  rfl
 unfold zci
 show(match zi0 (Yi m L a b c (.v (zi t))) 2 (zi t) (.bl true)with | some d=>Ctl.nx d | none=>Ctl.no)=_
 rw[e]
noncomputable abbrev vU :=
 (zG (sIf (yu (tOf (zp 2 yJ (za (zc 0) (za (zc 4) zo))))) sNo zC)
  (zG (xw false 5 (zp 2 xq (za (zh ixD (zc 4) (eC (.int 0))) (za (zh ixD (zc 4) (eC (.int 1))) zo))))
  (zG (sIf (tOf (zh (zlF false) (zc 5) (zc 2))) sNo zC)
  (zci false 2 (zc 5) (eC (.bl true))))))
noncomputable abbrev zaD :=
 (zG (sIf (yu (tOf (zp 1 zF (za (zc 0) zo)))) sNo zC)
  (zG (zh9 true 2)
  (zG (ZD (xo (za (zc 1) zo)) (Wd 2 (xO (xr 3) (xO (xr 4) Vr))) vU)
  (zlY 2 (yM (wT (za (zc 0) (za (eFn yO (za (yy (fFn zbb (za (zc 2) zo))) zo)) zo))))))))
noncomputable def vI:=fnD 6 zaD
theorem ziJ {m:Int}{L:D}{a:List Tie}{s:Tie}{c e:Sl}(h:zmi m s)(d:Ya s.1 s.2∉a)(f:a.length < 1000):vU (Yi m L a c (.v (zi s)) e)=.nx (Yi m L (a++[Ya s.1 s.2]) c (.v (zi s)) (.v (zi (Ya s.1 s.2)))):=by
 unfold vU
 refine V5 (zcT (zbc (b:=true) (yZ (zJ (ds:=[.int m,zi s]) rfl (zfL h))))) ?_
 refine V5 (ρ':=Yi m L a c (.v (zi s)) (.v (zi (Ya s.1 s.2)))) (vj (zjE rfl)) ?_
 refine V5 (zcT (yZ (zt (x:=zi (Ya s.1 s.2)) (y:=.dct false true (a.map kP) (a.map λ_=>.bl true)) rfl rfl ?_))) (zcm d f)
 rw[zhJ,decide_eq_false d]
noncomputable def pl (t:Tie):List Int:=[t.1,t.2]
theorem zeM:∀ a:List Tie,V3 (a.map kP)=some (a.map pl):=by
 intro a
 induction a with
 | nil=>rfl
 | cons k a b =>
  rw[List.map_cons]
  show(V3 (a.map kP)).map (_::·)=_
  rw[b]
  rfl
theorem V0 {z:Bool}{ks c:List Tie}{vs:List D}(e:ks.length < 64)(f:ks.Perm c)(d:(c.map pl).Pairwise λa b=>HT.lexLt b a=false):zbb [.dct z true (ks.map kP) vs]=some (c.map zi):=by
 show(if (ks.map kP).length < 64 then _ else none)=_
 rw[if_pos (by rw[List.length_map];exact e),zeM,Option.map_some,<- Zv (f.symm.map pl) d,List.map_map]
 rfl
theorem zcB {m:Int}(a:1<=m/\m<=8):zF [.int m]=some (.bl true):=by
 show some (D.bl (decide (1<=m)&&decide (m<=8)))=_
 rw[decide_eq_true a.1,decide_eq_true a.2]
 rfl
theorem WX {S:List Tie}{i:Nat}{s:Tie}(h:S[i]?=some s):(S.take (i+1)).map (λs=>Ya s.1 s.2)=(S.take i).map (λs=>Ya s.1 s.2)++[Ya s.1 s.2]:=by
 rw[List.take_add_one,h,List.map_append]
 rfl
theorem zhB {S:List Tie}{i:Nat}{s:Tie}(a:(S.map λs=>Ya s.1 s.2).Nodup)(h:S[i]?=some s):Ya s.1 s.2∉(S.take i).map λs=>Ya s.1 s.2:=by
 have b:((S.take (i+1)).map λs=>Ya s.1 s.2).Nodup:=by
  refine a.sublist ?_
  exact(List.take_sublist _ _).map _
 rw[WX h]at b
 intro z
 exact(List.nodup_append.mp b).2.2 _ z _ (List.mem_singleton.mpr rfl) rfl
theorem zd3 {m:Int}{S c:List Tie}(r:1<=m/\m<=8)(p:∀ s∈S,zmi m s)(h:(S.map λs=>Ya s.1 s.2).Nodup)(q:S.length < 64)(t:(S.map λs=>Ya s.1 s.2).Perm c)(l:(c.map pl).Pairwise λa b=>HT.lexLt b a=false):vI [.int m,.lst (S.map zi)]=some (z0 m c):=by
 refine ZC (ρ:=[.v (.int m),.v (.lst (S.map zi)),.no,.no,.no,.no]) rfl ?_
 unfold zaD
 refine zx (zcT (zbc (b:=true) (yZ (zJ (ds:=[.int m]) rfl (zcB r))))) ?_
 refine zx (ρ':=Yi m (.lst (S.map zi)) [] .no .no .no) rfl ?_
 refine wn (zeu (ds:=YK 0 (S.map zi)) (λi ρ=>∃ f g e,ρ=Yi m (.lst (S.map zi)) ((S.take i).map λs=>Ya s.1 s.2) f g e) rfl ⟨_,_,_,rfl⟩ ?_ ?_)
 .rintro i d ρ k ⟨f,g,e,rfl⟩
  rw[wI,Nat.zero_add,List.getElem?_map]at k
  obtain⟨x,n,rfl⟩:=Option.map_eq_some_iff.mp k
  obtain⟨s,j,rfl⟩:=Option.map_eq_some_iff.mp n
  refine⟨Yi m (.lst (S.map zi)) ((S.take i).map λs=>Ya s.1 s.2) (.v (.int (i:Int))) (.v (zi s)) e,rfl,?_⟩
  refine VB (ziJ (p s (List.mem_of_getElem? j)) (zhB h j) (by rw[List.length_map,List.length_take];omega)) ⟨.v (.int (i:Int)),.v (zi s),.v (zi (Ya s.1 s.2)),?_⟩
  rw[WX j]
 .rintro ρ ⟨f,g,e,rfl⟩
  rw[xH,List.length_map,List.take_length]
  refine vM (d:=z0 m c) ?_ rfl
  have o:=V0 (z:=true) (ks:=S.map λs=>Ya s.1 s.2) (vs:=(S.map λs=>Ya s.1 s.2).map λ_=>.bl true) (by rw[List.length_map];exact q) t l
  show yM _ [.v (.int m),.v (.lst (S.map zi)),.v (.dct true true ((S.map λs=>Ya s.1 s.2).map kP) ((S.map λs=>Ya s.1 s.2).map λ_=>.bl true)),f,g,e]=_
  exact yd (W1 (zy rfl (zy (zdu (ds:=[.lst (c.map zi)]) (zy (YV (zgs (ds:=[_]) rfl o)) yF) rfl) yF)) (by show 2<=1000;decide))
theorem WV (T:Txt P w K mg base ad):T.Pr 11 5 2 vI:=by
 have G_is_place_count:=xY T
 have G_is_pair:=Xa T
 have G_tie_between:=ZR T
 walk_at "p"
theorem zbM {ts:List Tie}(h:ts.length < 64):VE [.lst (ts.map zi)]=some ((ZI ts).map zi):=by
 show(if (ts.map zi).length < 64 then _ else none)=_
 rw[if_pos (by rw[List.length_map];exact h),show VV (ts.map zi)=some ts from zea ts]
 rfl
structure zgQ (n:Int) (i:Nat) (ts:List Tie):Prop where
 rng:∀ t∈ts,0<=t.1/\t.1 < t.2/\t.2 < n
 nd:ts.Nodup
 has:∀ k:Int,1<=k->k<=(i:Int)->∃ t∈ts,t.2=k
 len:ts.length<=28+i
theorem zgQ.yes {n x:Int}{i:Nat}{a:List Tie}(h:zgQ n i a)(g:x=1+(i:Int)){t:Tie}(b:t∈a)(e:t.2=x):zgQ n (i+1) a :=
 ⟨h.rng,h.nd,λk d f=>by
  by_cases c:k=x
  .exact⟨t,b,by rw[e,c]⟩
  .exact h.has k d (by omega),Nat.le_succ_of_le h.len⟩
theorem zgQ.add {n x j:Int}{i:Nat}{f:List Tie}(h:zgQ n i f)(u:x=1+(i:Int))(q:x < n)(l:0<=j)(p:j < x)(g:∀ t∈f,t.2≠x):zgQ n (i+1) (f++[(j,x)]):=by
 refine⟨λt d=>?_,?_,λk r s=>?_,?_⟩
 .rcases List.mem_append.mp d with d | d
  .exact h.rng t d
  .cases List.mem_singleton.mp d;exact⟨l,p,q⟩
 .refine List.nodup_append.mpr ⟨h.nd,List.nodup_cons.mpr ⟨List.not_mem_nil,List.nodup_nil⟩,λa o b m e=>?_⟩
  cases List.mem_singleton.mp m
  exact g a o (by rw[e])
 .by_cases c:k=x
  .exact⟨(j,x),List.mem_append.mpr (.inr (List.mem_singleton.mpr rfl)),c.symm⟩
  .obtain⟨t,d,e⟩:=h.has k r (by omega)
   exact⟨t,List.mem_append.mpr (.inl d),e⟩
 .rw[List.length_append]
  exact Nat.succ_le_succ h.len
theorem zjC {ρ:Ev}{ts:List Tie}{x:Int}(g:ρ[2]?=some (some (.lst (ts.map zi))))(d:ρ[3]?=some (some (.int x)))(e:ts.length<=1000):fLC (iOf (zc 2)) b1 (tOf (zh we (zh ixD (zc 0) (eC (.int 1))) (zc 4))) (zc 0) ρ=some ((ts.filter λt=>decide (t.2=x)).map zi):=by
 have f:zc 2 ρ=some (.lst (ts.map zi)):=by unfold zc;rw[g];rfl
 unfold fLC
 show(((zc 2 ρ).bind xE).bind λc=>if lim c.length=true then _ else none)=_
 rw[f]
 show(if lim (ts.map zi).length=true then _ else none)=_
 rw[if_pos (v1 (by rw[List.length_map];exact e))]
 refine Xe zi (λt=>decide (t.2=x)) zi ts λt _=>⟨[some (zi t)],rfl,?_,λ_=>rfl⟩
 have h:zc 4 ([some (zi t)]++ρ)=some (.int x):=by
  unfold zc
  rw[show([some (zi t)]++ρ)[4]?=ρ[3]? from rfl,d]
  rfl
 show((some (D.int t.2)).bind λa=>(zc 4 ([some (zi t)]++ρ)).bind λb=>we a b).bind asB=_
 rw[h]
 rfl
noncomputable abbrev xI :=
 (zG (xw false 4 (wT (za (zh xg (zp 2 z6 (za (zc 1) (za (zh zP (eC (.int 50)) (zc 3)) zo))) (zc 3)) (za (zc 3) zo))))
  (sIf (tOf (zh we (eFn Zm (za (yy (fLC (iOf (zc 2)) b1 (tOf (zh we (zh ixD (zc 0) (eC (.int 1))) (zc 4))) (zc 0))) zo)) (eC (.int 0)))) (XU false 2 (zc 4)) zC))
noncomputable abbrev xj :=
 (zG (Wf 2 (fFn wC (za (zh ixD (zp 2 xt (za (zc 0) (za (zc 1) zo))) (eC (.int 1))) zo)))
  (zG (xS Yc (za (eC (.int 1)) (za (zc 0) zo)) (xr 3) xI)
  (sFz 2 (yM (wT (za (zc 0) (za (eFn yO (za (yy (fFn VE (za (zc 2) zo))) zo)) zo)))))))
noncomputable def xk:=fnD 5 xj
theorem WR {n c:Int}(E:1<=n)(F:n<=8):∃ f,xk [.int n,.int c]=some (z0 n f)/\wr n f/\(∀ x:Int,1<=x->x < n->∃ t∈f,t.2=x):=by
 obtain⟨q,V,l⟩:=zdd (n:=n) (c:=c) E F
 obtain⟨k,H⟩:∃ k:Nat,n=((k+1:Nat):Int):=⟨(n - 1).toNat,by omega⟩
 have z:k<=7:=by omega
 obtain⟨L,T,Q⟩:=YQ n.toNat (by omega)
 have key:=zjS (m:=5) (g:=xj) (ds:=[.int n,.int c]) (R:=λd=>∃ f:List Tie,d=z0 n (ZI f)/\zgQ n k f) (ρ:=[.v (.int n),.v (.int c),.no,.no,.no]) rfl ?_
 .obtain⟨d,e,f,rfl,o⟩:=key
  have G:=ZU f
  have I:∀ t∈ZI f,0<=t.1/\t.1 < t.2/\t.2 < n:=λt p=>o.rng t (G.mem_iff.mp p)
  refine⟨_,e,⟨E,F,I,WO o.nd⟩,λx O Z=>?_⟩
  obtain⟨t,p,N⟩:=o.has x O (by omega)
  exact⟨t,G.mem_iff.mpr p,N⟩
 unfold xj
 refine zx (ρ':=[.v (.int n),.v (.int c),.o (q.map zi),.no,.no]) (zhD (ds:=q.map zi) ?_) ?_
 .show(((xt [.int n,.int c]).bind λx=>ixD x (.int 1)).bind λd=>(some []).map (d::·)).bind wC=_
  rw[V]
  rfl
 have u:Yc [.int 1,.int n]=some (Ze 1 k):=zk3 H z
 refine wn (zgA (lo:=1) (c:=k) (λi ρ=>∃ (f:List Tie) (y v:Sl),ρ=[.v (.int n),.v (.int c),.o (f.map zi),y,v]/\zgQ n i f) u ⟨q,_,_,rfl,⟨λt p=>?_,(L.sublist l).imp λ{a b} h e=>by subst e;exact absurd (Y4.mpr h) (by unfold leP;simp),λk Y P=>absurd (Int.le_trans Y P) (by decide),Nat.le_trans l.length_le Q⟩⟩ ?_ ?_)
 .have:=T t (l.subset p)
  omega
 .rintro i ρ hi ⟨f,y,v,rfl,o⟩
  obtain⟨x,A⟩:∃ x:Int,x=(1:Int)+(i:Int):=⟨_,rfl⟩
  rw[<-A]
  refine⟨[.v (.int n),.v (.int c),.o (f.map zi),.v (.int x),v],rfl,?_⟩
  unfold xI
  obtain⟨j,s⟩:∃ j:Int,zdq c (50+x) % x=j:=⟨_,rfl⟩
  have C:0 < x:=by omega
  obtain⟨J,U⟩:=zaI C s
  have W:=o.len
  refine zx (ρ':=[.v (.int n),.v (.int c),.o (f.map zi),.v (.int x),.v (zi (j,x))]) (vd (d:=zi (j,x)) ?_) ?_
  .have K:xg (.int (zdq c (50+x))) (.int x)=some (.int j):=by rw[xl C,s]
   show((xg (.int (zdq c (50+x))) (.int x)).bind λd=>(some [D.int x]).map (d::·)).bind _=_
   rw[K]
   rfl
  refine zdE (c:=decide ((((f.filter λt=>decide (t.2=x)).map zi).length:Int)=0)) ?_ (λw=>?_) (λw=>?_)
  .have B:=zjC (ρ:=visG [.v (.int n),.v (.int c),.o (f.map zi),.v (.int x),.v (zi (j,x))]) (ts:=f) (x:=x) rfl rfl (by omega)
   show(((((fLC (iOf (zc 2)) b1 (tOf (zh we (zh ixD (zc 0) (eC (.int 1))) (zc 4))) (zc 0) _).map D.lst).bind λd=>(some []).map (d::·)).bind Zm).bind λa=>we a (.int 0)).bind asB=_
   rw[B]
   rfl
  .refine VB (zg2 (ds:=f.map zi) (d:=zi (j,x)) rfl rfl (by rw[List.length_map];omega)) ⟨f++[(j,x)],.v (.int x),.v (zi (j,x)),?_,o.add A (by omega) J U λt p e=>?_⟩
   .rw[List.map_append];rfl
   .have h0:=of_decide_eq_true w
    have:t∈f.filter λt=>decide (t.2=x):=List.mem_filter.mpr ⟨p,decide_eq_true e⟩
    rw[List.length_map]at h0
    rw[List.length_eq_zero_iff.mp (Int.ofNat.inj h0)]at this
    cases this
  .obtain⟨t,p⟩:∃ t,t∈f.filter λt=>decide (t.2=x):=by
    rcases hf:f.filter λt=>decide (t.2=x)with _ | ⟨t,r⟩
    .rw[hf]at w;cases w
    .exact⟨t,by rw[hf];exact List.mem_cons_self⟩
   obtain⟨M,S⟩:=List.mem_filter.mp p
   exact VB rfl ⟨f,_,_,rfl,o.yes A M (of_decide_eq_true S)⟩
 .rintro ρ ⟨f,y,v,rfl,o⟩
  have W:=o.len
  have X:=zbM (ts:=f) (by omega)
  refine w_fz (ρ':=[.v (.int n),.v (.int c),.v (.lst (f.map zi)),y,v]) rfl ?_
  refine vM (yd (d:=z0 n (ZI f)) ?_) ⟨f,rfl,o⟩
  show((((((VE [.lst (f.map zi)]).map D.lst).bind λd=>(some []).map (d::·)).bind yO).bind λd=>(some []).map (d::·)).map (D.int n::·)).bind _=_
  rw[X]
  rfl
theorem vS (T:Txt P w K mg base ad):T.Pr 28 3 2 xk:=by
 have G__law_stir:=wx T
 have G__law_web_by:=ZO T
 walk_at "p"
noncomputable def gl (c:Nat):List (List Nat)->List Nat
 | []=>[]
 | [x]=>x
 | x::y::r=>x++c::gl c (y::r)
theorem zh5 (c:Nat):∀ A:List Str,(Str.join ⟨#[c]⟩ A).cps.toList=gl c (A.map λa=>a.cps.toList):=by
 intro A
 induction A with
 | nil=>rfl
 | cons x r b =>
  cases r with
  | nil=>rfl
  | cons y r =>
   show((x++⟨#[c]⟩++Str.join ⟨#[c]⟩ (y::r)).cps).toList=x.cps.toList++c::gl c ((y::r).map λa=>a.cps.toList)
   rw[<-b,Str.cps_append,Str.cps_append,Array.toList_append,Array.toList_append,List.append_assoc]
   rfl
theorem zf6:Str.ofString " "=⟨#[32]⟩:=by decide
noncomputable def nS (n:Int):Str:=Str.ofString (toString n)
noncomputable def okS (n:Nat):Bool:=(nS (n:Int)).cps.toList.all (λc=>decide (48<=c)&&decide (c<=57))&&decide ((nS (n:Int)).length<=3)
theorem ziq:(List.range 301).all okS=true:=by decide +kernel
theorem zjq {n:Int}(h0:0<=n)(b:n<=300):(∀ c∈(nS n).cps.toList,48<=c/\c<=57)/\(nS n).length<=3:=by
 have h:=List.all_eq_true.mp ziq n.toNat (List.mem_range.mpr (by omega))
 unfold okS at h
 rw[show((n.toNat:Nat):Int)=n by omega,Bool.and_eq_true]at h
 refine⟨λc a=>?_,of_decide_eq_true h.2⟩
 have:=List.all_eq_true.mp h.1 c a
 rw[Bool.and_eq_true]at this
 exact⟨of_decide_eq_true this.1,of_decide_eq_true this.2⟩
noncomputable def Y5 (w:Str) (ns:List Int):Str:=Txt.join (Str.ofString " ") (w::ns.map nS)
structure Yd (w:Str):Prop where
 len:w.length<=4
 asc:∀ c∈w.cps.toList,97<=c/\c<=122
structure vF (ns:List Int):Prop where
 few:ns.length<=8
 rng:∀ n∈ns,0<=n/\n<=300
theorem WZ {w:Str}{ns:List Int}(hw:Yd w)(c:vF ns):∀ y∈w::ns.map nS,y.length<=4:=λy b=>by
 rcases List.mem_cons.mp b with rfl | b
 .exact hw.len
 .obtain⟨n,a,rfl⟩:=List.mem_map.mp b
  have:=(zjq (c.rng n a).1 (c.rng n a).2).2
  omega
theorem Xq {w:Str}{ns:List Int}(hw:Yd w)(a:vF ns):(Y5 w ns).length<=45:=by
 have d:Y5 w ns=Str.join (Str.ofString " ") (w::ns.map nS):=StrLaws.glued_eq_join _ _
 have c:=StrLaws.join_length_le (Str.ofString " ") (w::ns.map nS)
 have e:=StrLaws.sumLen_le (w::ns.map nS) (WZ hw a)
 have f:(w::ns.map nS).length<=9:=by rw[List.length_cons,List.length_map];have:=a.few;omega
 have b:(Str.ofString " ").length=1:=by decide
 rw[d]
 rw[b]at c
 omega
theorem vP {w:Str}{ns:List Int}(hw:Yd w)(g:vF ns):∀ c∈(Y5 w ns).cps.toList,32<=c/\c<=122:=by
 have j:Y5 w ns=Str.join (Str.ofString " ") (w::ns.map nS):=StrLaws.glued_eq_join _ _
 rw[j,zf6,zh5]
 have key:∀ A:List (List Nat),(∀ a∈A,∀ c∈a,32<=c/\c<=122)->∀ c∈gl 32 A,32<=c/\c<=122:=λA=>by
  induction A with
  | nil=>intro _ c b;cases b
  | cons x r i =>
   intro h c b
   cases r with
   | nil=>exact h x (.head _) c b
   | cons y r =>
    rcases List.mem_append.mp (show c∈x++32::gl 32 (y::r)from b)with b | b
    .exact h x (.head _) c b
    .rcases List.mem_cons.mp b with rfl | b
     .decide
     .exact i (λa e=>h a (.tail _ e)) c b
 refine key _ λa e c b=>?_
 obtain⟨s,f,rfl⟩:=List.mem_map.mp e
 rcases List.mem_cons.mp f with rfl | f
 .have:=hw.asc c b
  omega
 .obtain⟨n,d,rfl⟩:=List.mem_map.mp f
  have:=(zjq (g.rng n d).1 (g.rng n d).2).1 c b
  omega
theorem zer {s:Str}{a:List Str}{B:Nat}(b:∀ y∈a,y.length<=B)(h:a.length*B+a.length*s.length<=16777216):JoinOk s a=true:=by
 unfold JoinOk
 rw[StrLaws.joinFits b h]
 rfl
theorem zfJ {w:Str} {ns:List Int} (hw:Yd w) (a:vF ns):zbh (.str (Str.ofString " ")) (.lst ((w::ns.map nS).map .str))=some (.str (Y5 w ns)):=by
 show(Zt ((w::ns.map nS).map .str)).bind _=_
 rw[Xh,Option.bind_some,if_pos (zer (WZ hw a) ?_)]
 .rfl
 .have c:(w::ns.map nS).length<=9:=by rw[List.length_cons,List.length_map];have:=a.few;omega
  have b:(Str.ofString " ").length=1:=by decide
  rw[b]
  omega
theorem zil:Yd (Str.ofString "web"):=⟨by decide,by decide⟩
theorem zhH:Yd (Str.ofString "tie"):=⟨by decide,by decide⟩
theorem zde:Yd (Str.ofString "heap"):=⟨by decide,by decide⟩
theorem zid {n:Int}(h0:0<=n)(a:n<=300):zbV [.int n]=some (.str (nS n)):=by
 show(if 0<=n/\n < 1000000 then _ else _)=_
 rw[if_pos ⟨h0,by omega⟩]
 rfl
theorem zhN {ρ:Ev}{ns:List Int}{i:Ev->Option (List D)}(b:i ρ=some (ns.map .int))(a:vF ns):fLC i b1 yB (eFn zbV (za (zc 0) zo)) ρ=some ((ns.map nS).map .str):=by
 unfold fLC
 rw[b,Option.bind_some,if_pos (v1 (by rw[List.length_map];have:=a.few;omega)),List.map_map]
 refine YN D.int (D.str ∘ nS) ns λn h=>⟨[some (.int n)],rfl,rfl,?_⟩
 exact zdu (ds:=[.int n]) rfl (zid (a.rng n h).1 (a.rng n h).2)
noncomputable abbrev vB :=
 (yM (zcz zbh (eC (.str " ")) (za (zh zP (yy (zO (za (zc 0) zo))) (yy (fLC (iOf (zc 1)) b1 yB (eFn zbV (za (zc 0) zo))))) zo)))
noncomputable def yg:=fnD 2 vB
theorem vV {w:Str}{ns:List Int}{d:D}(hw:Yd w)(a:vF ns)(b:xE d=some (ns.map .int)):yg [.str w,d]=some (.str (Y5 w ns)):=by
 refine ZC (ρ:=[.v (.str w),.v d]) rfl ?_
 unfold vB
 refine vM (d:=.str (Y5 w ns)) (yd ?_) rfl
 have c:zh zP (yy (zO (za (zc 0) zo))) (yy (fLC (iOf (zc 1)) b1 yB (eFn zbV (za (zc 0) zo)))) (visG [.v (.str w),.v d])=some (.lst ((w::ns.map nS).map .str)):=by
  refine zt (x:=.lst [.str w]) (y:=.lst ((ns.map nS).map .str)) rfl (YV (zhN (zaX (d:=d) rfl b) a)) ?_
  rw[vH (by rw[List.length_map,List.length_map];have:=a.few;show 1+_<=1000;omega)]
  rfl
 unfold zcz
 rw[zy c yF]
 exact zfJ hw a
theorem zbv (T:Txt P w K mg base ad):T.Pr 14 1 2 yg:=by
 letI:KK:=⟨K,ad.dk⟩
 refine Xk (N:=(Rw 14).N) (ps:=(Rw 14).ps) (T.d 14).fn (sc 14) (g:=vB) λc A outer s H E d=>?_
 unfold vB
 exact(zH (wf (zcb (zk zj) (zb (zE (wl (xz (zb (edv 0) zm))) (wl (zcu (L:=["number"]) (M:=["word","numbers"]) rfl (Zz (by rfl) (by rfl) (by rfl) (by with_unfolding_all rfl) (by rfl) (by rfl) (by kernel_rfl) x5) (Zu (edv 1)) gs1 rb1 (λ_ _ _ _=>(xh (i:=0) zl4 rfl (Or.inl rfl) (.inr rfl))) (λ_ _ _ _=>(xT xG X2 rfl (T.z "str" (by decide)) YY (zb (edv 0) zm)))))) zm) (λa b=>W2 PySem.F.plainAttrs_str PySem.F.slot_str_join PySem.F.type_str_join zcl a b))))
noncomputable def vf (m:Int) (a:List Tie) (h:List Int):List Str:=Y5 (Str.ofString "web") [m]::(a.map λt=>Y5 (Str.ofString "tie") [t.1,t.2])++[Y5 (Str.ofString "heap") h]
noncomputable def zbH (m:Int) (a:List Tie) (h:List Int):Str:=Txt.join (Str.ofString "\n") (vf m a h)
structure vK (m:Int) (ts:List Tie) (h:List Int):Prop where
 ok:wr m ts
 few:ts.length<=28
 len:(h.length:Int)=m
 nn:∀ x∈h,0<=x
 sum:h.sum<=300
section
variable {m:Int}{ts:List Tie}{h:List Int}(A:vK m ts h)
include A
theorem vK.nW:vF [m]:=⟨by show 1<=8;decide,λn a=>by rw[List.mem_singleton.mp a];have:=A.ok.lo;have:=A.ok.hi;omega⟩
theorem vK.nT {t:Tie}(b:t∈ts):vF [t.1,t.2]:=⟨by show 2<=8;decide,λn a=>by
 have r:=A.ok.rng t b
 have:=A.ok.hi
 rcases List.mem_cons.mp a with rfl | a
 .omega
 .rw[List.mem_singleton.mp a];omega⟩
theorem vK.nH:vF h:=⟨by have:=A.len;have:=A.ok.hi;omega,λn d=>⟨A.nn n d,by
 have g:=A.sum
 have key:∀ l:List Int,(∀ x∈l,0<=x)->n∈l->n<=l.sum:=λl=>by
  induction l with
  | nil=>intro _ z;cases z
  | cons a l e =>
   intro b z
   rw[List.sum_cons]
   have h0:=b a (.head _)
   have f:0<=l.sum:=zgF λx c=>b x (.tail _ c)
   rcases List.mem_cons.mp z with rfl | z
   .omega
   .have:=e (λx c=>b x (.tail _ c)) z;omega
 have:=key h A.nn d
 omega⟩⟩
theorem vK.rows:∀ r∈vf m ts h,r.length<=45/\∀ c∈r.cps.toList,32<=c/\c<=122:=λr a=>by
 unfold vf at a
 rcases List.mem_append.mp a with a | a
 .rcases List.mem_cons.mp a with rfl | a
  .exact⟨Xq zil A.nW,vP zil A.nW⟩
  .obtain⟨t,b,rfl⟩:=List.mem_map.mp a
   exact⟨Xq zhH (A.nT b),vP zhH (A.nT b)⟩
 .rw[List.mem_singleton.mp a]
  exact⟨Xq zde A.nH,vP zde A.nH⟩
theorem vK.count:(vf m ts h).length=ts.length+2/\(vf m ts h).length<=30:=by
 have e:(vf m ts h).length=ts.length+2:=by
  unfold vf
  rw[List.length_append,List.length_cons,List.length_map]
  rfl
 have:=A.few
 exact⟨e,by omega⟩
theorem vK.short:(zbH m ts h).length<=1500:=by
 have d:zbH m ts h=Str.join (Str.ofString "\n") (vf m ts h):=StrLaws.glued_eq_join _ _
 have a:=StrLaws.join_length_le (Str.ofString "\n") (vf m ts h)
 have e:=StrLaws.sumLen_le (vf m ts h) λr b=>(A.rows r b).1
 have f:=A.count.2
 have c:(Str.ofString "\n").length=1:=by decide
 rw[d]
 rw[c]at a
 omega
theorem vK.join:zbh (.str (Str.ofString "\n")) (.lst ((vf m ts h).map .str))=some (.str (zbH m ts h)):=by
 show(Zt ((vf m ts h).map .str)).bind _=_
 rw[Xh,Option.bind_some,if_pos (zer (λr a=>(A.rows r a).1) ?_)]
 .rfl
 .have c:=A.count.2
  have b:(Str.ofString "\n").length=1:=by decide
  rw[b]
  omega
end
noncomputable abbrev XL :=
 (zG (ZG (zp 1 yC (za (zc 0) zo)))
  (zG (ZG (zp 2 yt (za (zc 0) (za (zc 1) zo))))
  (zG (xw false 2 (yy (fLC (iOf (zh ixD (zc 0) (eC (.int 1)))) b1 yB (zp 2 yg (za (eC (.str "tie")) (za (zc 0) zo))))))
  (yM (zcz zbh (eC (.str "\n")) (za (zh zP (zh zP (yy (zO (za (zp 2 yg (za (eC (.str "web")) (za (yy (zO (za (zh ixD (zc 0) (eC (.int 0))) zo))) zo))) zo))) (zc 2)) (yy (zO (za (zp 2 yg (za (eC (.str "heap")) (za (zc 1) zo))) zo)))) zo))))))
noncomputable def VN:=fnD 3 XL
theorem zff {m:Int} {a:List Tie} {h:List Int}:[D.str (Y5 (Str.ofString "web") [m])]++(a.map λt=>D.str (Y5 (Str.ofString "tie") [t.1,t.2]))++[D.str (Y5 (Str.ofString "heap") h)]=(vf m a h).map .str:=by
 unfold vf
 rw[List.map_append,List.map_cons,List.map_map]
 rfl
theorem zeN {m:Int}{a:List Tie}(ok:wr m a):yC [z0 m a]=some .non:=by
 have hw:wZ (z0 m a)=true:=(v0 _).mpr ⟨_,_,rfl,ok⟩
 simp[yC,hw]
theorem zcP {m:Int}{a:List Tie}{h:List Int}(A:vK m a h):yt [z0 m a,.tup (h.map .int)]=some .non:=by
 show(if (noS (.tup (h.map .int))&&decide (m<=1000)&&wz m (.tup (h.map .int)))=true then some D.non else none)=_
 rw[zaW,WL A.ok,Xf A.len A.nn A.sum]
 rfl
theorem zfV {m:Int}{a:List Tie}{h:List Int}(A:vK m a h):VN [z0 m a,.tup (h.map .int)]=some (.str (zbH m a h)):=by
 have k:=A.few
 refine ZC (ρ:=[.v (z0 m a),.v (.tup (h.map .int)),.no]) rfl ?_
 unfold XL
 refine zx (YI (d:=.non) (zeN A.ok)) ?_
 refine zx (YI (d:=.non) (zcP A)) ?_
 refine zx (ρ':=[.v (z0 m a),.v (.tup (h.map .int)),.v (.lst (a.map λt=>.str (Y5 (Str.ofString "tie") [t.1,t.2])))]) (vj (YV ?_)) ?_
 .unfold fLC
  rw[zaX (d:=.tup (a.map zi)) rfl rfl,Option.bind_some,if_pos (v1 (by rw[List.length_map];omega))]
  refine YN zi _ a λt f=>⟨[some (zi t)],rfl,rfl,?_⟩
  exact zJ (ds:=[.str (Str.ofString "tie"),zi t]) rfl (vV zhH (A.nT f) rfl)
 refine vM (d:=.str (zbH m a h)) (yd ?_) rfl
 have g:zh zP (zh zP (yy (zO (za (zp 2 yg (za (eC (.str "web")) (za (yy (zO (za (zh ixD (zc 0) (eC (.int 0))) zo))) zo))) zo))) (zc 2)) (yy (zO (za (zp 2 yg (za (eC (.str "heap")) (za (zc 1) zo))) zo))) (visG [.v (z0 m a),.v (.tup (h.map .int)),.v (.lst (a.map λt=>.str (Y5 (Str.ofString "tie") [t.1,t.2])))])=some (.lst ((vf m a h).map .str)):=by
  have eW:zp 2 yg (za (eC (.str "web")) (za (yy (zO (za (zh ixD (zc 0) (eC (.int 0))) zo))) zo)) (visG [.v (z0 m a),.v (.tup (h.map .int)),.v (.lst (a.map λt=>.str (Y5 (Str.ofString "tie") [t.1,t.2])))])=some (.str (Y5 (Str.ofString "web") [m])):=by
   refine zJ (ds:=[.str (Str.ofString "web"),.lst [.int m]]) rfl ?_
   exact vV zil A.nW rfl
  have e:zp 2 yg (za (eC (.str "heap")) (za (zc 1) zo)) (visG [.v (z0 m a),.v (.tup (h.map .int)),.v (.lst (a.map λt=>.str (Y5 (Str.ofString "tie") [t.1,t.2])))])=some (.str (Y5 (Str.ofString "heap") h)):=by
   refine zJ (ds:=[.str (Str.ofString "heap"),.tup (h.map .int)]) rfl ?_
   exact vV zde A.nH rfl
  generalize j:visG [.v (z0 m a),.v (.tup (h.map .int)),.v (.lst (a.map λt=>.str (Y5 (Str.ofString "tie") [t.1,t.2])))]=E0 at eW e
  have i:zc 2 E0=some (.lst (a.map λt=>.str (Y5 (Str.ofString "tie") [t.1,t.2]))):=by rw[<-j];rfl
  have b:yy (zO (za (zp 2 yg (za (eC (.str "web")) (za (yy (zO (za (zh ixD (zc 0) (eC (.int 0))) zo))) zo))) zo)) E0=some (.lst [.str (Y5 (Str.ofString "web") [m])]):=YV (VS (zy eW yF) (by show 1<=1000;decide))
  have c:yy (zO (za (zp 2 yg (za (eC (.str "heap")) (za (zc 1) zo))) zo)) E0=some (.lst [.str (Y5 (Str.ofString "heap") h)]):=YV (VS (zy e yF) (by show 1<=1000;decide))
  refine zt (zt b i (vH (by rw[List.length_map];show 1+_<=1000;omega))) c ?_
  rw[vH (by rw[List.length_append,List.length_map];show 1+_+1<=1000;omega),zff]
 unfold zcz
 rw[zy g yF]
 exact A.join
theorem zec (T:Txt P w K mg base ad):zfE P w K mg base CX0 8 (ad.f 15) (ad.e 15) (Rw 15).ps (@spD ⟨K,ad.dk⟩ 2 VN):=by
 letI:KK:=⟨K,ad.dk⟩
 have G_must_be_web:=ZP T
 have G_must_be_heap:=Zr T
 have G_written:=zbv T
 refine zhg (N:=["web","heap","ties"]) (x0:="web") (pr:=["heap"]) (T.d 15).fn (sc 15) (by decide +kernel) (g:=XL) λd A outer s H E c=>?_
 unfold XL
 exact(zl (VY (zM G_must_be_web c rfl (T.d 8) (zb (edv 0) zm)))
  (zl (VY (zM G_must_be_heap c rfl (T.d 13) (zb (edv 0) (zb (edv 1) zm))))
  (zl (zap (m:=false) (i:=2) (V7 (L:=["tie"]) (M:=["web","heap","ties"]) (sc 15).nd rfl (Or.inl rfl) rfl (Zz (by rfl) (by rfl) (by rfl) (by with_unfolding_all rfl) (by rfl) (by rfl) (by kernel_rfl) x5) (Zu (xP (edv 0) (zw zr) (λ_ _=>rfl))) gs1 rb1 (λ_ _ _ _=>(xh (i:=0) zlG rfl (Or.inl rfl) (.inr rfl))) (λ_ _ _ _=>(zM G_written c rfl (T.d 14) (zb (zk zj) (zb (edv 0) zm))))))
  (zH (wf (zcb (zk zj) (zb (zE (zE (wl (xz (zb (zM G_written c rfl (T.d 14) (zb (zk zj) (zb (wl (xz (zb (xP (edv 0) (zw zr) (λ_ _=>rfl)) zm))) zm))) zm))) (edv 2)) (wl (xz (zb (zM G_written c rfl (T.d 14) (zb (zk zj) (zb (edv 1) zm))) zm)))) zm) (λa b=>W2 PySem.F.plainAttrs_str PySem.F.slot_str_join PySem.F.type_str_join zcl a b)))))))
noncomputable abbrev xi :=
 (zG (sIf (Zi (yu (tOf (yY leD leD (eC (.int 1)) (eFn zeW (za (zc 0) zo)) (eC (.int 3))))) (yu (tOf (eFn ziZ (za (yy (fLC (iTx (zc 0)) b1 yB (zh zlE (zc 0) (eC (.str "0123456789"))))) zo))))) (yM (eC .non)) zC)
  (zG (sIf (xN (tOf (zh gtD (eFn zeW (za (zc 0) zo)) (eC (.int 1)))) (tOf (zh we (zh zlA (zc 0) (eC (.int 0))) (eC (.str "0"))))) (yM (eC .non)) zC)
  (yM (eFn zhj (za (zc 0) zo)))))
noncomputable def yw:=fnD 1 xi
noncomputable def chkN (n:Nat):Bool:=match yw [.str (nS (n:Int))] with
 | some (.int k)=>decide (k=(n:Int))
 | _=>false
theorem x4 (T:Txt P w K mg base ad):T.Pr 16 1 1 yw:=by
 letI:KK:=⟨K,ad.dk⟩
 refine Xk (N:=(Rw 16).N) (ps:=(Rw 16).ps) (T.d 16).fn (sc 16) (g:=xi) λe A outer s H E d=>?_
 unfold xi
 exact(zl (wo (zi1 (zcQ (YL (zfe XB XB xu xu (zw zr) (yH v6 zaN rfl (T.z "len" (by decide)) Xg (zb (edv 0) zm)) (zw (ye (v:=.int 3) rfl T.g_MOST_FIGURES ⟨_,rfl⟩)) (λa b c=>zf9 XB XB a b c))) (Vc (YL (ZZ (yH (WH rfl) zdo rfl (T.z "all" (by decide)) zgM (zb (wl (zcu (L:=["sign"]) (M:=["word"]) rfl (Zz (by rfl) (by rfl) (by rfl) (by with_unfolding_all rfl) (by rfl) (by rfl) (by kernel_rfl) x5) (zj5 (edv 0)) gs1 rb1 (λ_ _ _ _=>(xh (i:=0) zlQ rfl (Or.inl rfl) (.inr rfl))) (λ_ _ _ _=>(W8 zb1 zib (by with_unfolding_all rfl) (edv 0) (zk zj))))) zm))))))) (zH (wf (Va WS))) yj)
  (zl (wo (zi1 (zgK (yr zjX xu (yx _) (yH v6 zaN rfl (T.z "len" (by decide)) Xg (zb (edv 0) zm)) (zw zr)) (zca (yr (xW d) yV (yx _) (zj3 (edv 0) (zw zr) (λ_ _=>rfl)) (zk zj))))) (zH (wf (Va WS))) yj)
  (zH (wf (xT Wq zeR rfl (T.z "int" (by decide)) zcg (zb (edv 0) zm))))))
noncomputable abbrev XC :=
 (zG (sIf (yu (tOf (eUn (xD .str) (zc 0)))) sNo zC)
  (zG (xw false 1 (yy (ziG zax (zc 0) (za (eC (.str " ")) zo))))
  (zG (xw false 2 (yy (fLC (iOf (eSl slD (zc 1) (x6 (eC (.int 1))) wv)) b1 yB (zp 1 yw (za (zc 0) zo)))))
  (zG (xw false 3 (zjB (vT Zw) (za (zh ixD (zc 1) (eC (.int 0))) (za (zjB (vT zS) (za (zh ixD (zc 1) (eC (.int 0))) (za (eUn Vu (eC (.int 1))) zo))) zo))))
  (zG (sIf (Zi (tOf (zh inD (eC .non) (zc 2))) (tOf (zh neD (eFn Zm (za (zc 2) zo)) (zc 3)))) sNo zC)
  (yM (wT (za (zh ixD (zc 1) (eC (.int 0))) (za (zc 2) zo)))))))))
noncomputable def z7:=fnD 4 XC
theorem Vk (T:Txt P w K mg base ad):T.Pr 17 2 1 z7:=by
 letI:KK:=⟨K,ad.dk⟩
 have G_number_written:=x4 T
 refine Xk (N:=(Rw 17).N) (ps:=(Rw 17).ps) (T.d 17).fn (sc 17) (g:=XC) λd A outer s H E c=>?_
 unfold XC
 exact(zl (wo (YL (ZZ (vJ .str rfl (T.z "isinstance" (by decide)) (edv 0) (vl (v:=.ty "str") rfl (T.z "str" (by decide)) YY rfl)))) (zH Yx) yj)
  (zl (yN (m:=false) (i:=1) (sc 17).nd rfl (Or.inl rfl) (wl (zaF (edv 0) (zb (zk zj) zm) (λa b=>W2 PySem.F.plainAttrs_str PySem.F.slot_str_split PySem.F.type_str_split za9 a b))))
  (zl (zap (m:=false) (i:=2) (V7 (L:=["part"]) (M:=["row","words","numbers","wanted"]) (sc 17).nd rfl (Or.inl rfl) rfl (Zz (by rfl) (by rfl) (by rfl) (by with_unfolding_all rfl) (by rfl) (by rfl) (by kernel_rfl) x5) (Zu (YB (edv 1) (Zg (zw zr)) VQ)) gs1 rb1 (λ_ _ _ _=>(xh (i:=0) zkV rfl (Or.inl rfl) (.inr rfl))) (λ_ _ _ _=>(zM G_number_written c rfl (T.d 16) (zb (edv 0) zm)))))
  (zl (yN (m:=false) (i:=3) (sc 17).nd rfl (Or.inl rfl) (wM T.b_DEEDS (zb (xP (edv 1) (zw zr) (λ_ _=>rfl)) (zb (wM T.b_QUESTIONS (zb (xP (edv 1) (zw zr) (λ_ _=>rfl)) (zb (zg1 (zw zr)) zm)) (λa=>X4 T.b_QUESTIONS rfl T.g_QUESTIONS a)) zm)) (λa=>X4 T.b_DEEDS rfl T.g_DEEDS a)))
  (zl (wo (zi1 (zcQ (yr (zgH c) zgu (by with_unfolding_all rfl) (Va WS) (edv 2)) (Vc (yr zbm W7 (yx _) (yH xJ Wb rfl (T.z "len" (by decide)) Xg (zb (edv 2) zm)) (edv 3))))) (zH Yx) yj)
  (zH (wf (Y0 (zb (xP (edv 1) (zw zr) (λ_ _=>rfl)) (zb (edv 2) zm))))))))))
noncomputable abbrev Zd :=
 (zi6 (xIf (yu (tOf (eUn (xD .str) (zc 0)))) (zcX 9) xNo) (sIf (yu (tOf (eUn (xD .str) (zc 0)))) sNo zC)
  (zi6 xNo (xw false 1 (yy (ziG zax (zc 0) (za (eC (.str " ")) zo))))
  (zi6 xNo (xw false 2 (yy (fLC (iOf (eSl slD (zc 1) (x6 (eC (.int 1))) wv)) b1 yB (zp 1 yw (za (zc 0) zo)))))
  (zi6 xNo (xw false 3 (zjB (vT Zw) (za (zh ixD (zc 1) (eC (.int 0))) (za (zjB (vT zS) (za (zh ixD (zc 1) (eC (.int 0))) (za (eUn Vu (eC (.int 1))) zo))) zo))))
  (xIf (Zi (tOf (zh inD (eC .non) (zc 2))) (tOf (zh neD (eFn Zm (za (zc 2) zo)) (zc 3)))) (zcX 9) xNo)))))
noncomputable def wt:=fnX 4 Zd
theorem zbQ (T:Txt P w K mg base ad):T.Px 17 2 1 wt:=by
 letI:KK:=⟨K,ad.dk⟩
 have G_number_written:=x4 T
 refine zgX (cl:=clT ad) (N:=(Rw 17).N) (ps:=(Rw 17).ps) (T.d 17).fn (sc 17) (gx:=Zd) λd A outer s H E c=>?_
 unfold Zd
 exact(YF (zj6 (YL (ZZ (vJ .str rfl (T.z "isinstance" (by decide)) (edv 0) (vl (v:=.ty "str") rfl (T.z "str" (by decide)) YY rfl)))) (zak (zaC (cl:=clT ad) (j:=9) ⟨T.g_NoRow,T.c_NoRow⟩ rfl)) WW) (SD.nox (wo (YL (ZZ (vJ .str rfl (T.z "isinstance" (by decide)) (edv 0) (vl (v:=.ty "str") rfl (T.z "str" (by decide)) YY rfl)))) (zH Yx) yj))
  (YF Xl (SD.nox (yN (m:=false) (i:=1) (sc 17).nd rfl (Or.inl rfl) (wl (zaF (edv 0) (zb (zk zj) zm) (λa b=>W2 PySem.F.plainAttrs_str PySem.F.slot_str_split PySem.F.type_str_split za9 a b)))))
  (YF Xl (SD.nox (zap (m:=false) (i:=2) (V7 (L:=["part"]) (M:=["row","words","numbers","wanted"]) (sc 17).nd rfl (Or.inl rfl) rfl (Zz (by rfl) (by rfl) (by rfl) (by with_unfolding_all rfl) (by rfl) (by rfl) (by kernel_rfl) x5) (Zu (YB (edv 1) (Zg (zw zr)) VQ)) gs1 rb1 (λ_ _ _ _=>(xh (i:=0) zkV rfl (Or.inl rfl) (.inr rfl))) (λ_ _ _ _=>(zM G_number_written c rfl (T.d 16) (zb (edv 0) zm))))))
  (YF Xl (SD.nox (yN (m:=false) (i:=3) (sc 17).nd rfl (Or.inl rfl) (wM T.b_DEEDS (zb (xP (edv 1) (zw zr) (λ_ _=>rfl)) (zb (wM T.b_QUESTIONS (zb (xP (edv 1) (zw zr) (λ_ _=>rfl)) (zb (zg1 (zw zr)) zm)) (λa=>X4 T.b_QUESTIONS rfl T.g_QUESTIONS a)) zm)) (λa=>X4 T.b_DEEDS rfl T.g_DEEDS a))))
  (W0 (zj6 (zi1 (zcQ (yr (zgH c) zgu (by with_unfolding_all rfl) (Va WS) (edv 2)) (Vc (yr zbm W7 (yx _) (yH xJ Wb rfl (T.z "len" (by decide)) Xg (zb (edv 2) zm)) (edv 3))))) (zak (zaC (cl:=clT ad) (j:=9) ⟨T.g_NoRow,T.c_NoRow⟩ rfl)) WW))))))
noncomputable abbrev zjd :=
 (yM (wT (za (zc 0) (za (zh zeQ (wT (za (eC (.int 0)) zo)) (zh ixD (zc 0) (eC (.int 0)))) zo))))
noncomputable def zgO:=fnD 1 zjd
theorem ziI (T:Txt P w K mg base ad):T.Pr 18 1 1 zgO:=by
 walk_at "q"
noncomputable abbrev zgz :=
 (zG (ZG (zp 2 zL (za (zc 0) (za (zc 1) zo))))
  (zG (ZG (zp 2 zL (za (zc 0) (za (zc 2) zo))))
  (yM (zp 2 vI (za (zh ixD (zc 0) (eC (.int 0))) (za (zh zP (yy (fFn wC (za (zh ixD (zc 0) (eC (.int 1))) zo))) (yy (zO (za (wT (za (zc 1) (za (zc 2) zo))) zo)))) zo))))))
noncomputable def zcZ:=fnD 3 zgz
theorem zha (T:Txt P w K mg base ad):T.Pr 19 6 3 zcZ:=by
 have G_must_be_place:=wg T
 have G_web_of:=WV T
 walk_at "p"
noncomputable abbrev zkt :=
 (zG (ZG (zp 2 zL (za (zc 0) (za (zc 2) zo))))
  (zG (xw false 4 (zh zP (zh zP (eSl slD (zc 1) wv (x6 (zc 2))) (wT (za (zh zP (zh ixD (zc 1) (zc 2)) (zc 3)) zo))) (eSl slD (zc 1) (x6 (zh zP (zc 2) (eC (.int 1)))) wv)))
  (zG (sIf (yu (tOf (zp 2 zZ (za (zc 0) (za (zc 4) zo))))) sNo zC)
  (yM (zc 4)))))
noncomputable def ziO:=fnD 5 zkt
theorem zkJ (T:Txt P w K mg base ad):T.Pr 20 5 4 ziO:=by
 have G_must_be_place:=wg T
 have G_are_stones:=vp T
 walk_at "p"
noncomputable abbrev zaa :=
 (zG (sIf (tOf (zh we (zc 2) (eC (.str "web")))) (yM (zp 1 zgO (za (zp 2 vI (za (zh ixD (zc 3) (eC (.int 0))) (za (yy (zO zo)) zo))) zo))) zC)
  (zG (sIf (tOf (zh we (zc 2) (eC (.str "tie")))) (yM (wT (za (zp 3 zcZ (za (zc 0) (za (zh ixD (zc 3) (eC (.int 0))) (za (zh ixD (zc 3) (eC (.int 1))) zo)))) (za (zc 1) zo)))) zC)
  (zG (sIf (tOf (zh we (zc 2) (eC (.str "cut")))) sNo zC)
  (zG (sIf (tOf (zh we (zc 2) (eC (.str "put")))) (yM (wT (za (zc 0) (za (zp 4 ziO (za (zc 0) (za (zc 1) (za (zh ixD (zc 3) (eC (.int 0))) (za (zh ixD (zc 3) (eC (.int 1))) zo))))) zo)))) zC)
  (zG (sIf (tOf (zh we (zc 2) (eC (.str "step")))) sNo zC)
  sNo)))))
noncomputable def vk:=fnD 4 zaa
theorem zf5 (T:Txt P w K mg base ad):T.Pr 21 7 4 vk:=by
 have G_web_of:=WV T
 have G_bare:=ziI T
 have G_tied:=zha T
 have G_put:=zkJ T
 walk_at "p"
noncomputable abbrev Yt :=
 (zG (sIf (tOf (zh we (zc 2) (eC (.str "heap")))) sNo zC)
  (zG (sIf (tOf (zh we (zc 2) (eC (.str "ties")))) sNo zC)
  (zG (sIf (tOf (zh we (zc 2) (eC (.str "steps")))) sNo zC)
  (zG (sIf (tOf (zh we (zc 2) (eC (.str "far")))) sNo zC)
  (zG (sIf (tOf (zh we (zc 2) (eC (.str "most")))) sNo zC)
  (zG (sIf (tOf (zh we (zc 2) (eC (.str "reached")))) sNo zC)
  (zG (sIf (tOf (zh we (zc 2) (eC (.str "need")))) sNo zC)
  (yM (zho 2 VN (za (zc 0) (za (zc 1) zo)) "\n" " ; ")))))))))
noncomputable def Xo:=fnD 4 Yt
theorem zeh (T:Txt P w K mg base ad):T.Pr 22 9 4 Xo:=by
 letI:KK:=⟨K,ad.dk⟩
 have TK_shown:=zec T
 refine Xk (N:=(Rw 22).N) (ps:=(Rw 22).ps) (T.d 22).fn (sc 22) (g:=Yt) λc A outer s H E b=>?_
 unfold Yt
 exact(zl (wo (yr (xW b) yV (yx _) (edv 2) (zk zj)) yh yj)
  (zl (wo (yr (xW b) yV (yx _) (edv 2) (zk zj)) yh yj)
  (zl (wo (yr (xW b) yV (yx _) (edv 2) (zk zj)) yh yj)
  (zl (wo (yr (xW b) yV (yx _) (edv 2) (zk zj)) yh yj)
  (zl (wo (yr (xW b) yV (yx _) (edv 2) (zk zj)) yh yj)
  (zl (wo (yr (xW b) yV (yx _) (edv 2) (zk zj)) yh yj)
  (zl (wo (yr (xW b) yV (yx _) (edv 2) (zk zj)) yh yj)
  (zH (wf (zhx (TK_shown.mono (by decide)) b rfl (T.d 15).at_ (T.d 15).kp (T.d 15).bd (zb (edv 0) (zb (edv 1) zm)) (λa=>zhM (TK_shown.mono (by decide)) b rfl (T.d 15).at_ (T.d 15).kp (T.d 15).bd zbe a (by decide) (by decide))))))))))))
theorem zgh (T:Txt P w K mg base ad):xA P w K mg base CX0 1 ad.f_Desk___init__ ad.e_Desk___init__ ["self"] (@spI ⟨K,ad.dk⟩):=by
 letI:KK:=⟨K,ad.dk⟩
 exact zkz T.mf_Desk___init__ Yn T.dkc λa A outer s H E b=>zlL (Y0 (zb (zw zr) (zb (Y0 zm) zm))) (Y0 (zb (zw zr) zm)) (xz zm) (pv 0) (pv 0) (pv 0) (λ_=>rfl) (λ_=>rfl) (λ_=>rfl)
theorem wW {g h:SE->Ctl}{ρ ρ':SE}(e:g ρ=.nx ρ'):zG g h ρ=h ρ':=by unfold zG;rw[e]
theorem vG {f:Ev->Option D}{ρ:SE}{d:D}(h:f (visG ρ)=some d)(a:noL d=true):vEv true f ρ=some d:=by
 unfold vEv
 rw[if_pos rfl,h,Option.bind_some,if_pos a]
theorem zh8 {f:Ev->Option D}{ρ ρ':SE}{i:Nat}{d w h:D}{z:Option (Addr × Addr × Addr)}{a:List D}(b:f (visG ρ)=some d)(c:noL d=true)(e:ρ[i]?=some (.k w h ⟨z,a⟩))(g:a.length < 1000)(j:ρ.set i (.k w h ⟨z,a++[d]⟩)=ρ':=by rfl):zb9 i f ρ=.nx ρ':=by
 unfold zb9
 rw[vG b c,e]
 dsimp only
 rw[if_pos (decide_eq_true (wB (Nat.le_of_lt g))),j]
theorem zkN {f:Ev->Option D}{ρ ρ':SE}{i:Nat}{d w h:D}{p:Pst}(c:f (visG ρ)=some d)(a:noL d=true)(e:ρ[i]?=some (.k w h p))(b:ρ.set i (.k d h p)=ρ':=by rfl):sFW i f ρ=.nx ρ':=by
 unfold sFW
 rw[vG c a,e]
 exact congrArg Ctl.nx b
theorem zld {f:Ev->Option D}{ρ a:SE}{i:Nat}{d w h:D}{p:Pst}(g:f (visG ρ)=some d)(b:noL d=true)(e:ρ[i]?=some (.k w h p))(c:ρ.set i (.k w d p)=a:=by rfl):sFH i f ρ=.nx a:=by
 unfold sFH
 rw[vG g b,e]
 exact congrArg Ctl.nx c
theorem YW {i n:Nat}{R:KF}{d w h b c:D}{z:Option (Addr × Addr × Addr)}{ps ps' ds:List D}{a:Ev->Option (List D)}{ρ ρ':SE}(e:ρ[i]?=some (.k w h ⟨z,ps⟩))(f:a (visG ρ)=some ds)(j:zeV ds=true)(k:ds.length+1=n)(l:R w h ps ds=some (b,c,ps'))(g:ρ.set i (.k b c ⟨z,ps'⟩)=ρ':=by rfl):kDo i n R d a ρ=some (d,ρ'):=by
 unfold kDo
 rw[e]
 dsimp only
 rw[f,Option.bind_some,if_pos ⟨j,k⟩,l,<- g]
 rfl
theorem zbj {f:SE->Option (D × SE)}{ρ ρ':SE}{d:D}(h:f ρ=some (d,ρ')):sKx f ρ=.nx ρ':=by unfold sKx;rw[h]
theorem wU {t:Ev->Option Bool}{g h:SE->Ctl}{ρ:SE}(e:t (visG ρ)=some false):sIf t g h ρ=h ρ:=by unfold sIf;rw[e]
theorem Wo {t:Ev->Option Bool}{g h:SE->Ctl}{ρ:SE}(e:t (visG ρ)=some true):sIf t g h ρ=g ρ:=by unfold sIf;rw[e]
theorem zdc {a b:D}(d:noL a=true)(c:noL b=true):noL (.tup [a,b])=true:=by
 show(noL a&&(noL b&&true))=true
 rw[d,c]
 rfl
noncomputable def yq:SE->Ctl :=
 (zG (zb9 0 (wT (za (eUn zlr (zc 0)) (za (eUn zlD (zc 0)) zo))))
  (zG (sFW 0 (zh ixD (zc 1) (eC (.int 0))))
  (sFH 0 (zh ixD (zc 1) (eC (.int 1))))))
noncomputable def ym:KF:=λw h a b=>match b with
 | [.tup [w',h']]=>if noL w=true/\noL h=true/\noL w'=true/\noL h'=true/\a.length < 1000 then some (w',h',a++[.tup [w,h]])else none
 | _=>none
theorem Yk:∀ z w h ps f a b c,ym w h ps f=some (a,b,c)->ziY 2 yq z w h ps f=some (a,b,⟨z,c⟩):=by
 intro z w h ps f a b c e
 unfold ym at e
 split at e
 .rename_i o p
  split at e <;> cases e
  rename_i i
  obtain⟨n,k,m,l,j⟩:=i
  have g:yq [.k w h ⟨z,ps⟩,.v (.tup [a,b])]=.nx [.k a b ⟨z,ps++[.tup [w,h]]⟩,.v (.tup [a,b])]:=by
   unfold yq
   rw[wW (zh8 (ρ':=[.k w h ⟨z,ps++[.tup [w,h]]⟩,.v (.tup [a,b])]) (d:=.tup [w,h]) (W1 (ds:=[w,h]) (zy (V2 (x:=.obj w h ps) rfl rfl) (zy (V2 (x:=.obj w h ps) rfl rfl) yF)) (by show 2<=1000;decide)) (zdc n k) rfl j)]
   rw[wW (zkN (ρ':=[.k a h ⟨z,ps++[.tup [w,h]]⟩,.v (.tup [a,b])]) (zt (x:=.tup [a,b]) (y:=.int 0) rfl rfl rfl) m rfl)]
   exact zld (zt (x:=.tup [a,b]) (y:=.int 1) rfl rfl rfl) l rfl
  show(match yq [.k w h ⟨z,ps⟩,.v (.tup [a,b])] with
   | .nx ρ=>(match (ρ:SE)[0]? with
    | some (Sl.k a b p')=>some (a,b,p')
    | _=>none)
   | _=>none)=_
  rw[g]
  rfl
 .cases e
theorem ZA (T:Txt P w K mg base ad):xA P w K mg base CX0 1 ad.f_Desk_go_on ad.e_Desk_go_on ["self","state"] (@spK ⟨K,ad.dk⟩ 2 ym .non):=by
 letI:KK:=⟨K,ad.dk⟩
 refine zmu (zdy (N:=["self","state"]) (ps:=["self","state"]) T.mf_Desk_go_on Xi (g:=yq) λc A outer s H E d=>?_) Yk
 unfold yq
 exact(zl (zhG (i:=0) T.dkc (pv 0) (Y0 (zb (zdh T.dkc (edv 0)) (zb (VX T.dkc (edv 0)) zm))) (λa b=>W2 PySem.F.plainAttrs_list PySem.F.slot_list_append PySem.F.type_list_append Wk a b))
  (zl (zjo (i:=0) T.dkc (pv 0) (xP (edv 1) (zw zr) (λ_ _=>rfl)))
  (zH (zkl (i:=0) T.dkc (pv 0) (xP (edv 1) (zw zr) (λ_ _=>rfl))))))
noncomputable def zY:SE->Ctl :=
 (zG (sIf (tOf (zh we (eFn Zm (za (eUn fldP (zc 0)) zo)) (eC (.int 0)))) sNo zC)
  (zG (zhp 0 1)
  (zG (sFW 0 (zh ixD (zc 1) (eC (.int 0))))
  (sFH 0 (zh ixD (zc 1) (eC (.int 1)))))))
noncomputable def zX:KF:=λ_ _ a b=>match b,a.getLast? with
 | [],some (.tup [w',h'])=>if noL w'=true/\noL h'=true then some (w',h',a.dropLast)else none
 | _,_=>none
theorem vr:∀ z w h ps i a c g,zX w h ps i=some (a,c,g)->ziY 2 zY z w h ps i=some (a,c,⟨z,g⟩):=by
 intro z w h ps i a c g e
 unfold zX at e
 split at e
 .rename_i m n l
  split at e <;> cases e
  rename_i j
  obtain⟨f,rfl⟩:=List.getLast?_eq_some_iff.mp l
  have k:zY [.k w h ⟨z,f++[.tup [a,c]]⟩,.no]=.nx [.k a c ⟨z,f⟩,.v (.tup [a,c])]:=by
   unfold zY
   rw[wW (wU (h:=zC) (yZ (b:=false) (zt (x:=.int ((f++[D.tup [a,c]]).length:Nat)) (y:=.int 0) (zdu (ds:=[.lst (f++[.tup [a,c]])]) (zy (V2 (x:=.obj w h (f++[.tup [a,c]])) rfl rfl) yF) rfl) rfl ?_)))]
   .rw[wW (ρ':=[.k w h ⟨z,f⟩,.v (.tup [a,c])]) ?_]
    .rw[wW (zkN (ρ':=[.k a h ⟨z,f⟩,.v (.tup [a,c])]) (zt (x:=.tup [a,c]) (y:=.int 0) rfl rfl rfl) j.1 rfl)]
     exact zld (zt (x:=.tup [a,c]) (y:=.int 1) rfl rfl rfl) j.2 rfl
    .show(match (f++[D.tup [a,c]]).getLast? with
      | some d=>Ctl.nx (([.k w h ⟨z,(f++[D.tup [a,c]]).dropLast⟩,Sl.no]:SE).set 1 (.v d))
      | none=>.no)=_
     rw[List.getLast?_concat,List.dropLast_concat]
     rfl
   .rw[yp,decide_eq_false]
    rw[List.length_append]
    show ¬ ((f.length+1:Nat):Int)=0
    omega
  show(match zY [.k w h ⟨z,f++[.tup [a,c]]⟩,.no] with
   | .nx ρ=>(match (ρ:SE)[0]? with
    | some (Sl.k a c p')=>some (a,c,p')
    | _=>none)
   | _=>none)=_
  rw[k,List.dropLast_concat]
  rfl
 .cases e
theorem Ym (T:Txt P w K mg base ad):xA P w K mg base CX0 1 ad.f_Desk_go_back ad.e_Desk_go_back ["self"] (@spK ⟨K,ad.dk⟩ 1 zX .non):=by
 letI:KK:=⟨K,ad.dk⟩
 refine zmu (zdy (N:=["self","state"]) (ps:=["self"]) T.mf_Desk_go_back wH (g:=zY) λc A outer s H E b=>?_) vr
 unfold zY
 exact(zl (wo (yr (xW b) yV (yx _) (yH xJ Wb rfl (T.z "len" (by decide)) Xg (zb (zhe T.dkc (edv 0)) zm)) (zw zr)) yh yj)
  (zl (zhT (i:=0) (j:=1) T.dkc wH.nd rfl (Or.inl rfl) (pv 0) rfl (λa=>zeb PySem.F.plainAttrs_list PySem.F.slot_list_pop PySem.F.type_list_pop zhY a))
  (zl (zjo (i:=0) T.dkc (pv 0) (xP (edv 1) (zw zr) (λ_ _=>rfl)))
  (zH (zkl (i:=0) T.dkc (pv 0) (xP (edv 1) (zw zr) (λ_ _=>rfl)))))))
noncomputable abbrev wN :=
 (zG (xw false 2 (zp 1 z7 (za (zc 1) zo)))
  (zG (xw false 3 (zh ixD (zc 2) (eC (.int 0))))
  (zG (sIf (tOf (eUn (zcU zS) (zc 3))) (yM (zp 4 Xo (za (eUn zlr (zc 0)) (za (eUn zlD (zc 0)) (za (zc 3) (za (zh ixD (zc 2) (eC (.int 1))) zo)))))) zC)
  sNo)))
noncomputable def yA:=fnD 4 wN
theorem zam (T:Txt P w K mg base ad):xA P w K mg base CX0 10 ad.f_Desk_say ad.e_Desk_say ["self","row"] (@spD ⟨K,ad.dk⟩ 2 yA):=by
 letI:KK:=⟨K,ad.dk⟩
 have G_parsed:=Vk T
 have G_answer:=zeh T
 refine Xk (N:=["self","row","told","word"]) (ps:=["self","row"]) T.mf_Desk_say yi (g:=wN) λb A outer s H E a=>?_
 unfold wN
 exact(zl (yN (m:=false) (i:=2) yi.nd rfl (Or.inl rfl) (zM G_parsed a rfl (T.d 17) (zb (edv 1) zm)))
  (zl (yN (m:=false) (i:=3) yi.nd rfl (Or.inl rfl) (xP (edv 2) (zw zr) (λ_ _=>rfl)))
  (zl (wo (W4 T.b_QUESTIONS rfl T.g_QUESTIONS (edv 3)) (zH (wf (zM G_answer a rfl (T.d 22) (zb (zdh T.dkc (edv 0)) (zb (VX T.dkc (edv 0)) (zb (edv 3) (zb (xP (edv 2) (zw zr) (λ_ _=>rfl)) zm))))))) yj)
  yh)))
noncomputable abbrev vc :=
 (xEx (zlc 1 wt (za (zc 1) zo)))
noncomputable def vm:=fnX 4 vc
theorem WF (T:Txt P w K mg base ad):xA P w K mg base (Air P w) 10 ad.f_Desk_say ad.e_Desk_say ["self","row"] (@spX ⟨K,ad.dk⟩ (clT ad) 2 vm):=by
 letI:KK:=⟨K,ad.dk⟩
 have X_parsed:=zbQ T
 refine zgX (cl:=clT ad) (N:=["self","row","told","word"]) (ps:=["self","row"]) T.mf_Desk_say yi (gx:=vc) λb A outer s H E a=>?_
 unfold vc
 exact(W0 (zkf (i:=2) yi.nd rfl (Or.inl rfl) (ziK (X_parsed.mono (by decide)) Z9 a rfl (T.d 17).at_ (T.d 17).kp (T.d 17).bd (zb (edv 1) zm))))
noncomputable def yP:SE->Ctl :=
 (zG (xw false 2 (zp 1 z7 (za (zc 1) zo)))
  (zG (xw false 3 (zh ixD (zc 2) (eC (.int 0))))
  (zG (sIf (tOf (eUn (zcU zS) (zc 3))) sNo zC)
  (zG (sIf (tOf (zh we (zc 3) (eC (.str "back")))) (sKx (kDo 0 1 zX .non (λ_=>some []))) (sKx (kDo 0 2 ym .non (za (zp 4 vk (za (eUn zlr (zc 0)) (za (eUn zlD (zc 0)) (za (zc 3) (za (zh ixD (zc 2) (eC (.int 1))) zo))))) zo))))
  zC))))
noncomputable def zA:KF:=λw h a b=>match b with
 | [row]=>(match z7 [row] with
  | some (.tup [.str x,.lst ns])=>if (x9 zS x).isSome=true then none else if x="back" then zX w h a []else match vk [w,h,.str x,.lst ns] with
   | some s=>if noL s=true then ym w h a [s]else none
   | none=>none
  | _=>none)
 | _=>none
theorem ZK:∀ z w h ps g d f c,zA w h ps g=some (d,f,c)->ziY 4 yP z w h ps g=some (d,f,⟨z,c⟩):=by
 intro z w h ps g d f c e
 unfold zA at e
 split at e
 .rename_i a
  split at e
  .rename_i x ns n
   have k:yP [.k w h ⟨z,ps⟩,.v a,.no,.no]=.nx [.k d f ⟨z,c⟩,.v a,.v (.tup [.str x,.lst ns]),.v (.str x)]:=by
    unfold yP
    rw[wW (vj (σ':=[.k w h ⟨z,ps⟩,.v a,.v (.tup [.str x,.lst ns]),.no]) (zJ (ds:=[a]) rfl n)),
     wW (vj (σ':=[.k w h ⟨z,ps⟩,.v a,.v (.tup [.str x,.lst ns]),.v (.str x)]) (zt (x:=.tup [.str x,.lst ns]) (y:=.int 0) rfl rfl rfl))]
    cases j:(x9 zS x).isSome with
    | true=>rw[j,if_pos rfl]at e;cases e
    | false =>
     rw[j,if_neg Bool.false_ne_true]at e
     rw[wW (wU (h:=zC) (yZ (b:=false) (V2 (x:=.str x) rfl (by show some (D.bl _)=_;rw[j]))))]
     by_cases i:x="back"
     .rw[if_pos i]at e
      refine wW ((Wo (yZ (b:=true) (zt (x:=.str x) (y:=.str "back") rfl rfl (by rw[zV,decide_eq_true i])))).trans (zbj (YW rfl rfl rfl rfl e)))
     .rw[if_neg i]at e
      split at e
      .rename_i s l
       split at e
       .rename_i m
        refine wW ((wU (yZ (b:=false) (zt (x:=.str x) (y:=.str "back") rfl rfl (by rw[zV,decide_eq_false i])))).trans (zbj (YW (ds:=[s]) rfl (zy (zJ (ds:=[w,h,.str x,.lst ns]) rfl l) yF) (by show(noL s&&true)=true;rw[m];rfl) rfl e)))
       .cases e
      .cases e
   show(match yP [.k w h ⟨z,ps⟩,.v a,.no,.no] with
    | .nx ρ=>(match (ρ:SE)[0]? with
     | some (Sl.k d f p')=>some (d,f,p')
     | _=>none)
    | _=>none)=_
   rw[k]
   rfl
  .cases e
 .cases e
theorem v9 (T:Txt P w K mg base ad):xA P w K mg base CX0 10 ad.f_Desk_say ad.e_Desk_say ["self","row"] (@spK ⟨K,ad.dk⟩ 2 zA (.str "ok")):=by
 letI:KK:=⟨K,ad.dk⟩
 have G_parsed:=Vk T
 have G_after:=zf5 T
 have K_Desk_go_on:=ZA T
 have K_Desk_go_back:=Ym T
 refine zmu (zhA (N:=["self","row","told","word"]) (ps:=["self","row"]) T.mf_Desk_say yi (g:=yP) λb A outer s H E a=>?_) ZK
 unfold yP
 exact(YE (yN (m:=false) (i:=2) yi.nd rfl (Or.inl rfl) (zM G_parsed a rfl (T.d 17) (zb (edv 1) zm)))
  (YE (yN (m:=false) (i:=3) yi.nd rfl (Or.inl rfl) (xP (edv 2) (zw zr) (λ_ _=>rfl)))
  (YE (wo (W4 T.b_QUESTIONS rfl T.g_QUESTIONS (edv 3)) yh yj)
  (YE (wo (yr (xW a) yV (yx _) (edv 3) (zk zj)) (zH (Vw (zht T.dkc.cl T.mm_Desk_go_back (K_Desk_go_back.mono (by decide)) a T.mb_Desk_go_back (pv 0)))) (zH (Vw (Zo T.dkc.cl T.mm_Desk_go_on (K_Desk_go_on.mono (by decide)) a T.mb_Desk_go_on (pv 0) (zb (zM G_after a rfl (T.d 21) (zb (zdh T.dkc (edv 0)) (zb (VX T.dkc (edv 0)) (zb (edv 3) (zb (xP (edv 2) (zw zr) (λ_ _=>rfl)) zm))))) zm)))))
  zhn))))
theorem Xy {m:Int}{c:List Tie}(ok:wr m c):(c.map pl).Pairwise λa b=>HT.lexLt b a=false:=by
 rw[List.pairwise_map]
 refine ok.srt.imp λ{a b} h=>?_
 unfold ltP at h
 show HT.lexLt [b.1,b.2] [a.1,a.2]=false
 unfold HT.lexLt HT.lexLt HT.lexLt
 split
 .split
  .rfl
  .exact decide_eq_false (by omega)
 .exact decide_eq_false (by omega)
theorem zhm {s:Tie}(h:s.1 < s.2):Ya s.1 s.2=s:=by
 unfold Ya
 rw[if_neg (by omega),if_pos (by omega)]
theorem zeS {m:Int}{a:List Tie}(ok:wr m a):a.map (λs=>Ya s.1 s.2)=a:=(List.map_congr_left λs b=>zhm (ok.rng s b).2.1).trans (List.map_id a)
theorem zgt {m:Int}{c:List Tie}(ok:wr m c):c.Nodup:=ok.srt.imp λ{a b} h e=>by
 subst e
 unfold ltP at h
 omega
theorem VF {m:Int}{a:List Tie}(ok:wr m a)(b:a.length < 64):vI [.int m,.lst (a.map zi)]=some (z0 m a):=by
 have e:=zeS ok
 refine zd3 ⟨ok.lo,ok.hi⟩ (λs c=>?_) (by rw[e];exact zgt ok) b (by rw[e]) (Xy ok)
 have:=ok.rng s c
 exact⟨⟨this.1,by omega⟩,⟨by omega,this.2.2⟩,by omega⟩
theorem zd2 {a b:List D}(h:a.length+b.length<=1000):zP (.lst a) (.lst b)=some (.lst (a++b)):=vH h
theorem ziX {m a b:Int}{c:List Tie}(ok:wr m (c++[(a,b)]))(e:c.length < 60):zcZ [z0 m c,.int a,.int b]=some (z0 m (c++[(a,b)])):=by
 have r:=ok.rng (a,b) (List.mem_append_right _ (List.mem_singleton.mpr rfl))
 dsimp only at r
 refine ZC (ρ:=[.v (z0 m c),.v (.int a),.v (.int b)]) rfl ?_
 unfold zgz
 refine zx (YI (d:=.non) (zJ (ds:=[z0 m c,.int a]) rfl (vW ⟨r.1,by omega⟩))) ?_
 refine zx (YI (d:=.non) (zJ (ds:=[z0 m c,.int b]) rfl (vW ⟨by omega,r.2.2⟩))) ?_
 refine vM (d:=z0 m (c++[(a,b)])) (yd (zJ (ds:=[.int m,.lst ((c++[(a,b)]).map zi)]) (zy rfl (zy (zt (x:=.lst (c.map zi)) (y:=.lst [zi (a,b)]) (YV (zgs (ds:=[.tup (c.map zi)]) rfl rfl)) (YV (VS (zy (W1 (zy rfl (zy rfl yF)) (by show 2<=1000;decide)) yF) (by show 1<=1000;decide))) ?_) yF)) (VF ok (by rw[List.length_append];show c.length+1 < 64;omega)))) rfl
 rw[zd2 (by rw[List.length_map];show c.length+1<=1000;omega),List.map_append]
 rfl
theorem zcC {m a b:Int} {c:List Tie} {h:D} (ok:wr m (c++[(a,b)])) (d:c.length < 60):vk [z0 m c,h,.str "tie",.lst [.int a,.int b]]=some (.tup [z0 m (c++[(a,b)]),h]):=by
 refine ZC (ρ:=[.v (z0 m c),.v h,.v (.str "tie"),.v (.lst [.int a,.int b])]) rfl ?_
 unfold zaa
 refine zx ((wU (yZ (b:=false) (zt (x:=.str "tie") (y:=.str "web") rfl rfl (by kernel_rfl)))).trans rfl) ?_
 refine wn ?_
 rw[Wo (yZ (b:=true) (zt (x:=.str "tie") (y:=.str "tie") rfl rfl (by kernel_rfl)))]
 exact vM (yd (W1 (zy (zJ (ds:=[z0 m c,.int a,.int b]) rfl (ziX ok d)) (zy rfl yF)) (by show 2<=1000;decide))) rfl
noncomputable def wQ (m:Int):List Int:=List.replicate m.toNat 0
theorem W9 {n:Int} {w h:D} (b:1<=n) (a:n<=8):vk [w,h,.str "web",.lst [.int n]]=some (.tup [z0 n [],.tup ((wQ n).map .int)]):=by
 have:n=1\/n=2\/n=3\/n=4\/n=5\/n=6\/n=7\/n=8:=by omega
 rcases this with rfl | rfl | rfl | rfl | rfl | rfl | rfl | rfl <;> kernel_rfl
noncomputable def wk (m:Int):List Int:=5::List.replicate (m.toNat - 1) 0
theorem zcH {m:Int}{a:List Tie}(ok:wr m a)(c:a.length<=28):vK m a (wk m):=by
 have:=ok.lo
 have:=ok.hi
 refine⟨ok,c,?_,λx b=>?_,?_⟩
 .unfold wk
  rw[List.length_cons,List.length_replicate]
  omega
 .rcases List.mem_cons.mp b with rfl | b
  .decide
  .rw[(List.mem_replicate.mp b).2];decide
 .unfold wk
  rw[List.sum_cons]
  have:∀ k:Nat,(List.replicate k (0:Int)).sum=0:=λk=>by
   induction k with
   | zero=>rfl
   | succ k d=>rw[List.replicate_succ,List.sum_cons,d];rfl
  rw[this]
  decide
theorem VP {m:Int}{a:List Tie}{h:List Int}(A:vK m a h):zZ [z0 m a,.tup (h.map .int)]=some (.bl true):=by
 show(if (noS (.tup (h.map .int))&&decide (m<=1000))=true then some (D.bl (wz m (.tup (h.map .int))))else none)=_
 rw[zaW,WL A.ok,Xf A.len A.nn A.sum]
 rfl
theorem zfB {m:Int}{a:List Tie}(ok:wr m a)(c:a.length<=28):ziO [z0 m a,.tup ((wQ m).map .int),.int 0,.int 5]=some (.tup ((wk m).map .int)):=by
 have f:=ok.lo
 have e:=ok.hi
 refine ZC (ρ:=[.v (z0 m a),.v (.tup ((wQ m).map .int)),.v (.int 0),.v (.int 5),.no]) rfl ?_
 unfold zkt
 refine zx (YI (d:=.non) (zJ (ds:=[z0 m a,.int 0]) rfl (vW ⟨by decide,by omega⟩))) ?_
 refine zx (vj (d:=.tup ((wk m).map .int)) (σ':=[.v (z0 m a),.v (.tup ((wQ m).map .int)),.v (.int 0),.v (.int 5),.v (.tup ((wk m).map .int))]) ?_) ?_
 .have:m=1\/m=2\/m=3\/m=4\/m=5\/m=6\/m=7\/m=8:=by omega
  rcases this with rfl | rfl | rfl | rfl | rfl | rfl | rfl | rfl <;> kernel_rfl
 refine zx ((wU (zbc (b:=true) (yZ (zJ (ds:=[z0 m a,.tup ((wk m).map .int)]) rfl (VP (zcH ok c)))))).trans rfl) ?_
 exact vM (yd rfl) rfl
theorem zcG {m:Int} {a:List Tie} (ok:wr m a) (c:a.length<=28):vk [z0 m a,.tup ((wQ m).map .int),.str "put",.lst [.int 0,.int 5]]=some (.tup [z0 m a,.tup ((wk m).map .int)]):=by
 refine ZC (ρ:=[.v (z0 m a),.v (.tup ((wQ m).map .int)),.v (.str "put"),.v (.lst [.int 0,.int 5])]) rfl ?_
 unfold zaa
 refine zx ((wU (yZ (b:=false) (zt (x:=.str "put") (y:=.str "web") rfl rfl (by kernel_rfl)))).trans rfl) ?_
 refine zx ((wU (yZ (b:=false) (zt (x:=.str "put") (y:=.str "tie") rfl rfl (by kernel_rfl)))).trans rfl) ?_
 refine zx ((wU (yZ (b:=false) (zt (x:=.str "put") (y:=.str "cut") rfl rfl (by kernel_rfl)))).trans rfl) ?_
 refine wn ?_
 rw[Wo (yZ (b:=true) (zt (x:=.str "put") (y:=.str "put") rfl rfl (by kernel_rfl)))]
 exact vM (yd (W1 (zy rfl (zy (zJ (ds:=[z0 m a,.tup ((wQ m).map .int),.int 0,.int 5]) rfl (zfB ok c)) yF)) (by show 2<=1000;decide))) rfl
noncomputable def wm (m:Int) (a:List Tie) (h:List Int):Str:=Txt.replace (zbH m a h) "\n" " ; "
theorem WT {m:Int} {a:List Tie} {h:List Int} (A:vK m a h):Xo [z0 m a,.tup (h.map .int),.str "shown",.lst []]=some (.str (wm m a h)):=by
 refine ZC (ρ:=[.v (z0 m a),.v (.tup (h.map .int)),.v (.str "shown"),.v (.lst [])]) rfl ?_
 unfold Yt
 refine zx ((wU (yZ (b:=false) (zt (x:=.str "shown") (y:=.str "heap") rfl rfl (by kernel_rfl)))).trans rfl) ?_
 refine zx ((wU (yZ (b:=false) (zt (x:=.str "shown") (y:=.str "ties") rfl rfl (by kernel_rfl)))).trans rfl) ?_
 refine zx ((wU (yZ (b:=false) (zt (x:=.str "shown") (y:=.str "steps") rfl rfl (by kernel_rfl)))).trans rfl) ?_
 refine zx ((wU (yZ (b:=false) (zt (x:=.str "shown") (y:=.str "far") rfl rfl (by kernel_rfl)))).trans rfl) ?_
 refine zx ((wU (yZ (b:=false) (zt (x:=.str "shown") (y:=.str "most") rfl rfl (by kernel_rfl)))).trans rfl) ?_
 refine zx ((wU (yZ (b:=false) (zt (x:=.str "shown") (y:=.str "reached") rfl rfl (by kernel_rfl)))).trans rfl) ?_
 refine zx ((wU (yZ (b:=false) (zt (x:=.str "shown") (y:=.str "need") rfl rfl (by kernel_rfl)))).trans rfl) ?_
 refine vM (d:=.str (wm m a h)) (yd ?_) rfl
 unfold zho
 rw[zJ (ds:=[z0 m a,.tup (h.map .int)]) rfl (zfV A),Option.bind_some]
 dsimp only
 rw[if_pos (Nat.le_trans A.short (by decide))]
 rfl
theorem zei {m:Int} {a:List Tie} {h:List Int} {c:List D} (A:vK m a h):yA [.obj (z0 m a) (.tup (h.map .int)) c,.str "shown"]=some (.str (wm m a h)):=by
 have d:z7 [.str "shown"]=some (.tup [.str "shown",.lst []]):=by kernel_rfl
 refine ZC (ρ:=[.v (.obj (z0 m a) (.tup (h.map .int)) c),.v (.str "shown"),.no,.no]) rfl ?_
 unfold wN
 refine zx (vj (σ':=[.v (.obj (z0 m a) (.tup (h.map .int)) c),.v (.str "shown"),.v (.tup [.str "shown",.lst []]),.no]) (zJ (ds:=[.str "shown"]) rfl d)) ?_
 refine zx (vj (σ':=[.v (.obj (z0 m a) (.tup (h.map .int)) c),.v (.str "shown"),.v (.tup [.str "shown",.lst []]),.v (.str "shown")]) (zt (x:=.tup [.str "shown",.lst []]) (y:=.int 0) rfl rfl rfl)) ?_
 refine wn ?_
 rw[Wo (yZ (b:=true) (V2 (x:=.str "shown") rfl (by kernel_rfl)))]
 exact vM (yd (zJ (ds:=[z0 m a,.tup (h.map .int),.str "shown",.lst []]) (zy (V2 (x:=.obj (z0 m a) (.tup (h.map .int)) c) rfl rfl) (zy (V2 (x:=.obj (z0 m a) (.tup (h.map .int)) c) rfl rfl) (zy rfl (zy rfl yF)))) (WT A))) rfl
theorem zaE (ns:List Int):noL (.tup (ns.map .int))=true:=by
 show zeV (ns.map .int)=true
 induction ns with
 | nil=>rfl
 | cons n ns a=>exact a
theorem wy (m:Int)(a:List Tie):noL (z0 m a)=true:=by
 have:zeV (a.map zi)=true:=by
  induction a with
  | nil=>rfl
  | cons t a b=>exact b
 show(true&&(zeV (a.map zi)&&true))=true
 rw[this]
 rfl
theorem za3 {w h a b c:D} {x:Str} {ns ps:List D} (m:z7 [a]=some (.tup [.str x,.lst ns])) (f:(x9 zS x).isSome=false) (j:x≠"back") (i:vk [w,h,.str x,.lst ns]=some (.tup [b,c])) (g:noL w=true) (l:noL h=true) (e:noL b=true) (d:noL c=true) (k:ps.length < 1000) :
 zA w h ps [a]=some (b,c,ps++[.tup [w,h]]):=by
 unfold zA
 dsimp only
 rw[m]
 dsimp only
 rw[f,if_neg Bool.false_ne_true,if_neg j,i]
 dsimp only
 rw[if_pos (zdc e d)]
 unfold ym
 dsimp only
 rw[if_pos ⟨g,l,e,d,k⟩]
theorem zfO {w h b a:D} {c:List D} (e:noL b=true) (d:noL a=true):zA w h (c++[.tup [b,a]]) [.str "back"]=some (b,a,c):=by
 have f:z7 [.str "back"]=some (.tup [.str "back",.lst []]):=by kernel_rfl
 unfold zA
 dsimp only
 rw[f]
 dsimp only
 rw[if_neg (by decide +kernel),if_pos rfl]
 unfold zX
 rw[List.getLast?_concat,List.dropLast_concat]
 dsimp only
 rw[if_pos ⟨e,d⟩]
theorem XW:bootBuiltins "ValueError"=some (.type "ValueError"):=by decide +kernel
theorem zfA {n:Nat}(h:n<=13):n<=sizeLine:=by rw[sizeLine_eq];omega
theorem ZQ (T:Txt P w K mg base ad):zd7 P w K mg base 1 (ad.f 23) (ad.e 23) (Rw 23).ps (zd4 (clT ad) (λj=>j < 13/\zba K (zlx ad) ad.x_StoneError (clT ad j) j)):=by
 letI:KK:=⟨K,ad.dk⟩
 refine zh7 (N:=(Rw 23).N) (ps:=(Rw 23).ps) (T.d 23).fn (sc 23) (λe H Q E h=>by obtain⟨a,j,g,rfl,_⟩:=h;rfl) λk A outer s H e Q E t m c=>?_
 obtain⟨a,j,g,rfl,f,⟨d,b⟩,q⟩:=c
 refine⟨_,(yK (ww (i:=1) (sc 23).nd rfl (Or.inl rfl) (Vl (zn (zN yc rfl (T.z "isinstance" (by decide)) zq (zn (pv 0) (zn (ye (v:=.ref ad.x_NoWeb) rfl T.g_NoWeb rfl) z9))) (zn (zN yc rfl (T.z "isinstance" (by decide)) zq (zn (pv 0) (zn (ye (v:=.ref ad.x_NoKind) rfl T.g_NoKind rfl) z9))) (zn (zN yc rfl (T.z "isinstance" (by decide)) zq (zn (pv 0) (zn (ye (v:=.ref ad.x_NoHeap) rfl T.g_NoHeap rfl) z9))) (zn (zN yc rfl (T.z "isinstance" (by decide)) zq (zn (pv 0) (zn (ye (v:=.ref ad.x_NoPlace) rfl T.g_NoPlace rfl) z9))) z9))))))
  (yK (ww (i:=1) (sc 23).nd rfl (Or.inl rfl) (zeP zaP (pv 1) (Vl (zn (zN yc rfl (T.z "isinstance" (by decide)) zq (zn (pv 0) (zn (ye (v:=.ref ad.x_NoNumber) rfl T.g_NoNumber rfl) z9))) (zn (zN yc rfl (T.z "isinstance" (by decide)) zq (zn (pv 0) (zn (ye (v:=.ref ad.x_NoTally) rfl T.g_NoTally rfl) z9))) (zn (zN yc rfl (T.z "isinstance" (by decide)) zq (zn (pv 0) (zn (ye (v:=.ref ad.x_NotTree) rfl T.g_NotTree rfl) z9))) (zn (zN yc rfl (T.z "isinstance" (by decide)) zq (zn (pv 0) (zn (ye (v:=.ref ad.x_NotJoined) rfl T.g_NotJoined rfl) z9))) z9)))))))
  (yK (ww (i:=1) (sc 23).nd rfl (Or.inl rfl) (zeP zaP (pv 1) (Vl (zn (zN yc rfl (T.z "isinstance" (by decide)) zq (zn (pv 0) (zn (ye (v:=.ref ad.x_NoWeights) rfl T.g_NoWeights rfl) z9))) (zn (zN yc rfl (T.z "isinstance" (by decide)) zq (zn (pv 0) (zn (ye (v:=.ref ad.x_NoRow) rfl T.g_NoRow rfl) z9))) (zn (zN yc rfl (T.z "isinstance" (by decide)) zq (zn (pv 0) (zn (ye (v:=.ref ad.x_NoSteps) rfl T.g_NoSteps rfl) z9))) (zn (zN yc rfl (T.z "isinstance" (by decide)) zq (zn (pv 0) (zn (ye (v:=.ref ad.x_NoText) rfl T.g_NoText rfl) z9))) z9)))))))
  (yK (ww (i:=1) (sc 23).nd rfl (Or.inl rfl) (zeP zaP (pv 1) (Vl (zn (zN yc rfl (T.z "isinstance" (by decide)) zq (zn (pv 0) (zn (ye (v:=.ref ad.x_TooGreat) rfl T.g_TooGreat rfl) z9))) z9))))
  (yK (zg9 (PW.pt (zkL (zgv (zgE (zN yc rfl (T.z "isinstance" (by decide)) zq (zn (pv 0) (zn (vl (v:=.ty "ValueError") rfl (T.z "ValueError" (by decide)) XW rfl) z9))))) (zgY (Vx zbm (W2 PySem.F.plainAttrs_list PySem.F.slot_list_count PySem.F.type_list_count zdZ (pv 1) (zn zbw z9)) zr (yx _))))) (vb (Z6 (zjk zgR zr))) zcK) (vb (Z6 (W2 PySem.F.plainAttrs_list PySem.F.slot_list_index PySem.F.type_list_index zey (pv 1) (zn zbw z9))))))))),?_⟩
 refine zcI (cs:=[ad.x_NoWeb,ad.x_NoKind,ad.x_NoHeap,ad.x_NoPlace]) (bs:=[0 == j,1 == j,2 == j,3 == j]) b.look (congrArg (λl=>(l.drop 0).take 4) b.hot) (zfA (n:=4) (by decide)) rfl rfl f λp H1 S1=>?_
 refine X9 (cs:=[ad.x_NoNumber,ad.x_NoTally,ad.x_NotTree,ad.x_NotJoined]) (bs:=[4 == j,5 == j,6 == j,7 == j]) b.look (congrArg (λl=>(l.drop 4).take 4) b.hot) (by exact zfA (n:=8) (by decide)) S1 λo H2 S2=>?_
 refine X9 (cs:=[ad.x_NoWeights,ad.x_NoRow,ad.x_NoSteps,ad.x_NoText]) (bs:=[8 == j,9 == j,10 == j,11 == j]) b.look (congrArg (λl=>(l.drop 8).take 4) b.hot) (by exact zfA (n:=12) (by decide)) S2 λu H3 S3=>?_
 refine X9 (cs:=[ad.x_TooGreat]) (bs:=[12 == j]) b.look (congrArg (λl=>(l.drop 12).take 1) b.hot) (by exact zfA (n:=13) (by decide)) S3 λr H4 S4=>?_
 exact zhz b.val b.look d S4 (q _ S4.same)
noncomputable abbrev xR :=
 (zG (sIf (tOf (zh ltD (zc 1) (eFn Zm (za (zc 0) zo)))) (yM (zh ixD (zc 0) (zc 1))) zC)
  (yM (eC (.int 0))))
noncomputable def yW:=fnD 2 xR
theorem Z7 (ns:List Int)(k:Nat):∃ c:Int,yW [.scr ns,.int (k:Int)]=some (.int c):=by
 by_cases a:k < ns.length
 .obtain⟨c,e⟩:∃ c,ns[k]?=some c:=⟨_,List.getElem?_eq_getElem a⟩
  refine⟨c,?_⟩
  refine ZC (ρ:=[.v (.scr ns),.v (.int (k:Int))]) rfl ?_
  unfold xR
  refine wn ?_
  rw[Wo (yZ (b:=true) (zt (x:=.int (k:Int)) (y:=.int (ns.length:Nat)) rfl (zdu (ds:=[.scr ns]) rfl rfl) ?_))]
  .refine vM (d:=.int c) (yd (zt (x:=.scr ns) (y:=.int (k:Int)) rfl rfl ?_)) rfl
   show(L2.atI ns (k:Int)).map D.int=_
   rw[zgL (by omega) (show ns[(k:Int).toNat]?=some c from e)]
   rfl
  .show some (D.bl (decide ((k:Int) < (ns.length:Nat))))=_
   rw[decide_eq_true (by omega)]
 .refine⟨0,?_⟩
  refine ZC (ρ:=[.v (.scr ns),.v (.int (k:Int))]) rfl ?_
  unfold xR
  refine zx ((wU (yZ (b:=false) (zt (x:=.int (k:Int)) (y:=.int (ns.length:Nat)) rfl (zdu (ds:=[.scr ns]) rfl rfl) ?_))).trans rfl) (vM (yd rfl) rfl)
  show some (D.bl (decide ((k:Int) < (ns.length:Nat))))=_
  rw[decide_eq_false (by omega)]
theorem Y8 (T:Txt P w K mg base ad):T.Pr 24 1 2 yW:=by
 walk_at "p"
noncomputable abbrev wP :=
 (zG (xw false 1 (zh ixD (yy (zO (za (eC (.str "heap")) (za (eC (.str "ties")) (za (eC (.str "steps")) (za (eC (.str "reached")) (za (eC (.str "shown")) (za (eC (.str "back")) zo)))))))) (zh xg (zh yE (zc 0) (eC (.int 32))) (eC (.int 6)))))
  (zG (xw false 2 (zh ixD (yy (zO (za (eC (.str "web")) (za (eC (.str "row")) (za (eC (.str "ring")) (za (eC (.str "cube")) (za (eC (.str "full")) (za (eC (.str "star")) (za (eC (.str "most")) (za (eC (.str "need")) zo)))))))))) (zh xg (zh yE (zc 0) (eC (.int 192))) (eC (.int 8)))))
  (zG (xw false 3 (zh ixD (yy (zO (za (eC (.str "tie")) (za (eC (.str "cut")) (za (eC (.str "put")) (za (eC (.str "step")) (za (eC (.str "far")) zo))))))) (zh xg (zh yE (zc 0) (eC (.int 192))) (eC (.int 5)))))
  (zG (xw false 4 (yy (zO (za (zh zP (zc 1) (eC (.str " 1"))) (za (zh zP (zc 1) (eC (.str " "))) (za (zh zP (eC (.str " ")) (zc 1)) (za (zh zP (zc 1) (eC (.str "s"))) (za (eUn upD (zc 1)) (za (zc 2) (za (zh zP (zc 2) (eC (.str " 1 2"))) (za (zh zP (zc 2) (eC (.str " 01"))) zo)))))))))))
  (zG (xw false 4 (zh zP (zc 4) (yy (zO (za (zh zP (zc 2) (eC (.str " "))) (za (zh zP (zc 2) (eC (.str " -1"))) (za (zh zP (zc 2) (eC (.str " 1000"))) (za (zh zP (zc 2) (eC (.str " x"))) (za (zh zP (zc 2) (eC (.str "  1"))) (za (zc 3) (za (zh zP (zc 3) (eC (.str " 0"))) zo)))))))))))
  (zG (xw false 4 (zh zP (zc 4) (yy (zO (za (zh zP (zc 3) (eC (.str " 0 1 2"))) (za (zh zP (zc 3) (eC (.str " 0 x"))) (za (zh zP (zc 3) (eC (.str " 00 1"))) (za (zh zP (zc 3) (eC (.str " 0 01"))) (za (zh zP (zc 3) (eC (.str " 0  1"))) (za (zh zP (zh zP (eC (.str " ")) (zc 3)) (eC (.str " 0 1"))) zo))))))))))
  (zG (xw false 4 (zh zP (zc 4) (yy (zO (za (zh zP (zc 3) (eC (.str " 0 1 "))) (za (zh zP (eUn upD (zc 3)) (eC (.str " 0 1"))) (za (eC (.str "")) (za (eC (.str " ")) (za (eC (.str "tree 0")) (za (eC (.str "bar 0")) (za (eC .non) (za (eC (.int 7)) (za (eC (.bl true)) (za (wT (za (eC (.str "heap")) zo)) (za (yy (zO (za (eC (.str "heap")) zo))) zo)))))))))))))))
  (yM (zh ixD (zc 4) (zh xg (zc 0) (eC (.int 32))))))))))))
noncomputable def vZ:=fnD 5 wP
noncomputable def zi7 (d:D):Bool:=match wt [d] with
 | some j=>j == 9
 | none=>false
noncomputable def ws6:List D:=[.str "heap",.str "ties",.str "steps",.str "reached",.str "shown",.str "back"]
noncomputable def ws8:List D:=[.str "web",.str "row",.str "ring",.str "cube",.str "full",.str "star",.str "most",.str "need"]
noncomputable def ws5:List D:=[.str "tie",.str "cut",.str "put",.str "step",.str "far"]
noncomputable def eB0:Ev->Option D:=(yy (zO (za (zh zP (zc 1) (eC (.str " 1"))) (za (zh zP (zc 1) (eC (.str " "))) (za (zh zP (eC (.str " ")) (zc 1)) (za (zh zP (zc 1) (eC (.str "s"))) (za (eUn upD (zc 1)) (za (zc 2) (za (zh zP (zc 2) (eC (.str " 1 2"))) (za (zh zP (zc 2) (eC (.str " 01"))) zo))))))))))
noncomputable def eB1:Ev->Option D:=(yy (zO (za (zh zP (zc 2) (eC (.str " "))) (za (zh zP (zc 2) (eC (.str " -1"))) (za (zh zP (zc 2) (eC (.str " 1000"))) (za (zh zP (zc 2) (eC (.str " x"))) (za (zh zP (zc 2) (eC (.str "  1"))) (za (zc 3) (za (zh zP (zc 3) (eC (.str " 0"))) zo)))))))))
noncomputable def eB2:Ev->Option D:=(yy (zO (za (zh zP (zc 3) (eC (.str " 0 1 2"))) (za (zh zP (zc 3) (eC (.str " 0 x"))) (za (zh zP (zc 3) (eC (.str " 00 1"))) (za (zh zP (zc 3) (eC (.str " 0 01"))) (za (zh zP (zc 3) (eC (.str " 0  1"))) (za (zh zP (zh zP (eC (.str " ")) (zc 3)) (eC (.str " 0 1"))) zo))))))))
noncomputable def eB3:Ev->Option D:=(yy (zO (za (zh zP (zc 3) (eC (.str " 0 1 "))) (za (zh zP (eUn upD (zc 3)) (eC (.str " 0 1"))) (za (eC (.str "")) (za (eC (.str " ")) (za (eC (.str "tree 0")) (za (eC (.str "bar 0")) (za (eC .non) (za (eC (.int 7)) (za (eC (.bl true)) (za (wT (za (eC (.str "heap")) zo)) (za (yy (zO (za (eC (.str "heap")) zo))) zo)))))))))))))
noncomputable def zi9 (f:Ev->Option D)(k:Nat)(b c a:D):Bool:=match f [none,some b,some c,some a] with
 | some (.lst l)=>(l.length == k)&&l.all zi7
 | _=>false
theorem chk0:ws6.all (λa=>ws8.all λb=>zi9 eB0 8 a b .non)=true:=by kernel_rfl
theorem chk1:ws8.all (λa=>ws5.all λb=>zi9 eB1 7 .non a b)=true:=by kernel_rfl
theorem chk2:ws5.all (λa=>zi9 eB2 6 .non .non a)=true:=by kernel_rfl
theorem chk3:ws5.all (λa=>zi9 eB3 11 .non .non a)=true:=by kernel_rfl
theorem YA {f:Ev->Option D}{k:Nat}{c b a:D}(h:zi9 f k c b a=true):∃ l,f [none,some c,some b,some a]=some (.lst l)/\l.length=k/\l.all zi7=true:=by
 unfold zi9 at h
 split at h
 .rename_i l e
  rw[Bool.and_eq_true]at h
  exact⟨l,e,beq_iff_eq.mp h.1,h.2⟩
 .cases h
theorem Xw {ds:List D}{i:Int}(h0:0<=i)(a:i < (ds.length:Int)):∃ d,L2.atI ds i=some d/\d∈ds:=by
 have e:L2.atI ds i=some (ds[i.toNat]'(by omega)):=zgL h0 (List.getElem?_eq_getElem (by omega))
 exact⟨_,e,List.getElem_mem _⟩
theorem zae {n a b:Int}{ρ:Ev}(h:zc 0 ρ=some (.int n))(c:0 < a)(d:a < 1000)(e:0 < b):zh xg (zh yE (zc 0) (eC (.int a))) (eC (.int b)) ρ=some (.int (n / a % b)) :=
 zt (x:=.int (n / a)) (y:=.int b) (zt (x:=.int n) (y:=.int a) h rfl (XV c (by omega))) rfl (by rw[xl e])
theorem zkc {n:Int}(h0:0<=n):∃ d,vZ [.int n]=some d/\zi7 d=true:=by
 obtain⟨g,s,A⟩:=Xw (ds:=ws6) (i:=n / 32 % 6) (Int.emod_nonneg _ (by decide)) (Int.emod_lt_of_pos _ (by decide))
 obtain⟨b,D,r⟩:=Xw (ds:=ws8) (i:=n / 192 % 8) (Int.emod_nonneg _ (by decide)) (Int.emod_lt_of_pos _ (by decide))
 obtain⟨f,C,p⟩:=Xw (ds:=ws5) (i:=n / 192 % 5) (Int.emod_nonneg _ (by decide)) (Int.emod_lt_of_pos _ (by decide))
 obtain⟨a,v,k,t⟩:=YA (List.all_eq_true.mp (List.all_eq_true.mp chk0 g A) b r)
 obtain⟨c,u,l,b1⟩:=YA (List.all_eq_true.mp (List.all_eq_true.mp chk1 b r) f p)
 obtain⟨h,w,o,b2⟩:=YA (List.all_eq_true.mp chk2 f p)
 obtain⟨j,z,q,b3⟩:=YA (List.all_eq_true.mp chk3 f p)
 have E:(a++c++h++j).length=32:=by
  rw[List.length_append,List.length_append,List.length_append,k,l,o,q]
 have B:(a++c++h++j).all zi7=true:=by
  rw[List.all_append,List.all_append,List.all_append,t,b1,b2,b3]
  rfl
 obtain⟨d,e,m⟩:=Xw (ds:=a++c++h++j) (i:=n % 32) (Int.emod_nonneg _ (by decide)) (by rw[E];exact Int.emod_lt_of_pos _ (by decide))
 refine⟨d,?_,List.all_eq_true.mp B d m⟩
 refine ZC (ρ:=[.v (.int n),.no,.no,.no,.no]) rfl ?_
 unfold wP
 refine zx (vj (σ':=[.v (.int n),.v g,.no,.no,.no]) (zt (x:=.lst ws6) (y:=.int (n / 32 % 6)) rfl (zae rfl (by decide) (by decide) (by decide)) s)) ?_
 refine zx (vj (σ':=[.v (.int n),.v g,.v b,.no,.no]) (zt (x:=.lst ws8) (y:=.int (n / 192 % 8)) rfl (zae rfl (by decide) (by decide) (by decide)) D)) ?_
 refine zx (vj (σ':=[.v (.int n),.v g,.v b,.v f,.no]) (zt (x:=.lst ws5) (y:=.int (n / 192 % 5)) rfl (zae rfl (by decide) (by decide) (by decide)) C)) ?_
 refine zx (vj (σ':=[.v (.int n),.v g,.v b,.v f,.v (.lst a)]) (show eB0 [some (.int n),some g,some b,some f,none]=_ from v)) ?_
 refine zx (vj (σ':=[.v (.int n),.v g,.v b,.v f,.v (.lst (a++c))]) (zt (x:=.lst a) (y:=.lst c) rfl (show eB1 [some (.int n),some g,some b,some f,some (.lst a)]=_ from u) (zd2 (by rw[k,l];decide)))) ?_
 refine zx (vj (σ':=[.v (.int n),.v g,.v b,.v f,.v (.lst (a++c++h))]) (zt (x:=.lst (a++c)) (y:=.lst h) rfl (show eB2 [some (.int n),some g,some b,some f,some (.lst (a++c))]=_ from w) (zd2 (by rw[List.length_append,k,l,o];decide)))) ?_
 refine zx (vj (σ':=[.v (.int n),.v g,.v b,.v f,.v (.lst (a++c++h++j))]) (zt (x:=.lst (a++c++h)) (y:=.lst j) rfl (show eB3 [some (.int n),some g,some b,some f,some (.lst (a++c++h))]=_ from z) (zd2 (by rw[List.length_append,List.length_append,k,l,o,q];decide)))) ?_
 exact vM (yd (zt (x:=.lst (a++c++h++j)) (y:=.int (n % 32)) rfl (zt (x:=.int n) (y:=.int 32) rfl rfl (by rw[xl (by decide)])) e)) rfl
theorem Vy (T:Txt P w K mg base ad):T.Pr 29 1 1 vZ:=by
 letI:KK:=⟨K,ad.dk⟩
 refine Xk (N:=(Rw 29).N) (ps:=(Rw 29).ps) (T.d 29).fn (sc 29) (g:=wP) λb A outer s H E c=>?_
 unfold wP
 exact(zl (yN (m:=false) (i:=1) (sc 29).nd rfl (Or.inl rfl) (xP (wl (xz (zb (zk zj) (zb (zk zj) (zb (zk zj) (zb (zk zj) (zb (zk zj) (zb (zk zj) zm)))))))) (Z0 (Xj (edv 0) (zw zr)) (zw zr)) (λ_ _=>rfl)))
  (zl (yN (m:=false) (i:=2) (sc 29).nd rfl (Or.inl rfl) (xP (wl (xz (zb (zk zj) (zb (zk zj) (zb (zk zj) (zb (zk zj) (zb (zk zj) (zb (zk zj) (zb (zk zj) (zb (zk zj) zm)))))))))) (Z0 (Xj (edv 0) (zw zr)) (zw zr)) (λ_ _=>rfl)))
  (zl (yN (m:=false) (i:=3) (sc 29).nd rfl (Or.inl rfl) (xP (wl (xz (zb (zk zj) (zb (zk zj) (zb (zk zj) (zb (zk zj) (zb (zk zj) zm))))))) (Z0 (Xj (edv 0) (zw zr)) (zw zr)) (λ_ _=>rfl)))
  (zl (yN (m:=false) (i:=4) (sc 29).nd rfl (Or.inl rfl) (wl (xz (zb (zE (edv 1) (zk zj)) (zb (zE (edv 1) (zk zj)) (zb (zE (zk zj) (edv 1)) (zb (zE (edv 1) (zk zj)) (zb (za8 (edv 1) (λa=>zeb PySem.F.plainAttrs_str PySem.F.slot_str_upper PySem.F.type_str_upper zaQ a)) (zb (edv 2) (zb (zE (edv 2) (zk zj)) (zb (zE (edv 2) (zk zj)) zm)))))))))))
  (zl (yN (m:=false) (i:=4) (sc 29).nd rfl (Or.inl rfl) (zE (edv 4) (wl (xz (zb (zE (edv 2) (zk zj)) (zb (zE (edv 2) (zk zj)) (zb (zE (edv 2) (zk zj)) (zb (zE (edv 2) (zk zj)) (zb (zE (edv 2) (zk zj)) (zb (edv 3) (zb (zE (edv 3) (zk zj)) zm)))))))))))
  (zl (yN (m:=false) (i:=4) (sc 29).nd rfl (Or.inl rfl) (zE (edv 4) (wl (xz (zb (zE (edv 3) (zk zj)) (zb (zE (edv 3) (zk zj)) (zb (zE (edv 3) (zk zj)) (zb (zE (edv 3) (zk zj)) (zb (zE (edv 3) (zk zj)) (zb (zE (zE (zk zj) (edv 3)) (zk zj)) zm))))))))))
  (zl (yN (m:=false) (i:=4) (sc 29).nd rfl (Or.inl rfl) (zE (edv 4) (wl (xz (zb (zE (edv 3) (zk zj)) (zb (zE (za8 (edv 3) (λa=>zeb PySem.F.plainAttrs_str PySem.F.slot_str_upper PySem.F.type_str_upper zaQ a)) (zk zj)) (zb (zk zj) (zb (zk zj) (zb (zk zj) (zb (zk zj) (zb (Va WS) (zb (zw zr) (zb (zf4 zbw) (zb (Y0 (zb (zk zj) zm)) (zb (wl (xz (zb (zk zj) zm))) zm)))))))))))))))
  (zH (wf (xP (edv 4) (Z0 (edv 0) (zw zr)) (λ_ _=>rfl)))))))))))
noncomputable abbrev yX :=
 (zG (zj8 (xEx (xMet 2 vm (zc 0) (za (zc 1) zo))) (sKx (kDo 0 2 zA (.str "ok") (za (zc 1) zo))) (zi2 [9] (fEq (fK [9]) 9)))
  (yM (eC (.bl false))))
noncomputable def xQ:=fnD 3 yX
theorem zbz {w h d:D}{b:List D}(a:zi7 d=true):xQ [.obj w h b,d]=some (.bl true):=by
 have c:wt [d]=some 9:=by
  unfold zi7 at a
  split at a
  .rename_i j e
   rw[e,beq_iff_eq.mp a]
  .cases a
 refine ZC (ρ:=[.v (.obj w h b),.v d,.no]) rfl ?_
 unfold yX
 refine wn (vM (d:=.bl true) (zgg (j:=9) ?_ (by kernel_rfl)) rfl)
 show(vm [.obj w h b,d])=some 9
 show((some [d]).bind λds=>if ds.length=1 then wt ds else none)=some 9
 rw[Option.bind_some,if_pos (show [d].length=1 from rfl)]
 exact c
theorem Zn (T:Txt P w K mg base ad):T.Pr 30 11 2 xQ:=by
 letI:KK:=⟨K,ad.dk⟩
 have H_kinds:=ZQ T
 have a:∀ j,j∈[9]->j < 13/\zba K (zlx ad) ad.x_StoneError (clT ad j) j:=by
  intro j f
  simp only[List.mem_cons,List.not_mem_nil,or_false]at f
  rcases f with rfl
  .exact⟨by decide,.of T.y_NoRow⟩
 have c:∀ (h:Nat->Option D) j d,zi2 [9] h j=some d->PySem.W.exmOne K (.ref (clT ad j)) (.ref ad.x_StoneError)=some true:=λh j d e=>by rw[hclT ad j];exact(a _ (zh1 e)).2.exm
 have X_Desk_say:=WF T
 have K_Desk_say:=v9 T
 refine Xk (N:=(Rw 30).N) (ps:=(Rw 30).ps) (T.d 30).fn (sc 30) (g:=yX) λm A outer s H E b=>?_
 unfold yX
 exact(zl (zje (i:=2) rfl rfl rfl (sc 30).nd rfl rfl rfl T.g_StoneError (λk W E0 l=>(zak (ziw (zkj T.dkc.cl T.mm_Desk_say (X_Desk_say.mono (by decide)) l b T.mb_Desk_say (edv 0) (zb (edv 1) zm))))) (λk W=>(zH (Vw (Zo T.dkc.cl T.mm_Desk_say (K_Desk_say.mono (by decide)) b T.mb_Desk_say (pv 0) (zb (edv 1) zm))))) (c _) (λok n=>(vb (Z6 (V4 zjs (zfl (E:=λ_ _ _=>False) H_kinds (b.mono (by decide)) rfl (T.d 23).at_ (T.d 23).kp (T.d 23).bd ok (zn (pv 2) z9)) zr (yx _))))) (zjG (zjl (zmd (zgn (ok:=_) (hclT ad) a)))))
  (zH (wf (zf4 zbw))))
noncomputable abbrev zaq :=
 (sIf (Zi (yu (tOf (zp 2 xQ (za (zc 1) (za (zp 1 vZ (za (zp 2 z6 (za (zc 6) (za (eC (.int 0)) zo))) zo)) zo))))) (tOf (zh neD (zia 2 yA (zc 1) (za (eC (.str "shown")) zo)) (zc 5)))) (yM (eC (.bl false))) zC)
noncomputable abbrev zad :=
 (sKx (kDo 1 2 zA (.str "ok") (za (zh zP (zh zP (zh zP (eC (.str "tie ")) (eFn zbV (za (zc 3) zo))) (eC (.str " "))) (eFn zbV (za (zc 4) zo))) zo)))
noncomputable abbrev zfr :=
 (zG (ziU 1)
  (zG (xw false 2 (zh zP (eC (.int 2)) (zh xg (zp 2 yW (za (zc 0) (za (eC (.int 0)) zo))) (eC (.int 7)))))
  (zG (sKx (kDo 1 2 zA (.str "ok") (za (zh zP (eC (.str "web ")) (eFn zbV (za (zc 2) zo))) zo)))
  (zG (ZD (iOf (zh ixD (zp 2 xk (za (zc 2) (za (zp 2 yW (za (zc 0) (za (eC (.int 1)) zo))) zo))) (eC (.int 1)))) (Wd 2 (xO (xr 3) (xO (xr 4) Vr))) zad)
  (zG (sKx (kDo 1 2 zA (.str "ok") (za (eC (.str "put 0 5")) zo)))
  (zG (xw true 5 (zia 2 yA (zc 1) (za (eC (.str "shown")) zo)))
  (zG (ZD (iOf (zh zP (eSl slD (zc 0) (x6 (eC (.int 2))) (x6 (eC (.int 42)))) (yy (zO (za (eC (.int 0)) (za (eC (.int 1)) (za (eC (.int 2)) zo))))))) (xr 6) zaq)
  (zG (sKx (kDo 1 2 zA (.str "ok") (za (eC (.str "web 1")) zo)))
  (sKr (zlH (zmg we (kDo 1 2 zA (.str "ok") (za (eC (.str "back")) zo)) (kEd (eC (.str "ok")))) (kEd (zh we (zia 2 yA (zc 1) (za (eC (.str "shown")) zo)) (zc 5)))))))))))))
noncomputable def zji:=fnD 7 zfr
noncomputable def eT:Ev->Option (List D):=za (zh zP (zh zP (zh zP (eC (.str "tie ")) (eFn zbV (za (zc 3) zo))) (eC (.str " "))) (eFn zbV (za (zc 4) zo))) zo
noncomputable def eW:Ev->Option (List D):=za (zh zP (eC (.str "web ")) (eFn zbV (za (zc 2) zo))) zo
noncomputable def zmb (a b:Int):Bool:=match eT [none,none,none,some (.int a),some (.int b)] with
 | some [.str r]=>(match z7 [.str r] with
  | some (.tup [.str x,.lst [.int c,.int d]])=>decide (x="tie")&&decide (c=a)&&decide (d=b)
  | _=>false)
 | _=>false
noncomputable def zlU (a:Int):Bool:=match eW [none,none,some (.int a)] with
 | some [.str r]=>(match z7 [.str r] with
  | some (.tup [.str x,.lst [.int c]])=>decide (x="web")&&decide (c=a)
  | _=>false)
 | _=>false
theorem zfC:(List.range 8).all (λa=>(List.range 8).all λb=>zmb (a:Int) (b:Int))=true:=by kernel_rfl
theorem zeK:(List.range 9).all (λa=>zlU (a:Int))=true:=by kernel_rfl
theorem ziD {a b:Int} (h:zmb a b=true):∃ r:Str,eT [none,none,none,some (.int a),some (.int b)]=some [.str r]/\z7 [.str r]=some (.tup [.str "tie",.lst [.int a,.int b]]):=by
 unfold zmb at h
 split at h
 .rename_i r e
  split at h
  .rename_i x c d f
   rw[Bool.and_eq_true,Bool.and_eq_true]at h
   refine⟨r,e,?_⟩
   rw[f,of_decide_eq_true h.1.1,of_decide_eq_true h.1.2,of_decide_eq_true h.2]
  .cases h
 .cases h
theorem zhy {a:Int} (h:zlU a=true):∃ r:Str,eW [none,none,some (.int a)]=some [.str r]/\z7 [.str r]=some (.tup [.str "web",.lst [.int a]]):=by
 unfold zlU at h
 split at h
 .rename_i r e
  split at h
  .rename_i x c b
   rw[Bool.and_eq_true]at h
   refine⟨r,e,?_⟩
   rw[b,of_decide_eq_true h.1,of_decide_eq_true h.2]
  .cases h
 .cases h
theorem zhb {a b:Int} (c:0<=a/\a < 8) (d:0<=b/\b < 8):∃ r:Str,eT [none,none,none,some (.int a),some (.int b)]=some [.str r]/\z7 [.str r]=some (.tup [.str "tie",.lst [.int a,.int b]]):=by
 have h:=List.all_eq_true.mp (List.all_eq_true.mp zfC a.toNat (List.mem_range.mpr (by omega))) b.toNat (List.mem_range.mpr (by omega))
 rw[show((a.toNat:Nat):Int)=a by omega,show((b.toNat:Nat):Int)=b by omega]at h
 exact ziD h
theorem zg8 {a:Int} (b:0<=a/\a < 9):∃ r:Str,eW [none,none,some (.int a)]=some [.str r]/\z7 [.str r]=some (.tup [.str "web",.lst [.int a]]):=by
 have h:=List.all_eq_true.mp zeK a.toNat (List.mem_range.mpr (by omega))
 rw[show((a.toNat:Nat):Int)=a by omega]at h
 exact zhy h
theorem ziP (x:Str):neD (.str x) (.str x)=some (.bl false):=by
 show some (D.bl (!decide (x=x)))=_
 rw[decide_eq_true rfl]
 rfl
theorem zbo {n:Nat}{t:Tie}(h:0<=t.1/\t.1 < t.2/\t.2 < (n:Int)):t∈yD n:=by
 unfold yD
 rw[List.mem_flatMap]
 refine⟨t.1.toNat,List.mem_range.mpr (by omega),List.mem_map.mpr ⟨(t.2 - t.1 - 1).toNat,List.mem_range.mpr (by omega),Prod.ext ?_ ?_⟩⟩
 .show((t.1.toNat:Nat):Int)=t.1
  omega
 .show((t.1.toNat:Nat):Int)+1+(((t.2 - t.1 - 1).toNat:Nat):Int)=t.2
  omega
theorem zfb {m:Int}{a:List Tie}(ok:wr m a):a.length<=28:=by
 have d:=ok.lo
 have c:=ok.hi
 refine Nat.le_trans ((zgt ok).length_le_of_subset (l₂:=yD m.toNat) λt b=>zbo ?_) (YQ m.toNat (by omega)).2.2
 have:=ok.rng t b
 omega
theorem zfx (ns:List Int)(h:ns.length<=63):zji [.scr ns]=some (.bl true):=by
 obtain⟨Q,G⟩:=Z7 ns 0
 obtain⟨T,J⟩:=Z7 ns 1
 obtain⟨q,S⟩:∃ q:Int,Q % 7=q:=⟨_,rfl⟩
 obtain⟨q0,q1⟩:=zaI (by decide) S
 obtain⟨m,hm⟩:∃ m:Int,2+q=m:=⟨_,rfl⟩
 have s:1<=m/\m<=8:=by omega
 obtain⟨f,ej,ok,_⟩:=WR (n:=m) (c:=T) s.1 s.2
 have U:=zfb ok
 have M:∀ k,wr m (f.take k):=λk=>⟨ok.lo,ok.hi,λt B=>ok.rng t (List.mem_of_mem_take B),ok.srt.sublist (List.take_sublist k f)⟩
 have v:∀ k,noL (.tup ((wQ k).map .int))=true:=λk=>zaE _
 refine ZC (ρ:=[.v (.scr ns),.no,.no,.no,.no,.no,.no]) rfl ?_
 unfold zfr
 refine zx (ρ':=[.v (.scr ns),.k w0 h0 ⟨none,[]⟩,.no,.no,.no,.no,.no]) rfl ?_
 refine zx (ρ':=[.v (.scr ns),.k w0 h0 ⟨none,[]⟩,.v (.int m),.no,.no,.no,.no]) (vj (zt (x:=.int 2) (y:=.int q) rfl (zt (x:=.int Q) (y:=.int 7) (zJ (ds:=[.scr ns,.int 0]) rfl G) rfl (by rw[xl (by decide),S])) (by rw[yo,hm]))) ?_
 obtain⟨r,P,O⟩:=zg8 (a:=m) ⟨by omega,by omega⟩
 refine zx (ρ':=[.v (.scr ns),.k (z0 m []) (.tup ((wQ m).map .int)) ⟨none,[.tup [w0,h0]]⟩,.v (.int m),.no,.no,.no,.no]) (zbj (YW (ds:=[.str r]) (ps':=[.tup [w0,h0]]) rfl (show eW _=_ from P) rfl rfl (za3 (ps:=[]) O (by kernel_rfl) (by decide) (W9 s.1 s.2) rfl rfl (wy _ _) (v m) (by decide)))) ?_
 refine wn (zeu (ds:=f.map zi) (λi ρ=>∃ (ps:List D) (l o:Sl),ps.length=i+1/\ρ=[.v (.scr ns),.k (z0 m (f.take i)) (.tup ((wQ m).map .int)) ⟨none,ps⟩,.v (.int m),l,o,.no,.no]) ?_ ⟨_,_,_,rfl,rfl⟩ ?_ ?_)
 .refine zaX (d:=.tup (f.map zi)) (zt (x:=z0 m f) (y:=.int 1) (zJ (ds:=[.int m,.int T]) (zy rfl (zy (zJ (ds:=[.scr ns,.int 1]) rfl J) yF)) ej) rfl rfl) rfl
 .rintro i d ρ C ⟨ps,l,o,F,rfl⟩
  rw[List.getElem?_map]at C
  obtain⟨t,B,rfl⟩:=Option.map_eq_some_iff.mp C
  have rt:=ok.rng t (List.mem_of_getElem? B)
  have hi:i < f.length:=(List.getElem?_eq_some_iff.mp B).1
  have R:f.take (i+1)=f.take i++[(t.1,t.2)]:=by
   rw[List.take_succ,B]
   rfl
  obtain⟨r,P,O⟩:=zhb (a:=t.1) (b:=t.2) ⟨rt.1,by omega⟩ ⟨by omega,by omega⟩
  refine⟨[.v (.scr ns),.k (z0 m (f.take i)) (.tup ((wQ m).map .int)) ⟨none,ps⟩,.v (.int m),.v (.int t.1),.v (.int t.2),.no,.no],rfl,?_⟩
  unfold zad
  have w:=M (i+1)
  rw[R]at w
  refine VB (ρ':=[.v (.scr ns),.k (z0 m (f.take (i+1))) (.tup ((wQ m).map .int)) ⟨none,ps++[.tup [z0 m (f.take i),.tup ((wQ m).map .int)]]⟩,.v (.int m),.v (.int t.1),.v (.int t.2),.no,.no]) (zbj (YW (ds:=[.str r]) rfl (show eT _=_ from P) rfl rfl ?_)) ⟨_,_,_,by rw[List.length_append,F];rfl,rfl⟩
  rw[R]
  exact za3 O (by kernel_rfl) (by decide) (zcC w (by rw[List.length_take];omega)) (wy _ _) (v m) (wy _ _) (v m) (by omega)
 .rintro ρ ⟨ps,l,o,F,rfl⟩
  rw[List.length_map]at F
  rw[List.length_map,List.take_length]
  have A:=zcH ok U
  have N:noL (.tup ((wk m).map .int))=true:=zaE _
  have V:z7 [.str "put 0 5"]=some (.tup [.str "put",.lst [.int 0,.int 5]]):=by kernel_rfl
  obtain⟨g,u⟩:∃ g,ps++[D.tup [z0 m f,.tup ((wQ m).map .int)]]=g:=⟨_,rfl⟩
  have a0:g.length < 999:=by rw[<-u,List.length_append,F];show f.length+1+1 < 999;omega
  refine zx (ρ':=[.v (.scr ns),.k (z0 m f) (.tup ((wk m).map .int)) ⟨none,g⟩,.v (.int m),l,o,.no,.no]) (zbj (YW (ds:=[.str "put 0 5"]) (ps':=g) rfl rfl rfl rfl (by rw[<-u];exact za3 V (by kernel_rfl) (by decide) (zcG ok U) (wy _ _) (v m) (wy _ _) N (by omega)))) ?_
  have H:∀ {ρ:Ev} {I:List D},zc 1 ρ=some (.obj (z0 m f) (.tup ((wk m).map .int)) I)->zia 2 yA (zc 1) (za (eC (.str "shown")) zo) ρ=some (.str (wm m f (wk m))):=λ{ρ I} e=>by
   unfold zia
   rw[e,Option.bind_some]
   show((some [D.str "shown"]).bind λj=>if j.length+1=2 then yA (.obj (z0 m f) (.tup ((wk m).map .int)) I::j)else none)=_
   rw[Option.bind_some,if_pos (show [D.str "shown"].length+1=2 from rfl)]
   exact zei A
  refine zx (ρ':=[.v (.scr ns),.k (z0 m f) (.tup ((wk m).map .int)) ⟨none,g⟩,.v (.int m),l,o,.v (.str (wm m f (wk m))),.no]) (vd (vG (@H _ g rfl) rfl)) ?_
  obtain⟨E,K⟩:∃ E:List Int,(zbI ns (some 2) (some 42))++[0,1,2]=E:=⟨_,rfl⟩
  have L:((zbI ns (some 2) (some 42)).map D.int).length+3<=1000:=by rw[List.length_map];have:=zf7 ns (some 2) (some 42);omega
  refine wn (zeu (ds:=E.map .int) (λi ρ=>∃ p,ρ=[.v (.scr ns),.k (z0 m f) (.tup ((wk m).map .int)) ⟨none,g⟩,.v (.int m),l,o,.v (.str (wm m f (wk m))),p]) ?_ ⟨_,rfl⟩ ?_ ?_)
  .refine zaX (d:=.lst (E.map .int)) (zt (x:=.lst ((zbI ns (some 2) (some 42)).map D.int)) (y:=.lst [.int 0,.int 1,.int 2]) rfl rfl ?_) rfl
   rw[zd2 L,<- K,List.map_append]
   rfl
  .rintro i d ρ C ⟨p,rfl⟩
   rw[List.getElem?_map]at C
   obtain⟨z,hz,rfl⟩:=Option.map_eq_some_iff.mp C
   refine⟨[.v (.scr ns),.k (z0 m f) (.tup ((wk m).map .int)) ⟨none,g⟩,.v (.int m),l,o,.v (.str (wm m f (wk m))),.v (.int z)],rfl,?_⟩
   unfold zaq
   obtain⟨d,Z,hb⟩:=zkc (zag z 0)
   refine zdE (c:=false) (zkR (zbc (b:=true) (yZ (zJ (ds:=[.obj (z0 m f) (.tup ((wk m).map .int)) g,d]) (zy rfl (zy (zJ (ds:=[.int (zdq z 0)]) (zy (zJ (ds:=[.int z,.int 0]) rfl rfl) yF) Z) yF)) (zbz hb)))) (yZ (zt (x:=.str (wm m f (wk m))) (y:=.str (wm m f (wk m))) (@H _ g rfl) rfl (ziP _)))) (λz=>by cases z) λ_=>?_
   exact VB rfl ⟨_,rfl⟩
  .rintro ρ ⟨p,rfl⟩
   have X:z7 [.str "web 1"]=some (.tup [.str "web",.lst [.int 1]]):=by kernel_rfl
   refine zx (ρ':=[.v (.scr ns),.k (z0 1 []) (.tup ((wQ 1).map .int)) ⟨none,g++[.tup [z0 m f,.tup ((wk m).map .int)]]⟩,.v (.int m),l,o,.v (.str (wm m f (wk m))),p]) (zbj (YW (ds:=[.str "web 1"]) rfl rfl rfl rfl (za3 X (by kernel_rfl) (by decide) (W9 (by decide) (by decide)) (wy _ _) N (wy _ _) (v 1) (by omega)))) ?_
   refine vM (d:=.bl true) ?_ rfl
   have Y:kDo 1 2 zA (.str "ok") (za (eC (.str "back")) zo) [.v (.scr ns),.k (z0 1 []) (.tup ((wQ 1).map .int)) ⟨none,g++[.tup [z0 m f,.tup ((wk m).map .int)]]⟩,.v (.int m),l,o,.v (.str (wm m f (wk m))),p]=some (.str "ok",[.v (.scr ns),.k (z0 m f) (.tup ((wk m).map .int)) ⟨none,g⟩,.v (.int m),l,o,.v (.str (wm m f (wk m))),p]) :=
    YW (ds:=[.str "back"]) rfl rfl rfl rfl (zfO (wy _ _) N)
   unfold sKr zlH zmg
   rw[Y,Option.bind_some]
   have k2:kEd (eC (.str "ok")) [.v (.scr ns),.k (z0 m f) (.tup ((wk m).map .int)) ⟨none,g⟩,.v (.int m),l,o,.v (.str (wm m f (wk m))),p]=some (.str "ok",[.v (.scr ns),.k (z0 m f) (.tup ((wk m).map .int)) ⟨none,g⟩,.v (.int m),l,o,.v (.str (wm m f (wk m))),p]):=rfl
   have W:kEd (zh we (zia 2 yA (zc 1) (za (eC (.str "shown")) zo)) (zc 5)) [.v (.scr ns),.k (z0 m f) (.tup ((wk m).map .int)) ⟨none,g⟩,.v (.int m),l,o,.v (.str (wm m f (wk m))),p]=some (.bl true,[.v (.scr ns),.k (z0 m f) (.tup ((wk m).map .int)) ⟨none,g⟩,.v (.int m),l,o,.v (.str (wm m f (wk m))),p]):=by
    unfold kEd
    rw[vG (d:=.bl true) (zt (x:=.str (wm m f (wk m))) (y:=.str (wm m f (wk m))) (@H _ g rfl) rfl (by rw[zV,decide_eq_true rfl])) rfl]
    rfl
   dsimp only
   rw[k2,Option.bind_some,if_pos ⟨rfl,rfl⟩,zV,decide_eq_true rfl,Option.bind_some,if_pos (show noL (D.bl true)=true from rfl),Option.bind_some]
   dsimp only
   show(match (some true).bind λc=>if c=true then kEd _ _ else _ with | some (d,_)=>Ctl.rt d | none=>.no)=_
   rw[Option.bind_some,if_pos rfl,W]
theorem zkC (T:Txt P w K mg base ad):xA P w K mg base CX0 40 (ad.f 31) (ad.e 31) (Rw 31).ps (zb4 K):=by
 letI:KK:=⟨K,ad.dk⟩
 have G__law_cell_at:=Y8 T
 have G__law_stir:=wx T
 have G__law_joined_by:=vS T
 have G__law_bad:=Vy T
 have G__law_refused:=Zn T
 have G_Desk_say:=zam T
 have K_Desk_say:=v9 T
 have I_init:=zgh T
 refine(zjt (p:=zji) (Xk (N:=(Rw 31).N) (ps:=(Rw 31).ps) (T.d 31).fn (sc 31) (g:=zfr) λb A outer s H E a=>?_) zfx).mono (j:=12) (by decide)
 unfold zfr zad zaq
 exact(zl (zg7 (i:=1) T.mkd (I_init.mono (by decide)) a rfl T.g_Desk T.mb_Desk___init__ (sc 31).nd rfl (Or.inl rfl))
  (zl (yN (m:=false) (i:=2) (sc 31).nd rfl (Or.inl rfl) (zE (zw zr) (Z0 (zM G__law_cell_at a rfl (T.d 24) (zb (edv 0) (zb (zw zr) zm))) (zw zr))))
  (zl (Vw (Zo T.dkc.cl T.mm_Desk_say (K_Desk_say.mono (by decide)) a T.mb_Desk_say (pv 1) (zb (zE (zk zj) (xT xG X2 rfl (T.z "str" (by decide)) YY (zb (edv 2) zm))) zm)))
  (zl (zd8 PassesOwn.never rfl (Zu (xP (zM G__law_joined_by a rfl (T.d 28) (zb (edv 2) (zb (zM G__law_cell_at a rfl (T.d 24) (zb (edv 0) (zb (zw zr) zm))) zm))) (zw zr) (λ_ _=>rfl))) (zgw rfl (Xx (XG (xh (i:=3) (sc 31).nd rfl (Or.inl rfl))) (Xx (XG (xh (i:=4) (sc 31).nd rfl (Or.inl rfl))) zcN))) (zH (Vw (Zo T.dkc.cl T.mm_Desk_say (K_Desk_say.mono (by decide)) a T.mb_Desk_say (pv 1) (zb (zE (zE (zE (zk zj) (xT xG X2 rfl (T.z "str" (by decide)) YY (zb (edv 3) zm))) (zk zj)) (xT xG X2 rfl (T.z "str" (by decide)) YY (zb (edv 4) zm))) zm)))))
  (zl (Vw (Zo T.dkc.cl T.mm_Desk_say (K_Desk_say.mono (by decide)) a T.mb_Desk_say (pv 1) (zb (zk zj) zm)))
  (zl (yN (m:=true) (i:=5) (sc 31).nd rfl (Or.inl rfl) (zdN T.dkc.cl T.mm_Desk_say (G_Desk_say.mono (by decide)) a T.mb_Desk_say (edv 1) (zb (zk zj) zm)))
  (zl (zd8 PassesOwn.never rfl (Zu (zE (YB (edv 0) (Zg (zw zr)) (Zg (zw zr))) (wl (xz (zb (zw zr) (zb (zw zr) (zb (zw zr) zm))))))) (XG (xh (i:=6) (sc 31).nd rfl (Or.inl rfl))) (zH (wo (zi1 (zcQ (YL (ZZ (zM G__law_refused a rfl (T.d 30) (zb (edv 1) (zb (zM G__law_bad a rfl (T.d 29) (zb (zM G__law_stir a rfl (T.d 26) (zb (edv 6) (zb (zw zr) zm))) zm)) zm))))) (Vc (yr zbm W7 (yx _) (zdN T.dkc.cl T.mm_Desk_say (G_Desk_say.mono (by decide)) a T.mb_Desk_say (edv 1) (zb (zk zj) zm)) (edv 5))))) (zH (wf (zf4 zbw))) yj)))
  (zl (Vw (Zo T.dkc.cl T.mm_Desk_say (K_Desk_say.mono (by decide)) a T.mb_Desk_say (pv 1) (zb (zk zj) zm)))
  (zH (zmr (zjK (zjO (xW a) yV (yx _) (Zo T.dkc.cl T.mm_Desk_say (K_Desk_say.mono (by decide)) a T.mb_Desk_say (pv 1) (zb (zk zj) zm)) (zkT (zk zj))) (zjp (zkT (W8 (xW a) yV (yx _) (zdN T.dkc.cl T.mm_Desk_say (G_Desk_say.mono (by decide)) a T.mb_Desk_say (edv 1) (zb (zk zj) zm)) (edv 5)))))))))))))))
end
theorem all_mk {l:W.OpenLaw} {w:World} {K:W.Frag} {h:Heap} {mg:Str->Option Value} {fa:Addr} (X:K.In h) (G:h.Ns mainGlobals mg) (hfa:mg "law"=some (.ref fa)) {tk0:Tok} {tk1:Tok} {tk2:Tok}
 {iz0 ie0:Nat} {ih0_0 ih0_1 ih0_2 ih0_3 ih0_4 ih0_5 ih0_6 ih0_7 ih0_8 ih0_9 ih0_10:Int} {it0_0 iu0_0 it0_1 iu0_1 it0_2 iu0_2 it0_3 iu0_3 it0_4 iu0_4 it0_5 iu0_5 it0_6 iu0_6 it0_7 iu0_7 it0_8 iu0_8 it0_9 iu0_9 it0_10 iu0_10:Tok}
 (ia0:W.nsIn K mainGlobals "DEEDS"=some (some (.ref iz0))) (ib0:K.lookup iz0=some { cls:=.type "dict",data:=.dict #[{ hash:=ih0_0,key:=.str "web" it0_0,val:=.int 1 iu0_0 },{ hash:=ih0_1,key:=.str "row" it0_1,val:=.int 1 iu0_1 },{ hash:=ih0_2,key:=.str "ring" it0_2,val:=.int 1 iu0_2 },{ hash:=ih0_3,key:=.str "cube" it0_3,val:=.int 1 iu0_3 },{ hash:=ih0_4,key:=.str "full" it0_4,val:=.int 1 iu0_4 },{ hash:=ih0_5,key:=.str "star" it0_5,val:=.int 1 iu0_5 },{ hash:=ih0_6,key:=.str "tie" it0_6,val:=.int 2 iu0_6 },{ hash:=ih0_7,key:=.str "cut" it0_7,val:=.int 2 iu0_7 },{ hash:=ih0_8,key:=.str "put" it0_8,val:=.int 2 iu0_8 },{ hash:=ih0_9,key:=.str "step" it0_9,val:=.int 2 iu0_9 },{ hash:=ih0_10,key:=.str "back" it0_10,val:=.int 0 iu0_10 }] ie0 }) (id0:(iz0 == sysModules)=false)
 {iz1 ie1:Nat} {ih1_0 ih1_1 ih1_2 ih1_3 ih1_4 ih1_5 ih1_6 ih1_7:Int} {it1_0 iu1_0 it1_1 iu1_1 it1_2 iu1_2 it1_3 iu1_3 it1_4 iu1_4 it1_5 iu1_5 it1_6 iu1_6 it1_7 iu1_7:Tok}
 (ia1:W.nsIn K mainGlobals "QUESTIONS"=some (some (.ref iz1))) (ib1:K.lookup iz1=some { cls:=.type "dict",data:=.dict #[{ hash:=ih1_0,key:=.str "heap" it1_0,val:=.int 0 iu1_0 },{ hash:=ih1_1,key:=.str "ties" it1_1,val:=.int 0 iu1_1 },{ hash:=ih1_2,key:=.str "steps" it1_2,val:=.int 0 iu1_2 },{ hash:=ih1_3,key:=.str "far" it1_3,val:=.int 2 iu1_3 },{ hash:=ih1_4,key:=.str "most" it1_4,val:=.int 1 iu1_4 },{ hash:=ih1_5,key:=.str "reached" it1_5,val:=.int 0 iu1_5 },{ hash:=ih1_6,key:=.str "need" it1_6,val:=.int 1 iu1_6 },{ hash:=ih1_7,key:=.str "shown" it1_7,val:=.int 0 iu1_7 }] ie1 }) (id1:(iz1 == sysModules)=false)
 {cD:Addr} (da:W.nsIn K mainGlobals "Desk"=some (some (.ref cD))) (db1:W.plainGet K cD Str.empty=true) (db2:W.hasDictIn K cD=true) (db3:W.plainOver K cD=true) (dc:W.findIn K (.ref cD) "__setattr__"=some (some (.builtin "object.__setattr__"))) (db4:noAt K cD ["web","heap","past"]=true) (db5:W.makesIn K cD=true) (db6:W.keepIn K (.ref cD)=true)
 {mi0:Addr} {mod0 man0:Option Addr} {msl0:Array (Option Value)} {moc0 mkV0 mdc0 mpm0 mcd0 mct0:Value}
 (ma0:W.findIn K (.ref cD) "__init__"=some (some (.ref mi0))) (ml0:K.lookup mi0=some ⟨moc0,mod0,.func (W.fnOf "__init__" "Desk.__init__" (xb zR) (zU zR) (zg zR) .none mkV0 mdc0 mpm0 man0 mcd0 mct0),msl0⟩) (mc0:W.codeIn K mcd0 "Desk.__init__"=true) (mk0:W.keepIn K (.ref mi0)=true) (mf0:W.isFn K (.ref mi0)=true)
 {mi1:Addr} {mod1 man1:Option Addr} {msl1:Array (Option Value)} {moc1 mkV1 mdc1 mpm1 mcd1 mct1:Value}
 (ma1:W.findIn K (.ref cD) "say"=some (some (.ref mi1))) (ml1:K.lookup mi1=some ⟨moc1,mod1,.func (W.fnOf "say" "Desk.say" (xb yQ) (zU yQ) (zg yQ) .none mkV1 mdc1 mpm1 man1 mcd1 mct1),msl1⟩) (mc1:W.codeIn K mcd1 "Desk.say"=true) (mk1:W.keepIn K (.ref mi1)=true) (mf1:W.isFn K (.ref mi1)=true)
 {mi2:Addr} {mod2 man2:Option Addr} {msl2:Array (Option Value)} {moc2 mkV2 mdc2 mpm2 mcd2 mct2:Value}
 (ma2:W.findIn K (.ref cD) "go_on"=some (some (.ref mi2))) (ml2:K.lookup mi2=some ⟨moc2,mod2,.func (W.fnOf "go_on" "Desk.go_on" (xb yk) (zU yk) (zg yk) .none mkV2 mdc2 mpm2 man2 mcd2 mct2),msl2⟩) (mc2:W.codeIn K mcd2 "Desk.go_on"=true) (mk2:W.keepIn K (.ref mi2)=true) (mf2:W.isFn K (.ref mi2)=true)
 {mi3:Addr} {mod3 man3:Option Addr} {msl3:Array (Option Value)} {moc3 mkV3 mdc3 mpm3 mcd3 mct3:Value}
 (ma3:W.findIn K (.ref cD) "go_back"=some (some (.ref mi3))) (ml3:K.lookup mi3=some ⟨moc3,mod3,.func (W.fnOf "go_back" "Desk.go_back" (xb zW) (zU zW) (zg zW) .none mkV3 mdc3 mpm3 man3 mcd3 mct3),msl3⟩) (mc3:W.codeIn K mcd3 "Desk.go_back"=true) (mk3:W.keepIn K (.ref mi3)=true) (mf3:W.isFn K (.ref mi3)=true)
 (D:∀ r∈rows,Dx K mg ([]:List (Str × Addr)) r) (Z:∀ x∈zs,W.nsIn K mainGlobals x=some none)
 (gg0:W.nsIn K mainGlobals "MOST_PLACES"=some (some (.int 8 tk0)))
 (gg1:W.nsIn K mainGlobals "MOST_STONES"=some (some (.int 300 tk1)))
 (gg2:W.nsIn K mainGlobals "MOST_FIGURES"=some (some (.int 3 tk2)))
 {xx0 xx1 xx2 xx3 xx4 xx5 xx6 xx7 xx8 xx9 xx10 xx11 xx12 xx13:Addr}
 (xa0:W.nsIn K mainGlobals "NoWeb"=some (some (.ref xx0)))
 (xa1:W.nsIn K mainGlobals "NoKind"=some (some (.ref xx1)))
 (xa2:W.nsIn K mainGlobals "NoHeap"=some (some (.ref xx2)))
 (xa3:W.nsIn K mainGlobals "NoPlace"=some (some (.ref xx3)))
 (xa4:W.nsIn K mainGlobals "NoNumber"=some (some (.ref xx4)))
 (xa5:W.nsIn K mainGlobals "NoTally"=some (some (.ref xx5)))
 (xa6:W.nsIn K mainGlobals "NotTree"=some (some (.ref xx6)))
 (xa7:W.nsIn K mainGlobals "NotJoined"=some (some (.ref xx7)))
 (xa8:W.nsIn K mainGlobals "NoWeights"=some (some (.ref xx8)))
 (xa9:W.nsIn K mainGlobals "NoRow"=some (some (.ref xx9)))
 (xa10:W.nsIn K mainGlobals "NoSteps"=some (some (.ref xx10)))
 (xa11:W.nsIn K mainGlobals "NoText"=some (some (.ref xx11)))
 (xa12:W.nsIn K mainGlobals "TooGreat"=some (some (.ref xx12)))
 (xa13:W.nsIn K mainGlobals "StoneError"=some (some (.ref xx13)))
 (xc9:za5 K [xx0,xx1,xx2,xx3,xx4,xx5,xx6,xx7,xx8,xx9,xx10,xx11,xx12] xx13 xx9 9=true)
 (xb9:W.excIn K xx9 bmV "ValueError.__new__"=true)
 : ∃ fd:FuncData,(∀ (s:Shared) (v:Value),BindsTo s fd ⟨[v],[]⟩ [("script",v)])/\∀ base:Heap,K.In base->base.Ns mainGlobals mg->xA l.prog w K mg base CX0 40 fa fd ["script"] (zb4 K):=by
 have D':∀ i,Dx K mg ([]:List (Str × Addr)) (Rw i):=zaY D (D _ (List.mem_of_getElem? (i:=31) rfl))
 have e:=hfa.symm.trans (D' 31).choose_spec.choose_spec.1.at_
 cases e
 have FM0:=Xb (st:=zR) ml0 mc0 mk0
 have FM1:=Xb (st:=yQ) ml1 mc1 mk1
 have FM2:=Xb (st:=yk) ml2 mc2 mk2
 have FM3:=Xb (st:=zW) ml3 mc3 mk3
 have T:∀ base:Heap,Txt l.prog w K mg base ⟨λi=>(D' i).choose,λi=>(D' i).choose_spec.choose,iz0,iz1,cD,mi0,_,mi1,_,mi2,_,mi3,_,tk0,tk1,tk2,xx0,xx1,xx2,xx3,xx4,xx5,xx6,xx7,xx8,xx9,xx10,xx11,xx12,xx13⟩:=λbase=>⟨λi=>(D' i).choose_spec.choose_spec.1,λx hx=>W.mg_none_of X G (Z x hx),
  W.mg_of X G ia0,
  λh hK=>⟨id0,_,_,_,hK _ _ ib0,⟨rfl,rfl,rfl⟩,rfl,(.cons rfl (.int _ _) (.cons rfl (.int _ _) (.cons rfl (.int _ _) (.cons rfl (.int _ _) (.cons rfl (.int _ _) (.cons rfl (.int _ _) (.cons rfl (.int _ _) (.cons rfl (.int _ _) (.cons rfl (.int _ _) (.cons rfl (.int _ _) (.cons rfl (.int _ _) .nil)))))))))))⟩,
  W.mg_of X G ia1,
  λh hK=>⟨id1,_,_,_,hK _ _ ib1,⟨rfl,rfl,rfl⟩,rfl,(.cons rfl (.int _ _) (.cons rfl (.int _ _) (.cons rfl (.int _ _) (.cons rfl (.int _ _) (.cons rfl (.int _ _) (.cons rfl (.int _ _) (.cons rfl (.int _ _) (.cons rfl (.int _ _) .nil))))))))⟩,
  W.mg_of X G da,
  ⟨⟨db1,db2,db3,dc⟩,V6 db4 _ (by decide),V6 db4 _ (by decide),V6 db4 _ (by decide)⟩,
  ⟨db5,ma0,mf0,db6⟩,
  FM0,
  FM0.binds (ps:=["self"]) (λ_ _ _ _ _ _ us hl=>by repeat' first | rfl | (exfalso;revert hl;simp;done) | (rcases us with _ | ⟨_,us⟩)),
  FM1,
  FM1.binds (ps:=["self","row"]) (λ_ _ _ _ _ _ us hl=>by repeat' first | rfl | (exfalso;revert hl;simp;done) | (rcases us with _ | ⟨_,us⟩)),
  ⟨ma1,mf1,mk1⟩,
  FM2,
  FM2.binds (ps:=["self","state"]) (λ_ _ _ _ _ _ us hl=>by repeat' first | rfl | (exfalso;revert hl;simp;done) | (rcases us with _ | ⟨_,us⟩)),
  ⟨ma2,mf2,mk2⟩,
  FM3,
  FM3.binds (ps:=["self"]) (λ_ _ _ _ _ _ us hl=>by repeat' first | rfl | (exfalso;revert hl;simp;done) | (rcases us with _ | ⟨_,us⟩)),
  ⟨ma3,mf3,mk3⟩
,
 W.mg_of X G gg0,
 W.mg_of X G gg1,
 W.mg_of X G gg2,
 W.mg_of X G xa0,
 W.mg_of X G xa1,
 W.mg_of X G xa2,
 W.mg_of X G xa3,
 W.mg_of X G xa4,
 W.mg_of X G xa5,
 W.mg_of X G xa6,
 W.mg_of X G xa7,
 W.mg_of X G xa8,
 W.mg_of X G xa9,
 W.mg_of X G xa10,
 W.mg_of X G xa11,
 W.mg_of X G xa12,
 W.mg_of X G xa13,
 xb9,
 xc9⟩
 exact⟨_,λs v=>zda (D' 31).choose_spec.choose_spec.1.fn λ_ _ _ _ _ _=>rfl,λbase _ _=>zkC (T base)⟩
theorem walk {l:W.OpenLaw}{q:Program}{loose:List Str}{XP:(Str->Option Value)->Heap->Prop}{YP:World->Heap->Prop}{d:DefRec}{K:Params->W.Frag}(hn:l.most=some 63)(hdf:d.params.defaults=[])
 (hY:∀ (w:World) (h:Heap),YP w h->(K w.params).In h)
 (F:∀ (w:World) (mg:Str->Option Value) (fa:Addr) (h:Heap),(K w.params).In h->h.Ns mainGlobals mg->mg d.name=some (.ref fa) ->
  ∃ fd:FuncData,(∀ (s:Shared) (u:Value),BindsTo s fd ⟨[u],[]⟩ [("script",u)])/\∀ base:Heap,(K w.params).In base->base.Ns mainGlobals mg->xA l.prog w (K w.params) mg base CX0 40 fa fd ["script"] (zb4 (K w.params))) :
 PySem.W.WalkO q loose XP YP l.row.toRowW d [] (λf vs=>PySem.call f vs) :=
 L2.walk_of (n:=63) (k:=40) (x:="script") (CX:=λ_=>CX0) (sp:=λw=>zb4 (K w.params)) hn (by decide) hdf ⟨rfl,by decide,by decide⟩ hY F (λ_ _ a ns hl _ hS=>⟨a,ns,rfl,hS,hl,λ_=>rfl⟩) λ_ _ _ _ _ z=>z
end Mz
open PySem PySem.W PyProof.Rows
namespace PySem.W.Fast
theorem tw10500258417570025327:True:=⟨⟩
theorem tw10327952222795907089:True:=⟨⟩
theorem tw11006042159085573256:True:=⟨⟩
theorem tw1924170710071901851:True:=⟨⟩
theorem tw6146782232225275392:True:=⟨⟩
theorem tw3665073332812569649:True:=⟨⟩
theorem tw399511265559800349:True:=⟨⟩
theorem tw3469602608898823741:True:=⟨⟩
theorem tw17111840623827722622:True:=⟨⟩
theorem tw8754014877389580717:True:=⟨⟩
theorem tw14878389421131936687:True:=⟨⟩
theorem tw9016301459233465348:True:=⟨⟩
theorem tw6655716470352966034:True:=⟨⟩
theorem tw8725622329858993052:True:=⟨⟩
theorem tw8289214235958451385:True:=⟨⟩
theorem tw14571232031321538569:True:=⟨⟩
theorem tw13219105858787897451:True:=⟨⟩
theorem tw13922665663440910062:True:=⟨⟩
theorem tw17853314676141498286:True:=⟨⟩
theorem tw15741611361362845947:True:=⟨⟩
theorem tw6209991404816558677:True:=⟨⟩
theorem tw14412521277989303316:True:=⟨⟩
theorem tw5846649035910780993:True:=⟨⟩
theorem tw6012508080591501261:True:=⟨⟩
theorem tw3800281709291484955:True:=⟨⟩
theorem tw2400812211080408730:True:=⟨⟩
theorem tw7415540646698360781:True:=⟨⟩
theorem tw12715628672912873350:True:=⟨⟩
theorem tw9167220952504276048:True:=⟨⟩
theorem tw6977437786514366673:True:=⟨⟩
theorem tw3773713131546018960:True:=⟨⟩
theorem tw8797142825547947060:True:=⟨⟩
theorem tw9560876083852759537:True:=⟨⟩
theorem tw5096665707115952884:True:=⟨⟩
theorem tw7614175787761881901:True:=⟨⟩
theorem tw8692148096581420218:True:=⟨⟩
theorem tw15072507065716285239:True:=⟨⟩
theorem tw2284141649008952992:True:=⟨⟩
theorem tw4128613276405170475:True:=⟨⟩
theorem tw10616725513304376915:True:=⟨⟩
theorem tw14990775519180616858:True:=⟨⟩
theorem tw13779573181694110659:True:=⟨⟩
theorem tw7137802186838374393:True:=⟨⟩
theorem tw16648428727637282028:True:=⟨⟩
theorem tw14407058269221752653:True:=⟨⟩
theorem tw17589657511490067323:True:=⟨⟩
theorem tw10236346784847228974:True:=⟨⟩
theorem tw17891364843134408277:True:=⟨⟩
theorem tw7370045472510084470:True:=⟨⟩
theorem tw8728146685007508039:True:=⟨⟩
theorem tw18345774906674158522:True:=⟨⟩
theorem tw10393954071893948793:True:=⟨⟩
theorem tw17762805450889593263:True:=⟨⟩
theorem tw5209231907118212195:True:=⟨⟩
theorem tw17023274941772993100:True:=⟨⟩
end PySem.W.Fast
set_option maxRecDepth 100000 in
set_option maxHeartbeats 0 in
theorem PySem.Challenge.cw_twoforone_k95_rows_that_are_none_holds : PySem.Challenge.rw_twoforone_k95_rows_that_are_none.Holds := by
  w_on;o_law;k_head;(case hw=>w_witness2)
  k_fill
  refine Mz.walk (l:=PySem.Challenge.rw_twoforone_k95_rows_that_are_none) rfl rfl (fun w h Y=>PySem.W.kIn_of Y) ?F
  case F =>
    intro w mg fa h KX G hmg
    refine' Mz.all_mk KX G hmg ?ia0 ?ib0 ?id0 ?ia1 ?ib1 ?id1 ?da ?db1 ?db2 ?db3 ?dc ?db4 ?db5 ?db6 ?ma0 ?ml0 ?mc0 ?mk0 ?mf0 ?ma1 ?ml1 ?mc1 ?mk1 ?mf1 ?ma2 ?ml2 ?mc2 ?mk2 ?mf2 ?ma3 ?ml3 ?mc3 ?mk3 ?mf3 ?D ?Z ?gg0 ?gg1 ?gg2 ?xa0 ?xa1 ?xa2 ?xa3 ?xa4 ?xa5 ?xa6 ?xa7 ?xa8 ?xa9 ?xa10 ?xa11 ?xa12 ?xa13 ?xc9 ?xb9
    case ia0=>k_is
    case ib0=>k_is
    case id0=>decide
    case ia1=>k_is
    case ib1=>k_is
    case id1=>decide
    case da=>k_is
    case db1=>kernel_rfl
    case db2=>kernel_rfl
    case db3=>kernel_rfl
    case dc=>k_is
    case db4=>kernel_rfl
    case db5=>kernel_rfl
    case db6=>kernel_rfl
    case ma0=>k_is
    case ml0=>k_is
    case mc0=>k_is
    case mk0=>k_is
    case mf0=>k_is
    case ma1=>k_is
    case ml1=>k_is
    case mc1=>k_is
    case mk1=>k_is
    case mf1=>k_is
    case ma2=>k_is
    case ml2=>k_is
    case mc2=>k_is
    case mk2=>k_is
    case mf2=>k_is
    case ma3=>k_is
    case ml3=>k_is
    case mc3=>k_is
    case mk3=>k_is
    case mf3=>k_is
    case D =>
      repeat
        refine' Dl.Dx_cons (Dl.mkX KX G ?_ ?_ ?_ ?_ ?_ ?_) ?_
        any_goals k_is
        · intro _ _ _ _ _ _ us hl
          repeat' first | rfl | (exfalso;revert hl;simp;done) | (rcases us with _ | ⟨_,us⟩)
        · first | exact .inl rfl | exact .inr ⟨_,rfl,rfl⟩
      exact fun _ h=>nomatch h
    case Z =>
      repeat
        refine' Dl.Z_cons ?_ ?_
        · k_is
      exact fun _ h=>nomatch h
    case gg0 | gg1 | gg2 | xa0 | xa1 | xa2 | xa3 | xa4 | xa5 | xa6 | xa7 | xa8 | xa9 | xa10 | xa11 | xa12 | xa13=>k_is
    case xc9 | xb9=>kernel_rfl
